import PyProof.Rows.All
import Wide.All
import OpenK.AllK
import Wide.FinOn
import Lean
import PySem.Challenge.RW_primefold_k22_whole_factors
noncomputable section
set_option Elab.async false
set_option linter.all false
set_option maxRecDepth 100000
set_option maxHeartbeats 4000000
set_option bootstrap.genMatcherCode false
abbrev Z9:=@PySem.wpAny_bind
abbrev Z8:=@if_pos
abbrev Z7:=@PySem.wpAny_pure
abbrev Z6:=@if_neg
abbrev Z5:=@Nat.le_refl
abbrev Z4:=@PySem.W.Frag
abbrev Z3:=@PySem.Heap.get?_push_of_some
abbrev Z2:=@Option.some.inj
abbrev Z1:=@PySem.Heap.lt_size
abbrev Y9:=@List.length_map
abbrev Y8:=@Ne.symm
abbrev Y7:=@List.size_toArray
abbrev Y6:=@Nat.ne_of_lt
abbrev Y5:=@if_false
abbrev Y4:=@List.map_cons
abbrev Y3:=@Nat.zero_le
abbrev Y2:=@Bool.false_eq_true
abbrev Y1:=@List.getElem?_eq_getElem
abbrev X9:=@PySem.Heap.get?_push_size
abbrev X8:=@Nat.lt_of_lt_of_le
abbrev X7:=@List.mem_cons_self
abbrev X6:=@Bool.and_eq_true
abbrev X5:=@List.mem_cons_of_mem
abbrev X4:=@List.getElem?_set_ne
abbrev X3:=@PySem.mainGlobals
abbrev X2:=@Array.length_toList
abbrev X1:=@PySem.wpAny_holding
abbrev X0:=@PySem.wpAny_field
abbrev W9:=@PySem.sizeLine_eq
abbrev W8:=@List.getElem?_map
abbrev W7:=@Nat.lt_or_ge
abbrev W6:=@Bool.false_ne_true
abbrev W5:=@PySem.wpAny_newObj_type
abbrev W4:=@PySem.PassesOwn.never
abbrev W3:=@List.length_append
abbrev W2:=@Nat.le_trans
abbrev W1:=@PySem.wpAny_call_entry
abbrev W0:=@PySem.wpAny_mono
abbrev V9:=@Int.emod_lt_of_pos
abbrev V8:=@congrArg
abbrev V7:=@Array.getElem?_eq_getElem
abbrev V6:=@Bool.not_true
abbrev V5:=@List.filterMap_cons
abbrev V4:=@Int.emod_nonneg
abbrev V3:=@List.map_map
abbrev V2:=@PySem.Heap.SameBut.update
abbrev V1:=@PySem.FuncData
abbrev V0:=@if_true
abbrev U9:=@PySem.W.mg_none_of
abbrev U8:=@PySem.Obj.data_mapFields
abbrev U7:=@List.length_range
abbrev U6:=@Nat.sub_zero
abbrev U5:=@decide_eq_true_eq
abbrev U4:=@PySem.W.kia_one
abbrev U3:=@Nat.lt_irrefl
abbrev U2:=@PySem.Heap.get?_update_self
abbrev U1:=@List.replicate_succ
abbrev T9:=@List.find?_cons
abbrev T8:=@PySem.wpAny_rule
abbrev T7:=@PySem.wpAny_callSpecial?_slot
abbrev T6:=@List.mem_append_right
abbrev T5:=@Array.getElem?_toList
abbrev T4:=@Int.toNat_natCast
abbrev T3:=@PySem.wpAny_isInstance
abbrev T1:=@List.forIn_cons
abbrev Tb:=@PySem.wpAny_specialOf
abbrev Ta:=@PySem.wpAny_attempt
abbrev S9:=@List.getD_eq_getElem?_getD
abbrev S8:=@Array.getElem?_eq_none
abbrev S7:=@Nat.zero_add
abbrev S6:=@PySem.wpAny_typeOf
abbrev S5:=@PySem.wpAny_of_eq
abbrev S4:=@PySem.Heap.get?_update_other
abbrev S0:=@List.mem_append_left
abbrev SZ:=@List.length_set
abbrev SL:=@PySem.codeAny_builtin
abbrev SC:=@PySem.wpAny_setField
abbrev SB:=@Nat.ne_of_gt
abbrev R9:=@PySem.call_meets
abbrev R8:=@List.take_of_length_le
abbrev R7:=@List.length_replicate
abbrev R6:=@PySem.Around.under_plainId
abbrev R5:=@PySem.wpAny_setState_of
abbrev R4:=@List.length_take
abbrev R3:=@PySem.wpAny_seqItems
abbrev R1:=@List.map_nil
abbrev R0:=@List.getElem?_append_right
abbrev Rt:=@List.getLast?_eq_getElem?
abbrev Re:=@List.getElem?_append_left
abbrev Q9:=@List.map_congr_left
abbrev Q8:=@Array.forIn_toList
abbrev Q7:=@PySem.wpAny_setField_rec
abbrev Q6:=@List.flatten_cons
abbrev Q5:=@Int.emod_eq_of_lt
abbrev Q4:=@PySem.wpAny_truthy_bool
abbrev Q3:=@List.length_cons
abbrev Q2:=@PySem.isSubtype_type
abbrev Q0:=@PySem.W.mg_of
abbrev P9:=@PySem.plainId_quiet
abbrev P8:=@PySem.W.fnOf
abbrev P7:=@Nat.le_of_lt
abbrev P6:=@PySem.intKind_is
abbrev P5:=@PyProof.Rows.callWith_type1
abbrev P4:=@PySem.builtinLookup_eq_fast
abbrev P3:=@PySem.mem_of_lookup
abbrev P2:=@List.append_assoc
abbrev P1:=@PySem.wpAny_dictEntries
abbrev P0:=@List.getElem_mem
abbrev Pv:=@List.append_nil
abbrev Pi:=@Bool.or_eq_true
abbrev O9:=@PySem.wpAny_passesOwn
abbrev O8:=@PySem.wpAny_loadPart'
abbrev O7:=@PySem.typeLookup_type
abbrev O6:=@PySem.Heap.size_push
abbrev O5:=@PySem.W.nsIn
abbrev O4:=@Classical.em
abbrev O3:=@PyProof.Rows.listUpdate_at
abbrev O2:=@List.drop_eq_getElem_cons
abbrev O1:=@List.getElem?_eq_none
abbrev Os:=@PySem.Obj.isFreed_of_fields
abbrev On:=@List.getElem_range
abbrev N9:=@Nat.lt_succ_of_lt
abbrev N8:=@PySem.tupleKind_room_in1
abbrev N7:=@List.not_mem_nil
abbrev N6:=@PySem.Obj.cls_mapFields
abbrev N5:=@List.map_append
abbrev N4:=@PySem.wpAny_forIn_list
abbrev N3:=@PySem.W.keepIn
abbrev N2:=@List.forIn_nil
abbrev N1:=@PyProof.Rows.get?_update_seq
abbrev N0:=@PySem.codeAny_mono
abbrev M9:=@Lean.Grind.Semiring.pow_succ
abbrev M8:=@PySem.AutoSeq1.wpAny_loadPart'
abbrev M7:=@List.mem_of_getElem?
abbrev M6:=@PySem.wpAny_tupleItemsOf
abbrev M5:=@PySem.wpAny_Call_Name_kw
abbrev M4:=@Nat.lt_succ_self
abbrev M3:=@List.getElem_inj
abbrev M2:=@PySem.wpAny_askSetting
abbrev M1:=@List.drop_zero
abbrev M0:=@PySem.wpAny_updateSeq
abbrev L9:=@PySem.wpAny_dictEpoch
abbrev L8:=@Nat.mul_comm
abbrev L7:=@PySem.wpAny_call
abbrev L6:=@PySem.typeIs_int
abbrev L5:=@Prod.ext
abbrev L4:=@PyProof.Rows.seqEpoch_at
abbrev L3:=@PyProof.Rows.slot_tuple_getitem
abbrev L1:=@List.eq_nil_of_length_eq_zero
abbrev L0:=@PySem.wpAny_typeNameOfWhole_keyiter
abbrev LS:=@PySem.F.slot_dict_keyiterator_next
abbrev Lb:=@List.rel_of_pairwise_cons
abbrev La:=@List.getElem?_take_of_lt
abbrev K9:=@PySem.F.slot_tuple_iterator_next
abbrev K8:=@PySem.F.plainAttrs_list
abbrev K7:=@List.getElem?_replicate
abbrev K6:=@PySem.wpAny_typeNameOf_keyiter
abbrev K5:=@List.mem_of_mem_take
abbrev K4:=@PySem.isSubtype_tuple_tuple
abbrev K2:=@PySem.F.slot_enumerate_next
abbrev K1:=@List.map_replicate
abbrev K0:=@List.map_filterMap
abbrev KM:=@Bool.not_eq_true'
abbrev KF:=@PySem.wpAny_pyIter_tuple
abbrev KB:=@List.take_length
abbrev J9:=@PySem.wpAny_pyIter_slot
abbrev J8:=@PySem.Value.isInt_shape
abbrev J7:=@Nat.not_lt_zero
abbrev J6:=@Nat.min_eq_left
abbrev J5:=@List.of_mem_zip
abbrev J2:=@List.nil_append
abbrev J1:=@List.find?_some
abbrev IR:=@PySem.F.plain_list_iadd
abbrev H0:=@PySem.W.codeIn
abbrev G9:=@Bool.not_false
abbrev G8:=@Bool.and_false
abbrev G7:=@PySem.AutoSeq1.idx_int
abbrev G6:=@PySem.wpAny_ite_false
abbrev G5:=@PySem.wpAny_execs_nil
abbrev G4:=@List.mem_cons
abbrev G3:=@List.any_cons
abbrev G2:=@PySem.F.slot_int_rmul
abbrev G1:=@Bool.true_and
abbrev G0:=@PySem.wpAny_fieldsOf
abbrev GT:=@PySem.isSubtype_stop
abbrev GS:=@Nat.add_comm
abbrev GM:=@PySem.wpAny_standAt
abbrev GE:=@PySem.wpAny_newList
abbrev F5:=@PySem.wpAny_handled
abbrev F0:=@PySem.signature?_of
abbrev FB:=@Nat.le_succ
abbrev Ft:=@beq_iff_eq
abbrev E9:=@Nat.mod_lt
abbrev E8:=@PyProof.Rows.slicePart_none
abbrev E7:=@PySem.wpAny_throw
abbrev E6:=@or_false
abbrev E5:=@Lean.Grind.Semiring.pow_zero
abbrev E4:=@PySem.wpAny_richCompare_same_room
abbrev E3:=@PySem.F.args_tuple_add_2
abbrev E2:=@List.length_filterMap_le
abbrev E0:=@PySem.F.entry_tuple_add
abbrev D9:=@List.pairwise_singleton
abbrev D8:=@PySem.W.cellsFrom_some
abbrev D7:=@PySem.F.slot_tuple_add
abbrev D6:=@List.getElem?_set_self
abbrev D5:=@List.take_append_drop
abbrev D4:=@List.perm_append_comm
abbrev D3:=@List.dropLast_eq_take
abbrev D2:=@List.Pairwise.of_cons
abbrev D1:=@Nat.mul_le_mul_right
abbrev D0:=@Array.getElem_toList
abbrev Dd:=@PySem.Calls.callWith_builtin
abbrev Da:=@PySem.wpAny_notOrdered_dict
abbrev C9:=@Nat.lt_of_le_of_lt
abbrev C8:=@Nat.eq_zero_or_pos
abbrev C7:=@Nat.add_sub_cancel
abbrev C6:=@bne_self_eq_false
abbrev C5:=@PySem.W.kitx_list
abbrev C4:=@PySem.W.kitx_dict
abbrev B9:=@Nat.le_of_lt_succ
abbrev B8:=@List.ext_getElem?
abbrev B7:=@PySem.Calls.evalArgs_plain
abbrev B6:=@PyProof.Rows.F.plain_set_update_loop
abbrev B5:=@PySem.wpAny_setEntries_of
abbrev B4:=@beq_self_eq_true
abbrev B3:=@List.nodup_range
abbrev B2:=@List.drop_length
abbrev A9:=@List.all_eq_true
abbrev A8:=@List.foldl_cons
abbrev A7:=@PySem.F.args_tuple_mul_2
abbrev A6:=@PySem.wpAny_pyIter_enum
abbrev A5:=@List.take_succ
abbrev A4:=@PySem.F.entry_tuple_mul
abbrev A3:=@PySem.noFill_tuple_add
abbrev A2:=@PySem.entryFor_of_tree
abbrev AC:=@PySem.F.slot_tuple_mul
abbrev z9:=@Nat.succ_mul
abbrev z8:=@Nat.sub_self
abbrev z7:=@Nat.lt_trans
abbrev z6:=@Nat.le_of_eq
abbrev zy:=@PySem.wpAny_runValue
abbrev zx:=@PySem.wpAny_newTuple
abbrev zw:=@PySem.entryFor_alias
abbrev zv:=@Array.getD_eq_getD_getElem?
abbrev zu:=@PySem.F.excBase_ValueError
abbrev zt:=@List.mem_of_find?_eq_some
abbrev zr:=@PyProof.Rows.callWith_kw
abbrev zq:=@PySem.F.args_dict_keyiterator_next_1
abbrev zp:=@Nat.add_sub_cancel_left
abbrev zo:=@List.getElem?_cons_succ
abbrev zm:=@PySem.F.entry_dict_keyiterator_next
abbrev zk:=@PyProof.noPylong_small
abbrev zj:=@Nat.dvd_of_mod_eq_zero
abbrev zi:=@List.Perm.append_right
abbrev zh:=@PySem.F.args_tuple_iterator_next_1
abbrev zg:=@PySem.W.Looks.of_pure
abbrev zf:=@PySem.F.type_list_pop
abbrev ze:=@PySem.F.slot_list_pop
abbrev zd:=@PyProof.Rows.kws_cons
abbrev zc:=@List.length_singleton
abbrev zb:=@List.getElem?_reverse
abbrev za:=@List.eq_nil_or_concat
abbrev y9:=@List.Perm.append_left
abbrev y8:=@PySem.F.entry_tuple_iterator_next
abbrev y7:=@PySem.wpAny_newFunctionEnv_cells
abbrev y0:=@PySem.F.slot_dict_eq
abbrev yz:=@PyProof.Rows.kws_nil
abbrev yy:=@PySem.Calls.Name_function_global
namespace L2
open PySem
def mE(s:Stmt):Arguments:=match s with
 |.FunctionDef _ a _ _ _ _ _ _ _ _=>a|_=>{posonlyargs:=[],args:=[],vararg:=none,kwonlyargs:=[],kw_defaults:=[],kwarg:=none,defaults:=[]}
def gS(s:Stmt):List Stmt:=match s with
 |.FunctionDef _ _ b _ _ _ _ _ _ _=>b|_=>[]
def aO(s:Stmt):Scope:=match s with
 |.FunctionDef _ _ _ _ _ _ sc _ _ _=>sc|_=>{kind:=.function,names:=[],isGenerator:=false,isCoroutine:=false}
end L2
namespace K22
open PySem L2
def top(i:Nat):Stmt:=PySem.Challenge.pw_primefold_k22_whole_factors.main.body.getD i (.Pass ⟨0,0,0,0⟩)
noncomputable abbrev fO(x:Str)(i:Nat)(m:Value)(c:Addr):Obj:=⟨.type "function",none,.func (P8 x x (mE (top i)) (gS (top i)) (aO (top i)) .none .none .none m none (.ref c) .none),#[]⟩
abbrev cO(l:List Value):Obj:=⟨.type "code",none,.fields l.toArray,#[]⟩
noncomputable abbrev cC(x:Str)(a b c:Tok)(l n f:Int)(r:Addr)(t:Int)(u v:Addr)(d:Int)(e:Tok):Obj:=cO [.str x a,.str x b,.str "/claim/cut.py" c,.int l 0,.int n 0,.int 0 0,.int 0 0,.int f 0,.ref r,.bool true,.int t 0,.ref u,.none,.none,.none,.ref v,.int d 0,.int l 0,.str "/claim/cut.py" e]
abbrev kk(P:Params)(x:Str)(t:Tok)(v:Value):DictEntry:=⟨PySem.PyData.keyHash P x,.str x t,v⟩
abbrev dO(n:Nat)(l:List DictEntry):Obj:=⟨.type "dict",none,.dict l.toArray n,#[]⟩
abbrev sU:Value:=.str "law_primefold_k22_whole_factors" 465
abbrev Tv:Value:=.str "primefold.commons" 371
abbrev JD:Value:=.str "primefold.primes" 385
abbrev wC:Value:=.str "primefold.reckoning" 255
noncomputable def KH(P:Params):Z4:=[
 (3,dO 52 [kk P "__name__" 165 (.str "law_primefold_k22_whole_factors" 465),kk P "__doc__" 166 (.none),kk P "__package__" 167 (.none),kk P "__loader__" 168 (.builtin "__main__.__loader__#opaque"),kk P "__spec__" 169 (.none),kk P "__annotations__" 170 (.ref 6),kk P "__builtins__" 171 (.ref 4),kk P "__file__" 173 (.str "/claim/cut.py" 172),kk P "__cached__" 174 (.none),kk P "FoldError" 206 (.ref 24),kk P "NoSum" 222 (.ref 37),kk P "NoText" 238 (.ref 49),kk P "NoPart" 254 (.ref 61),kk P "ONE" 258 (.ref 64),kk P "trimmed" 266 (.ref 71),kk P "lone_power" 273 (.ref 78),kk P "scaled" 279 (.ref 83),kk P "turned_number" 285 (.ref 88),kk P "made_whole" 293 (.ref 95),kk P "plus" 305 (.ref 102),kk P "minus" 314 (.ref 109),kk P "times" 328 (.ref 116),kk P "parted" 344 (.ref 123),kk P "rest_by" 353 (.ref 130),kk P "value" 364 (.ref 137),kk P "roots" 370 (.ref 142),kk P "row_less" 378 (.ref 147),kk P "common" 384 (.ref 152),kk P "slope" 392 (.ref 157),kk P "cleared" 405 (.ref 164),kk P "steady_sum" 419 (.ref 171),kk P "part_by_steady" 425 (.ref 176),kk P "part_of" 436 (.ref 183),kk P "split" 445 (.ref 190),kk P "prime_counts" 458 (.ref 197),kk P "factors" 464 (.ref 202),kk P "_law_cell_at" 474 (.ref 209),kk P "_law_mixed" 483 (.ref 216),kk P "_law_drawn" 492 (.ref 223),kk P "_law_number" 501 (.ref 230),kk P "_law_sum" 514 (.ref 237),kk P "_law_trim" 522 (.ref 244),kk P "_law_plus" 528 (.ref 249),kk P "_law_times" 542 (.ref 256),kk P "_law_rest" 548 (.ref 261),kk P "_law_is_long_sum" 554 (.ref 266),kk P "_law_is_sum" 562 (.ref 273),kk P "_law_wholes" 568 (.ref 278),kk P "_law_is_prime" 574 (.ref 283),kk P "_law_told" 585 (.ref 290),kk P "_law_good" 591 (.ref 295),kk P "law" 609 (.ref 302)]),
 (4,⟨.type "module",some 0,.plain,#[]⟩),
 (23,dO 3 [kk P "__module__" 196 (.str "primefold.errors" 187),kk P "__firstlineno__" 200 (.int 2 199),kk P "__static_attributes__" 201 (.ref 22),kk P "__weakref__" 203 (.ref 25),kk P "__doc__" 204 (.none)]),
 (24,⟨.type "type",none,.cls {name:="FoldError",bases:=[.type "ValueError"],mro:=[.ref 24,.type "ValueError",.type "Exception",.type "BaseException",.type "object"],ns:=23,qualname:="FoldError",subclasses:=[.ref 37,.ref 49,.ref 61]},#[some (.ref 15),none,some (.str "FoldError" 189),some (.str "FoldError" 197),some (.builtin "ValueError.__new__"),some (.bool true)]⟩),
 (36,dO 2 [kk P "__module__" 214 (.str "primefold.errors" 187),kk P "__firstlineno__" 218 (.int 4 217),kk P "__static_attributes__" 219 (.ref 35),kk P "__doc__" 220 (.none)]),
 (37,⟨.type "type",none,.cls {name:="NoSum",bases:=[.ref 24],mro:=[.ref 37,.ref 24,.type "ValueError",.type "Exception",.type "BaseException",.type "object"],ns:=36,qualname:="NoSum",subclasses:=[]},#[some (.ref 28),none,some (.str "NoSum" 207),some (.str "NoSum" 215),some (.builtin "ValueError.__new__"),some (.bool true)]⟩),
 (48,dO 2 [kk P "__module__" 230 (.str "primefold.errors" 187),kk P "__firstlineno__" 234 (.int 6 233),kk P "__static_attributes__" 235 (.ref 47),kk P "__doc__" 236 (.none)]),
 (49,⟨.type "type",none,.cls {name:="NoText",bases:=[.ref 24],mro:=[.ref 49,.ref 24,.type "ValueError",.type "Exception",.type "BaseException",.type "object"],ns:=48,qualname:="NoText",subclasses:=[]},#[some (.ref 40),none,some (.str "NoText" 223),some (.str "NoText" 231),some (.builtin "ValueError.__new__"),some (.bool true)]⟩),
 (60,dO 2 [kk P "__module__" 246 (.str "primefold.errors" 187),kk P "__firstlineno__" 250 (.int 8 249),kk P "__static_attributes__" 251 (.ref 59),kk P "__doc__" 252 (.none)]),
 (61,⟨.type "type",none,.cls {name:="NoPart",bases:=[.ref 24],mro:=[.ref 61,.ref 24,.type "ValueError",.type "Exception",.type "BaseException",.type "object"],ns:=60,qualname:="NoPart",subclasses:=[]},#[some (.ref 52),none,some (.str "NoPart" 239),some (.str "NoPart" 247),some (.builtin "ValueError.__new__"),some (.bool true)]⟩),
 (64,⟨.type "tuple",none,.seq #[.int 1 257] 0,#[]⟩),
 (70,cO [.str "trimmed" 259,.str "trimmed" 260,.str "/claim/cut.py" 261,.int 12 0,.int 1 0,.int 0 0,.int 0 0,.int 3 0,.ref 65,.bool true,.int 181 0,.ref 66,.none,.ref 67,.ref 68,.ref 69,.int 264 0,.int 12 0,.str "/claim/cut.py" 265]),
 (71,fO "trimmed" 7 wC 70),
 (77,cO [.str "lone_power" 267,.str "lone_power" 268,.str "/claim/cut.py" 269,.int 17 0,.int 1 0,.int 0 0,.int 0 0,.int 3 0,.ref 72,.bool true,.int 181 0,.ref 73,.none,.ref 74,.ref 75,.ref 76,.int 271 0,.int 17 0,.str "/claim/cut.py" 272]),
 (78,fO "lone_power" 8 wC 77),
 (82,cC "scaled" 274 275 276 19 3 3 79 181 80 81 277 278),
 (83,fO "scaled" 9 wC 82),
 (87,cC "turned_number" 280 281 282 21 2 3 84 181 85 86 283 284),
 (88,fO "turned_number" 10 wC 87),
 (94,cO [.str "made_whole" 286,.str "made_whole" 287,.str "/claim/cut.py" 288,.int 23 0,.int 2 0,.int 0 0,.int 0 0,.int 3 0,.ref 89,.bool true,.int 181 0,.ref 90,.none,.ref 91,.ref 92,.ref 93,.int 291 0,.int 23 0,.str "/claim/cut.py" 292]),
 (95,fO "made_whole" 11 wC 94),
 (101,cO [.str "plus" 294,.str "plus" 295,.str "/claim/cut.py" 296,.int 25 0,.int 3 0,.int 0 0,.int 0 0,.int 3 0,.ref 96,.bool true,.int 181 0,.ref 97,.none,.ref 98,.ref 99,.ref 100,.int 303 0,.int 25 0,.str "/claim/cut.py" 304]),
 (102,fO "plus" 12 wC 101),
 (108,cO [.str "minus" 306,.str "minus" 307,.str "/claim/cut.py" 308,.int 32 0,.int 3 0,.int 0 0,.int 0 0,.int 3 0,.ref 103,.bool true,.int 181 0,.ref 104,.none,.ref 105,.ref 106,.ref 107,.int 312 0,.int 32 0,.str "/claim/cut.py" 313]),
 (109,fO "minus" 13 wC 108),
 (115,cO [.str "times" 315,.str "times" 316,.str "/claim/cut.py" 317,.int 34 0,.int 3 0,.int 0 0,.int 0 0,.int 3 0,.ref 110,.bool true,.int 181 0,.ref 111,.none,.ref 112,.ref 113,.ref 114,.int 326 0,.int 34 0,.str "/claim/cut.py" 327]),
 (116,fO "times" 14 wC 115),
 (122,cO [.str "parted" 329,.str "parted" 330,.str "/claim/cut.py" 331,.int 40 0,.int 3 0,.int 0 0,.int 0 0,.int 3 0,.ref 117,.bool true,.int 181 0,.ref 118,.none,.ref 119,.ref 120,.ref 121,.int 342 0,.int 40 0,.str "/claim/cut.py" 343]),
 (123,fO "parted" 15 wC 122),
 (129,cO [.str "rest_by" 345,.str "rest_by" 346,.str "/claim/cut.py" 347,.int 52 0,.int 3 0,.int 0 0,.int 0 0,.int 3 0,.ref 124,.bool true,.int 181 0,.ref 125,.none,.ref 126,.ref 127,.ref 128,.int 351 0,.int 52 0,.str "/claim/cut.py" 352]),
 (130,fO "rest_by" 16 wC 129),
 (136,cO [.str "value" 354,.str "value" 355,.str "/claim/cut.py" 356,.int 54 0,.int 3 0,.int 0 0,.int 0 0,.int 3 0,.ref 131,.bool true,.int 181 0,.ref 132,.none,.ref 133,.ref 134,.ref 135,.int 362 0,.int 54 0,.str "/claim/cut.py" 363]),
 (137,fO "value" 17 wC 136),
 (141,cC "roots" 365 366 367 59 2 3 138 181 139 140 368 369),
 (142,fO "roots" 18 wC 141),
 (146,cC "row_less" 373 374 375 62 3 3 143 181 144 145 376 377),
 (147,fO "row_less" 20 Tv 146),
 (151,cC "common" 379 380 381 65 3 3 148 181 149 150 382 383),
 (152,fO "common" 21 Tv 151),
 (156,cC "slope" 387 388 389 77 2 3 153 181 154 155 390 391),
 (157,fO "slope" 23 JD 156),
 (163,cO [.str "cleared" 393,.str "cleared" 394,.str "/claim/cut.py" 395,.int 80 0,.int 3 0,.int 0 0,.int 0 0,.int 3 0,.ref 158,.bool true,.int 181 0,.ref 159,.none,.ref 160,.ref 161,.ref 162,.int 403 0,.int 80 0,.str "/claim/cut.py" 404]),
 (164,fO "cleared" 24 JD 163),
 (170,cO [.str "steady_sum" 406,.str "steady_sum" 407,.str "/claim/cut.py" 408,.int 89 0,.int 2 0,.int 0 0,.int 0 0,.int 3 0,.ref 165,.bool true,.int 181 0,.ref 166,.none,.ref 167,.ref 168,.ref 169,.int 417 0,.int 89 0,.str "/claim/cut.py" 418]),
 (171,fO "steady_sum" 25 JD 170),
 (175,cC "part_by_steady" 420 421 422 100 2 3 172 181 173 174 423 424),
 (176,fO "part_by_steady" 26 JD 175),
 (182,cO [.str "part_of" 426,.str "part_of" 427,.str "/claim/cut.py" 428,.int 106 0,.int 2 0,.int 0 0,.int 0 0,.int 3 0,.ref 177,.bool true,.int 181 0,.ref 178,.none,.ref 179,.ref 180,.ref 181,.int 434 0,.int 106 0,.str "/claim/cut.py" 435]),
 (183,fO "part_of" 27 JD 182),
 (189,cO [.str "split" 437,.str "split" 438,.str "/claim/cut.py" 439,.int 119 0,.int 2 0,.int 0 0,.int 0 0,.int 3 0,.ref 184,.bool true,.int 181 0,.ref 185,.none,.ref 186,.ref 187,.ref 188,.int 443 0,.int 119 0,.str "/claim/cut.py" 444]),
 (190,fO "split" 28 JD 189),
 (196,cO [.str "prime_counts" 446,.str "prime_counts" 447,.str "/claim/cut.py" 448,.int 124 0,.int 2 0,.int 0 0,.int 0 0,.int 3 0,.ref 191,.bool true,.int 181 0,.ref 192,.none,.ref 193,.ref 194,.ref 195,.int 456 0,.int 124 0,.str "/claim/cut.py" 457]),
 (197,fO "prime_counts" 29 JD 196),
 (201,cC "factors" 459 460 461 136 2 3 198 181 199 200 462 463),
 (202,fO "factors" 30 JD 201),
 (208,cO [.str "_law_cell_at" 467,.str "_law_cell_at" 468,.str "/claim/cut.py" 469,.int 143 0,.int 2 0,.int 0 0,.int 0 0,.int 3 0,.ref 203,.bool true,.int 181 0,.ref 204,.none,.ref 205,.ref 206,.ref 207,.int 472 0,.int 143 0,.str "/claim/cut.py" 473]),
 (209,fO "_law_cell_at" 32 sU 208),
 (215,cO [.str "_law_mixed" 475,.str "_law_mixed" 476,.str "/claim/cut.py" 477,.int 147 0,.int 2 0,.int 0 0,.int 0 0,.int 3 0,.ref 210,.bool true,.int 181 0,.ref 211,.none,.ref 212,.ref 213,.ref 214,.int 481 0,.int 147 0,.str "/claim/cut.py" 482]),
 (216,fO "_law_mixed" 33 sU 215),
 (222,cO [.str "_law_drawn" 484,.str "_law_drawn" 485,.str "/claim/cut.py" 486,.int 150 0,.int 2 0,.int 0 0,.int 0 0,.int 3 0,.ref 217,.bool true,.int 181 0,.ref 218,.none,.ref 219,.ref 220,.ref 221,.int 490 0,.int 150 0,.str "/claim/cut.py" 491]),
 (223,fO "_law_drawn" 34 sU 222),
 (229,cO [.str "_law_number" 493,.str "_law_number" 494,.str "/claim/cut.py" 495,.int 153 0,.int 3 0,.int 0 0,.int 0 0,.int 3 0,.ref 224,.bool true,.int 181 0,.ref 225,.none,.ref 226,.ref 227,.ref 228,.int 499 0,.int 153 0,.str "/claim/cut.py" 500]),
 (230,fO "_law_number" 35 sU 229),
 (236,cO [.str "_law_sum" 502,.str "_law_sum" 503,.str "/claim/cut.py" 504,.int 155 0,.int 3 0,.int 0 0,.int 0 0,.int 3 0,.ref 231,.bool true,.int 181 0,.ref 232,.none,.ref 233,.ref 234,.ref 235,.int 512 0,.int 155 0,.str "/claim/cut.py" 513]),
 (237,fO "_law_sum" 36 sU 236),
 (243,cO [.str "_law_trim" 515,.str "_law_trim" 516,.str "/claim/cut.py" 517,.int 164 0,.int 1 0,.int 0 0,.int 0 0,.int 3 0,.ref 238,.bool true,.int 181 0,.ref 239,.none,.ref 240,.ref 241,.ref 242,.int 520 0,.int 164 0,.str "/claim/cut.py" 521]),
 (244,fO "_law_trim" 37 sU 243),
 (255,cO [.str "_law_times" 529,.str "_law_times" 530,.str "/claim/cut.py" 531,.int 174 0,.int 3 0,.int 0 0,.int 0 0,.int 3 0,.ref 250,.bool true,.int 181 0,.ref 251,.none,.ref 252,.ref 253,.ref 254,.int 540 0,.int 174 0,.str "/claim/cut.py" 541]),
 (256,fO "_law_times" 39 sU 255),
 (260,cC "_law_rest" 543 544 545 180 3 3 257 181 258 259 546 547),
 (261,fO "_law_rest" 40 sU 260),
 (265,cC "_law_is_long_sum" 549 550 551 188 2 3 262 181 263 264 552 553),
 (266,fO "_law_is_long_sum" 41 sU 265),
 (272,cO [.str "_law_is_sum" 555,.str "_law_is_sum" 556,.str "/claim/cut.py" 557,.int 192 0,.int 2 0,.int 0 0,.int 0 0,.int 3 0,.ref 267,.bool true,.int 181 0,.ref 268,.none,.ref 269,.ref 270,.ref 271,.int 560 0,.int 192 0,.str "/claim/cut.py" 561]),
 (273,fO "_law_is_sum" 42 sU 272),
 (277,cC "_law_wholes" 563 564 565 194 2 3 274 181 275 276 566 567),
 (278,fO "_law_wholes" 43 sU 277),
 (282,cC "_law_is_prime" 569 570 571 202 2 3 279 181 280 281 572 573),
 (283,fO "_law_is_prime" 44 sU 282),
 (289,cO [.str "_law_told" 575,.str "_law_told" 576,.str "/claim/cut.py" 577,.int 209 0,.int 2 0,.int 0 0,.int 0 0,.int 3 0,.ref 284,.bool true,.int 181 0,.ref 285,.none,.ref 286,.ref 287,.ref 288,.int 583 0,.int 209 0,.str "/claim/cut.py" 584]),
 (290,fO "_law_told" 45 sU 289),
 (294,cC "_law_good" 586 587 588 216 3 3 291 181 292 293 589 590),
 (295,fO "_law_good" 46 sU 294),
 (301,cO [.str "law" 592,.str "law" 593,.str "/claim/cut.py" 594,.int 231 0,.int 1 0,.int 0 0,.int 0 0,.int 3 0,.ref 296,.bool true,.int 181 0,.ref 297,.none,.ref 298,.ref 299,.ref 300,.int 607 0,.int 231 0,.str "/claim/cut.py" 608]),
 (302,fO "law" 47 sU 301)]
abbrev vB:Stmt:=top 47
noncomputable def vw:Program:={PySem.Challenge.pw_primefold_k22_whole_factors with main:={PySem.Challenge.pw_primefold_k22_whole_factors.main with body:=[1,2,3,4,6,7,8,9,10,11,12,13,14,15,16,17,18,20,21,23,24,25,26,27,28,29,30,32,33,34,35,36,37,38,39,40,41,42,43,44,45,46,47].map top}}
noncomputable abbrev hk:PySem.W.Hook:=PySem.W.kmHook KH [3,4,23,24,36,37,48,49,60,61,64,70,71,77,78,82,83,87,88,94,95,101,102,108,109,115,116,122,123,129,130,136,137,141,142,146,147,151,152,156,157,163,164,170,171,175,176,182,183,189,190,196,197,201,202,208,209,215,216,222,223,229,230,236,237,243,244,255,256,260,261,265,266,272,273,277,278,282,283,289,290,294,295,301,302] (fun _=>by kernel_rfl) [199]
theorem left:PySem.W.LeftO PySem.Challenge.pw_primefold_k22_whole_factors vw [] (fun s=>PySem.W.xlAt vw [] s&&PySem.W.recOk [] s) (PySem.W.Hook.obs hk) (PySem.W.Hook.val hk) 4194:=by intro w;kernel_rfl
def dp(s:Stmt):Pos:=match s with
 |.FunctionDef _ _ _ _ _ _ _ _ _ p=>p|_=>⟨0,0,0,0⟩
theorem u1:PySem.Challenge.rw_primefold_k22_whole_factors.wellSaid=true:=by kernel_rfl
theorem u2:PySem.W.defOf vw PySem.Challenge.rw_primefold_k22_whole_factors.row.name=some (⟨"law",mE vB,gS vB,aO vB,dp vB⟩,[]):=by kernel_rfl
theorem u3:PySem.Challenge.rw_primefold_k22_whole_factors.row.prog.theDef PySem.Challenge.rw_primefold_k22_whole_factors.row.name=some (mE vB,gS vB,aO vB):=by kernel_rfl
end K22
namespace L2
open PySem PySem.Spec PyProof.Rows
abbrev fW:=Sum Int Str
def AU:fW->Value->Bool
 |.inl k,v=>Value.isInt k v|.inr x,v=>Value.isStrOf x v
def Wx(w:World):fW->Int
 |.inl k=>hashInt k|.inr x=>hashStr w x
theorem eS:∀{k:fW} {v:Value},AU k v=true->(∃i t,k=Sum.inl i/\v=Value.int i t)\/(∃x t,k=Sum.inr x/\v=Value.str x t)
 |.inl i,v,h=>by obtain⟨t,e⟩:=J8 (k:=i) (v:=v) h;exact .inl ⟨i,t,rfl,e⟩
 |.inr x,v,h=>by obtain⟨t,e⟩:=Value.isStrOf_shape (x:=x) (v:=v) h;exact .inr ⟨x,t,rfl,e⟩
theorem QP(i:Int)(t:Tok):AU (.inl i) (.int i t)=true:=by simp[AU,Value.isInt]
theorem QO(x:Str)(t:Tok):AU (.inr x) (.str x t)=true:=by simp[AU,Value.isStrOf]
theorem Jt(a b:Int):decide ((Sum.inl a:fW)=Sum.inl b)=(a==b):=by
 by_cases e:a=b
 ·subst e;simp
 ·have h:¬(Sum.inl a:fW)=Sum.inl b:=fun q=>e (Sum.inl.inj q);rw[decide_eq_false h];exact(beq_eq_false_iff_ne.mpr e).symm
theorem Jq(a b:Str):decide ((Sum.inr a:fW)=Sum.inr b)=decide (a=b):=by
 by_cases e:a=b
 ·subst e;simp
 ·have h:¬(Sum.inr a:fW)=Sum.inr b:=fun q=>e (Sum.inr.inj q);rw[decide_eq_false h,decide_eq_false e]
theorem Js(a:Int)(b:Str):decide ((Sum.inl a:fW)=Sum.inr b)=false:=decide_eq_false (fun q=>nomatch q)
theorem Jr(a:Str)(b:Int):decide ((Sum.inr a:fW)=Sum.inl b)=false:=decide_eq_false (fun q=>nomatch q)
def gG(prog:Program)(w:World):PySem.KeyKind prog w fW where
 is:=AU
 hash:=Wx w
 inj:=fun v a b ha hb=>by
  rcases eS ha with⟨i,t,rfl,rfl⟩|⟨x,t,rfl,rfl⟩
  ·rcases eS hb with⟨j,u,rfl,e⟩|⟨y,u,rfl,e⟩
   ·injection e with e1 _;rw[e1]
   ·exact nomatch e
  ·rcases eS hb with⟨j,u,rfl,e⟩|⟨y,u,rfl,e⟩
   ·exact nomatch e
   ·injection e with e1 _;rw[e1]
 byValue:=fun k v h=>by rcases eS h with⟨i,t,rfl,rfl⟩|⟨x,t,rfl,rfl⟩<;>rfl
 pyHash:=fun hv h=>by
  rcases eS hv with⟨i,t,rfl,rfl⟩|⟨x,t,rfl,rfl⟩
  ·exact wpAny_pyHash_int h
  ·exact wpAny_pyHash_str h
 eqBool:=fun hu hv h=>by
  rcases eS hu with⟨i,t,rfl,rfl⟩|⟨x,t,rfl,rfl⟩
  ·rcases eS hv with⟨j,u,rfl,rfl⟩|⟨y,u,rfl,rfl⟩
   ·rw[Jt]at h;exact wpAny_eqBool_int h
   ·rw[Js]at h;exact SeqAt.EqAt.int_str i t y u _ _ _ _ h
  ·rcases eS hv with⟨j,u,rfl,rfl⟩|⟨y,u,rfl,rfl⟩
   ·rw[Jr]at h;exact SeqAt.EqAt.str_int x t j u _ _ _ _ h
   ·rw[Jq]at h;exact wpAny_eqBool_str h
 «strs»:=fun k x t v h=>by
  rcases eS h with⟨i,u,rfl,e⟩|⟨y,u,rfl,e⟩
  ·exact nomatch e
  ·injection e with e1 _;subst e1;cases v<;>rfl
theorem GW(prog:Program)(w:World)(i:Int)(t:Tok):(gG prog w).is (.inl i) (.int i t)=true:=QP i t
theorem GV(prog:Program)(w:World)(x:Str)(t:Tok):(gG prog w).is (.inr x) (.str x t)=true:=QO x t
def jH(h:Heap)(a:Addr)(items:Array Value):Prop:=∃o,h.get? a=some o/\o.cls=.type "tuple" /\∃n,o.data=.seq items n/\o.dict=none
variable{h:Heap}{a:Addr}
theorem jH.tup{items:Array Value}(x:jH h a items):IsTup h a items:=let ⟨o,b,hc,n,hd,_⟩:=x;⟨o,b,hc,n,hd⟩
theorem jH.new(h:Heap)(items:Array Value):jH (h.push {cls:=.type "tuple",data:=.seq items}) h.objs.size items:=⟨_,X9 _ rfl,rfl,_,rfl,rfl⟩
inductive V where
 |non|bl (b:Bool)|int (i:Int)|str (x:Str)|byt (b:Array UInt8)|flt (b:UInt64)|ref (a:Addr)|ty (n:String)
 deriving DecidableEq
def RelV:V->Value->Prop
 |.non,u=>u=Value.none|.bl b,u=>u=Value.bool b|.int i,u=>∃t,u=Value.int i t|.str x,u=>∃t,u=Value.str x t|.byt b,u=>∃t,u=Value.bytes b t|.flt b,u=>∃t,u=Value.float b t|.ref a,u=>u=Value.ref a|.ty n,u=>u=Value.type n
abbrev bD:List V->List Value->Prop:=Paired RelV
variable{xs:List V}{us:List Value}
theorem bD.length(r:bD xs us):xs.length=us.length:=Paired.length r
theorem bD.get:∀{xs:List V} {us:List Value} {i:Nat} {x:V},bD xs us->xs[i]? = some x->∃u,us[i]? = some u/\RelV x u
 |_,_,_,_,.nil,e=>by simp at e
 |_,_,0,_,.cons r _,e=>by simp at e;subst e;exact⟨_,rfl,r⟩
 |_,_,i+1,x,.cons _ t,e=>by obtain⟨u,b,a⟩:=bD.get (i:=i) (x:=x) t (by simpa using e);exact⟨u,by simpa using b,a⟩
variable{u:Value}
theorem bD.set{x:V}(r:RelV x u):∀{xs:List V} {us:List Value} (i:Nat),bD xs us->bD (xs.set i x) (us.set i u)
 |_,_,_,.nil=>.nil|_,_,0,.cons _ t=>.cons r t|_,_,i+1,.cons q t=>.cons q (bD.set r i t)
theorem bD.append:∀{xs a:List V} {us ws:List Value},bD xs us->bD a ws->bD (xs++a) (us++ws)
 |_,_,_,_,.nil,s=>s|_,_,_,_,.cons r t,s=>.cons r (bD.append t s)
theorem bD.take:∀{xs:List V} {us:List Value} (n:Nat),bD xs us->bD (xs.take n) (us.take n)
 |_,_,0,_=>.nil|_,_,_+1,.nil=>.nil|_,_,n+1,.cons r t=>.cons r (bD.take n t)
theorem bD.drop:∀{xs:List V} {us:List Value} (n:Nat),bD xs us->bD (xs.drop n) (us.drop n)
 |_,_,0,r=>r|_,_,_+1,.nil=>.nil|_,_,n+1,.cons _ t=>bD.drop n t
theorem bD.none_of:∀{xs:List V} {us:List Value} {i:Nat},bD xs us->xs[i]? = none->us[i]? = none:=fun{xs us i} r e=>by have b:=r.length;have a:xs.length<=i:=List.getElem?_eq_none_iff.mp e;exact List.getElem?_eq_none_iff.mpr (by lia)
def zA:Option V->Option Value->Prop
 |some v,some u=>RelV v u|none,none=>True|_,_=>False
def KV{κ:Type}:List (κ×V)->List (κ×Value)->Prop:=Paired fun(p:κ×V) (q:κ×Value)=>p.1=q.1/\RelV p.2 q.2
noncomputable def kV:fW->V
 |.inl i=>.int i|.inr x=>.str x
inductive HO where
 |lst (xs:List V)
 |tup (xs:List V)
 |dK (kvs:List (fW×V))|dT (kvs:List (List fW×V))
 |set (S:Int->Bool) (n:Nat)
 |ins (C dx:Addr) (fs:List (Str×V))
 |own (x:Addr)
 |xd (fs:List (Str×V))
 |met (f x:Addr)
 |rng (lo hi:Int)
 |frz (o:Obj) (u:HO)
 |tbl (ps:Array Value)
 |ext (φ:Heap->Prop)
 |lam (l c:Int) (q:Str)
abbrev Hp:=Addr->Option HO
def cL(H:Hp)(a:Addr)(o:HO):Hp:=fun b=>if b=a then some o else H b
variable{H:Hp}{o:HO}
theorem aM:cL H a o a=some o:=by unfold cL;rw[Z8 rfl]
variable{b:Addr}
theorem aJ(h:b≠a):cL H a o b=H b:=by unfold cL;rw[Z6 h]
theorem Qa{u:HO}(h:H a=some o)(c:H b=some u)(d:o≠u):a≠b:=by intro e;subst e;rw[h]at c;exact d (Z2 c)
theorem aV(h:H a=some o)(c:H b=none):a≠b:=by intro e;subst e;rw[h]at c;cases c
section
variable(P:Program)(w:World)
def cD(H:Hp)(h:Heap)(a:Addr):HO->Prop
 |.lst xs=>xs.length<=sizeLine/\∃(its:List Value) (n:Nat),bD xs its/\h.get? a=some {cls:=.type "list",data:=.seq its.toArray n}|.tup xs=>xs.length<=sizeLine/\∃its:List Value,bD xs its/\jH h a its.toArray|.dK kvs=>kvs.length<=sizeLine/\(a==sysModules)=false/\∃vs,KV kvs vs/\h.DictOf (gG P w) a vs
 |.dT kvs=>kvs.length<=sizeLine/\(a==sysModules)=false/\∃xs:List (List fW×Addr×Value),
   Paired (fun(p:List fW×V) (q:List fW×Addr×Value)=>p.1=q.1/\H q.2.1=some (.tup (p.1.map kV))/\RelV p.2 q.2.2) kvs xs/\
   ∃o es ep,h.get? a=some o/\o.ExactDict/\o.data=.dict es ep/\es.toList=xs.map (entryOfKey (tupleKind (gG P w)))/\(xs.map (·.1)).Nodup
 |.set S n=>h.SetOf (intKind P w) a S n
 |.ins C dx fs=>H dx=some (.own a)/\fs.length<=1000/\dx≠a/\h.get? a=some (PySem.W.instObj C dx)/\
   ∃mA,h.Ns1 dx mA/\(∀f,zA (fs.lookup f) (mA f))/\PySem.Within mA (fs.map (·.1))
 |.own _=>∃o,h.get? a=some o|.xd fs=>∃mA,h.Ns1 a mA/\∀f,zA (fs.lookup f) (mA f)|.rng lo hi=>∃t u v,h.get? a=some {cls:=.type "range",data:=.fields #[.int lo t,.int hi u,.int 1 v]}|.frz o u=>h.get? a=some o/\cD H h a u|.tbl ps=>h.get? a=some {cls:=.none,data:=.fields ps}|.met f x=>h.get? a=some (PySem.W.methodObj (.ref f) (.ref x))|.ext φ=>φ h/\(∃o,h.get? a=some o)/\∀h1 h2:Heap,φ h1->(∀o,h1.get? a=some o->h2.get? a=some o)->φ h2|.lam l c q=>∃ps:Array Value,h.get? a=some {cls:=.none,data:=.fields ps}/\(ps=#[]\/∃e o vs t,ps=#[rawInt l,rawInt c,.ref e]/\H e=some (.own a)/\h.get? e=some o/\o.data=.fields vs/\vs[1]? = some (.str q t))
def pG(H:Hp)(h:Heap):Prop:=∀a o,H a=some o->cD P w H h a o
end
variable{P:Program}{w:World}{H':Hp}{h':Heap}{α β:Type}
theorem cD.lt(x:cD P w H h a o):a<h.objs.size:=by
 cases o with
 |lst d=>obtain⟨_,_,_,_,e⟩:=x;exact Z1 e|tup d=>obtain⟨_,_,_,_,e,_⟩:=x;exact Z1 e|dK b=>obtain⟨_,_,_,_,o,_,_,e,_⟩:=x;exact Z1 e|dT b=>obtain⟨_,_,_,_,o,_,_,e,_⟩:=x;exact Z1 e|set S n=>obtain⟨o,_,_,_,e,_⟩:=x;exact Z1 e|ins C j g=>obtain⟨_,_,_,e,_⟩:=x;exact Z1 e|own y=>obtain⟨_,e⟩:=x;exact Z1 e|xd g=>obtain⟨_,⟨_,_,_,e,_⟩,_⟩:=x;exact Z1 e|rng lo hi=>obtain⟨_,_,_,e⟩:=x;exact Z1 e|frz ob u=>obtain⟨e,_⟩:=x;exact Z1 e|tbl i=>exact Z1 (show h.get? a=some _ from x)|met f y=>exact Z1 (show h.get? a=some _ from x)|ext φ=>obtain⟨_,⟨_,e⟩,_⟩:=x;exact Z1 e|lam l c q=>obtain⟨_,e,_⟩:=x;exact Z1 e
theorem Paired.mapP{F G:α->β->Prop}:∀{l₁:List α} {c:List β},Paired F l₁ c->(∀a b,F a b->G a b)->Paired G l₁ c
 |_,_,.nil,_=>.nil|_,_,.cons r t,f=>.cons (f _ _ r) (Paired.mapP t f)
theorem cD.stay(x:cD P w H h a o)(k:∀b u,(b=a\/H b=some (.own a))->h.get? b=some u->h'.get? b=some u)
  (G:∀b,H b=some (.own a)->H' b=some (.own a)) (ht:∀b xs,H b=some (.tup xs)->H' b=some (.tup xs)):cD P w H' h' a o:=by
 induction o with
 |lst xs=>obtain⟨z,j,n,r,e⟩:=x;exact⟨z,j,n,r,k _ _ (.inl rfl) e⟩|tup xs=>obtain⟨z,j,r,ob,e,c⟩:=x;exact⟨z,j,r,ob,k _ _ (.inl rfl) e,c⟩|dK E=>obtain⟨z,y,s,r,ob,g,i,e,c⟩:=x;exact⟨z,y,s,r,ob,g,i,k _ _ (.inl rfl) e,c⟩
 |dT E=>obtain⟨z,y,xs,r,ob,g,i,e,c⟩:=x;exact⟨z,y,xs,Paired.mapP r fun p q z=>⟨z.1,ht _ _ z.2.1,z.2.2⟩,ob,g,i,k _ _ (.inl rfl) e,c⟩
 |set S n=>obtain⟨ob,g,i,t,e,c⟩:=x;exact⟨ob,g,i,t,k _ _ (.inl rfl) e,c⟩
 |ins C R N=>obtain⟨d,z,ne,e,D,⟨A,g,i,e2,c⟩,r⟩:=x;exact⟨G _ d,z,ne,k _ _ (.inl rfl) e,D,⟨A,g,i,k _ _ (.inr d) e2,c⟩,r⟩
 |own y=>obtain⟨ob,e⟩:=x;exact⟨ob,k _ _ (.inl rfl) e⟩|xd N=>obtain⟨D,⟨A,g,i,e,c⟩,r⟩:=x;exact⟨D,⟨A,g,i,k _ _ (.inl rfl) e,c⟩,r⟩|rng lo hi=>obtain⟨t,u,v,e⟩:=x;exact⟨t,u,v,k _ _ (.inl rfl) e⟩|frz ob u M=>obtain⟨e,q⟩:=x;exact⟨k _ _ (.inl rfl) e,M q⟩
 |tbl m=>have e:h.get? a=some {cls:=.none,data:=.fields m}:=x;show h'.get? a=some {cls:=.none,data:=.fields m};exact k a _ (.inl rfl) e
 |met f y=>have e:h.get? a=some (PySem.W.methodObj (.ref f) (.ref y)):=x;show h'.get? a=some (PySem.W.methodObj (.ref f) (.ref y));exact k a _ (.inl rfl) e
 |ext φ=>obtain⟨p,⟨o,e⟩,st⟩:=x;exact⟨st _ _ p fun o q=>k _ _ (.inl rfl) q,⟨o,k _ _ (.inl rfl) e⟩,st⟩
 |lam l c q=>obtain⟨m,e,r⟩:=x;refine⟨m,k _ _ (.inl rfl) e,r.imp id fun⟨Q,L,s,t,K,F,J,I⟩=>⟨Q,L,s,t,K,G _ F,k _ _ (.inr F) J,I⟩⟩
theorem pG.lt(x:pG P w H h)(e:H a=some o):a<h.objs.size:=(x a o e).lt
theorem pG.fresh(x:pG P w H h)(e:h.objs.size<=a):H a=none:=by
 cases q:H a with
 |none=>rfl|some u=>exact absurd (X8 (x.lt q) e) (U3 _)
theorem pG.kept(x:pG P w H h)(k:∀b u,h.get? b=some u->h'.get? b=some u):pG P w H h':=fun a o e=>(x a o e).stay (fun b u _ q=>k b u q) (fun _ q=>q) fun _ _ q=>q
theorem pG.laid(x:pG P w H h)(k:∀b u,h.get? b=some u->h'.get? b=some u)(g:h.objs.size<=a)(new:cD P w (cL H a o) h' a o):pG P w (cL H a o) h':=fun b u e=>by
 have d:=x.fresh g;by_cases f:b=a
 ·subst f;rw[aM]at e;cases e;exact new
 ·rw[aJ f]at e;exact(x b u e).stay (fun c v _ q=>k c v q) (fun c q=>by rw[aJ (aV q d)];exact q) fun c i q=>by rw[aJ (aV q d)];exact q
def Rd(H:Hp)(a:Addr)(u:HO):Prop:=H a=some u\/∃o,H a=some (.frz o u)
theorem Rd.ok{u:HO}(r:Rd H a u)(x:pG P w H h):cD P w H h a u:=by
 rcases r with r|⟨o,r⟩
 ·exact x a u r
 ·obtain⟨_,q⟩:=x a _ r;exact q
def Sr:Option HO->Prop
 |some (.lst _)=>True|some (.dK _)=>True|some (.dT _)=>True|some (.set _ _)=>True|some (.ins _ _ _)=>True|some (.ext _)=>True|some (.lam _ _ _)=>True|_=>False
section
variable{x e:Addr}{o':HO}
theorem pG.write(ok:pG P w H h)(i:Sr (H x))(he:e=x\/H e=some (.own x))(k:∀b u,b≠e->h.get? b=some u->h'.get? b=some u)(l:∃u,h'.get? e=some u)
  (new:cD P w (cL H x o') h' x o'):pG P w (cL H x o') h':=fun b u q=>by
 have d:∀c y,H c=some (.own y)->c≠x:=fun c y r z=>(by subst z;rw[r]at i;exact i);have f:∀c g,H c=some (.tup g)->c≠x:=fun c g r z=>(by subst z;rw[r]at i;exact i);by_cases j:b=x
 ·subst j;rw[aM]at q;cases q;exact new
 ·rw[aJ j]at q;by_cases a:b=e
  ·have m:H b=some (.own x):=by
    rcases he with z|z
    ·exact absurd (a.trans z) j
    ·rw[a];exact z
   rw[q]at m;cases m;obtain⟨v,n⟩:=l;exact⟨v,by rw[a];exact n⟩
  ·refine(ok b u q).stay (fun c v hc r=>k c v ?_ r) (fun c r=>by rw[aJ (d c b r)];exact r) fun c g r=>(by rw[aJ (f c g r)];exact r);rcases hc with rfl|hc
   ·exact a
   ·rintro rfl;rcases he with z|z
    ·exact d c b hc z
    ·rw[hc]at z;cases z;exact j rfl
end
structure Un(fs ex:List Addr)(H H':Hp)(h h':Heap):Prop where
 keep:∀b o,h.get? b=some o->H b=none->b∉fs->b∉ex->h'.get? b=some o
 slot:∀b o,h.get? b=some o->H b=none->b∈fs->b∉ex->∃sl,h'.get? b=some {o with slots:=sl}
 free:∀b o,h.get? b=some o->H b=none->b∉ex->H' b=none
 there:∀b o,h.get? b=some o->b∉ex->∃o',h'.get? b=some o'
 tups:∀b xs,H b=some (.tup xs)->H' b=some (.tup xs)
 frzs:∀b o u,H b=some (.frz o u)->H' b=some (.frz o u)
 tbls:∀b ps,H b=some (.tbl ps)->∃more,H' b=some (.tbl (ps++more))
variable{H1 H2:Hp}
section
variable{fs fs' ex ex':List Addr}{h1 h2:Heap}{x e:Addr}
theorem Un.any(u:Un fs ex H H1 h h1){ob:Obj}(q:h.get? b=some ob)(n:H b=none)(a:b∉ex):∃d,h1.get? b=some {ob with slots:=d}:=by
 by_cases c:b∈fs
 ·exact u.slot b ob q n c a
 ·exact⟨ob.slots,u.keep b ob q n c a⟩
theorem Un.trans(a:Un fs ex H H1 h h1)(b:Un fs ex H1 H2 h1 h2):Un fs ex H H2 h h2 where
 keep:=fun c ob q n hc d=>b.keep c ob (a.keep c ob q n hc d) (a.free c ob q n d) hc d
 slot:=fun c ob q n hc d=>by obtain⟨l,e1⟩:=a.slot c ob q n hc d;obtain⟨f,e2⟩:=b.slot c _ e1 (a.free c ob q n d) hc d;exact⟨f,e2⟩
 free:=fun c ob q n d=>by obtain⟨g,e1⟩:=a.there c ob q d;exact b.free c g e1 (a.free c ob q n d) d
 there:=fun c ob q d=>by obtain⟨g,e1⟩:=a.there c ob q d;exact b.there c g e1 d
 tups:=fun c e q=>b.tups c e (a.tups c e q)
 frzs:=fun c ob e q=>b.frzs c ob e (a.frzs c ob e q)
 tbls:=fun c i q=>by obtain⟨k,e1⟩:=a.tbls c i q;obtain⟨j,e2⟩:=b.tbls c _ e1;exact⟨k++j,by rw[e2,Array.append_assoc]⟩
theorem Un.kept(k:∀b u,h.get? b=some u->h'.get? b=some u):Un fs ex H H h h':=
 ⟨fun b ob q _ _ _=>k b ob q,fun b ob q _ _ _=>⟨ob.slots,k b ob q⟩,fun _ _ _ n _=>n,fun b ob q _=>⟨ob,k b ob q⟩,fun _ _ q=>q,fun _ _ _ q=>q,fun _ a q=>⟨#[],by rw[q];simp⟩⟩
theorem Un.refl:Un fs ex H H h h:=Un.kept fun _ _ q=>q
theorem Un.laid(k:∀b u,h.get? b=some u->h'.get? b=some u)(e:h.objs.size<=a)(c:H a=none):Un fs ex H (cL H a o) h h' where
 keep:=fun b u q _ _ _=>k b u q
 slot:=fun b u q _ _ _=>⟨u.slots,k b u q⟩
 free:=fun b u q n _=>by rw[aJ (Y6 (X8 (Z1 q) e))];exact n
 there:=fun b u q _=>⟨u,k b u q⟩
 tups:=fun b d q=>by rw[aJ (aV q c)];exact q
 frzs:=fun b u d q=>by rw[aJ (aV q c)];exact q
 tbls:=fun b f q=>⟨#[],by rw[aJ (aV q c),q];simp⟩
theorem Un.write(c:Sr (H x))(he:e=x\/H e=some (.own x))(k:∀b u,b≠e->h.get? b=some u->h'.get? b=some u)(f:∃u,h'.get? e=some u):Un fs ex H (cL H x o) h h':=by
 have g:∀b,H b=none->b≠x:=fun b n z=>(by subst z;rw[n]at c;exact c);have i:∀b,H b=none->b≠e:=fun b n z=>by
  subst z;rcases he with r|r
  ·exact g b n r
  ·rw[n]at r;cases r
 have d:∀b u,H b=some u->¬Sr (some u)->b≠x:=fun b u q l z=>(by subst z;rw[q]at c;exact l c);refine⟨fun b u q n _ _=>k b u (i b n) q,fun b u q n _ _=>⟨u.slots,k b u (i b n) q⟩,fun b u q n _=>by rw[aJ (g b n)];exact n,fun b u q _=>?_,
  fun b j q=>by rw[aJ (d b _ q fun z=>z)];exact q,fun b u j q=>by rw[aJ (d b _ q fun z=>z)];exact q,fun b m q=>⟨#[],by rw[aJ (d b _ q fun z=>z),q];simp⟩⟩
 by_cases a:b=e
 ·subst a;exact f
 ·exact⟨u,k b u a q⟩
end
noncomputable def Ti(h:Heap)(H:Hp):List Addr:=(List.range h.objs.size).filter fun a=>(H a).isSome
def DB(h:Heap)(H:Hp):Heap:=PySem.W.hideAll h (Ti h H)
theorem QW(h:Heap)(H:Hp):(DB h H).objs.size=h.objs.size:=PySem.W.hideAll_size _ _
theorem XD{o:Obj}(e:h.get? b=some o)(n:H b=none):(DB h H).get? b=some o:=
 PySem.W.hideAll_get _ e fun a=>by have q:(H b).isSome=true:=(List.mem_filter.mp a).2;rw[n]at q;simp at q
theorem Ce{o:Obj}(e:(DB h H).get? b=some o):h.get? b=some o/\H b=none:=by
 have a:h.get? b=some o:=PySem.W.of_hideAll (Ti h H) e;refine⟨a,?_⟩;cases q:H b with
 |none=>rfl
 |some x=>have c:b∈Ti h H:=List.mem_filter.mpr ⟨List.mem_range.mpr (Z1 a),by simp[q]⟩;have z:(DB h H).get? b=none:=PySem.W.hideAll_none (Ti h H) c;rw[z]at e;cases e
noncomputable def qW(g h:Heap)(L:Addr):List (Addr×Obj):=(List.range h.objs.size).filterMap fun a=>if a=L\/(g.get? a).isSome=true then none else(h.get? a).map fun o=>(a,o)
theorem pO{g:Heap}{L:Addr}{o:Obj}(d:a≠L)(c:g.get? a=none)(b:h.get? a=some o):(a,o)∈qW g h L:=
 List.mem_filterMap.mpr ⟨a,List.mem_range.mpr (Z1 b),by simp[d,c,b]⟩
theorem xN{g:Heap}{L:Addr}{p:Addr×Obj}(c:p∈qW g h L):p.1≠L/\g.get? p.1=none/\h.get? p.1=some p.2:=by
 obtain⟨b,_,e⟩:=List.mem_filterMap.mp c;split at e
 ·cases e
 ·rename_i a;cases q:h.get? b with
  |none=>rw[q]at e;simp at e
  |some u=>
   rw[q]at e;simp only[Option.map_some,Option.some.injEq]at e;subst e;refine⟨fun z=>a (.inl z),?_,q⟩;show g.get? b=none;cases r:g.get? b with
   |none=>rfl|some v=>exact(a (.inr (by simp[r]))).elim
noncomputable def rest(g h:Heap)(L d:Addr):List (Addr×Obj):=(qW g h L).filter fun p=>decide (p.1≠d)
theorem WC{g:Heap}{L:Addr}:News g L h (qW g h L):=fun p d=>let ⟨a,b,c⟩:=xN d;⟨c,a,b⟩
structure Mod(K:Z4)(mg:Str->Option Value)(base:Heap):Prop where
 kin:K.In base
 glob:base.Ns X3 mg
 blt:∃mb,base.Ns builtinsNs mb/\∀x:Str,x≠ "__name__" ->mb x=bootBuiltins x
 nolimit:base.NoLimit
structure Cx where
 prog:Program
 w:World
 K:Z4
 mg:Str->Option Value
 base:Heap
 A:Around
 N:List Str
 s₀:Shared
 H₀:Hp
 env:Env
 outer:List Env
 stack:List Env
 ex:List Addr
 fn:Str->Bool
 calm:Bool
 pn:List (Addr×Obj)
 xe:Value->Shared->Prop
noncomputable def sH(l:List Env):List Addr:=l.filterMap (·.frame)
abbrev Cx.fs(X:Cx):List Addr:=sH X.outer
def SA(sc:Scope)(x:Str):Prop:=sc.names.lookup x=some .local\/sc.names.lookup x=some .cell\/sc.names.lookup x=some .free
def Loc(sc:Scope)(x:Str):Prop:=sc.names.lookup x=some .local\/sc.names.lookup x=some .cell
def Look(env:Env)(h:Heap)(m:Str->Option Value)(x:Str)(u:Value):Prop:=
 (env.kindOf x=some .local/\m x=some u)\/((env.kindOf x=some .cell\/env.kindOf x=some .free)/\∃c,env.cells.lookup x=some c/\h.IsCell c (some u))
structure Cx.Ok(X:Cx):Prop where
 mod:Mod X.K X.mg X.base
 kind:X.env.scope.kind=.function
 glob:X.env.globals=X3
 blt:X.env.builtins=builtinsNs
 above:X.s₀.heap.objs.size<=X.env.locals
 inj:∀x y c,X.env.cells.lookup x=some c->X.env.cells.lookup y=some c->x=y
 has:∀x,(X.env.kindOf x=some .cell\/X.env.kindOf x=some .free)->∃c,X.env.cells.lookup x=some c
 cab:∀x c,X.fn x=true->X.env.cells.lookup x=some c->X.s₀.heap.objs.size<=c
 hd:X.calm=true->X.A.handled=none
 frames:X.A.frames=some X.stack
 stk:X.stack=X.outer\/(X.stack=X.env::X.outer/\X.env.frame=some X.env.locals)
 exf:∀b∈X.ex,b≠X.env.locals/\∀x c,X.env.cells.lookup x=some c->c≠b
 bs:∀b o,X.base.get? b=some o->X.s₀.heap.get? b=some o/\X.H₀ b=none
 bsz:X.base.objs.size<=X.s₀.heap.objs.size
 noex:∀b o,X.base.get? b=some o->b∉X.ex
 exfs:∀b∈X.ex,b∉X.fs
 funs:X.s₀.heap.FunFrames X.base X.outer
 frf:∀b∈X.fs,X.H₀ b=none
structure Inv(X:Cx)(U:List (Addr×Obj))(Z:List (Option V))(H:Hp)(s:Shared):Prop where
 ok:X.Ok
 os:s.os=X.s₀.os
 bare:AllBare s.gens
 base:Un X.fs X.ex X.H₀ H X.s₀.heap s.heap
 loc:∃m,s.heap.Ns X.env.locals m/\∀(i:Nat) (x:Str) (v:V),X.N[i]? = some x->Z[i]? = some (some v)->SA X.env.scope x->∃u,RelV v u/\Look X.env s.heap m x u
 cell:∀x c,X.env.cells.lookup x=some c->∃v,s.heap.IsCell c v
 free:H X.env.locals=none
 freeC:∀x c,X.env.cells.lookup x=some c->H c=none
 pin:∀p∈X.pn++U,s.heap.get? p.1=some p.2/\H p.1=none/\p.1≠X.env.locals/\p.1∉X.fs/\∀v,p.2.data≠.cell v
 hok:pG X.prog X.w H s.heap
 len:Z.length=X.N.length
variable{X:Cx}{U:List (Addr×Obj)}{s s':Shared}{ch:List Addr}{it:Addr}{N:List Str}{i j:Nat}{x:Str}{A:Around}{E:Value->Shared->Prop}{v:V}
section
variable{Z:List (Option V)}
theorem Cx.Ok.nofr(ok:X.Ok){o:Obj}(e:X.base.get? b=some o):b∉X.fs:=fun a=>by have:=(ok.funs.mem a).1;rw[e]at this;cases this
theorem Inv.bs(I:Inv X U Z H s):∀b o,X.base.get? b=some o->s.heap.get? b=some o/\H b=none:=fun b o e=>⟨I.base.keep b o (I.ok.bs b o e).1 (I.ok.bs b o e).2 (I.ok.nofr e) (I.ok.noex b o e),I.base.free b o (I.ok.bs b o e).1 (I.ok.bs b o e).2 (I.ok.noex b o e)⟩
theorem Inv.bk(I:Inv X U Z H s):∀b o,X.base.get? b=some o->s.heap.get? b=some o:=fun b o e=>(I.bs b o e).1
theorem Inv.mod(I:Inv X U Z H s):Mod X.K X.mg X.base:=I.ok.mod
theorem Inv.kIn(I:Inv X U Z H s):X.K.In s.heap:=I.ok.mod.kin.keeps I.bk
theorem Inv.lt(I:Inv X U Z H s):X.env.locals<s.heap.objs.size:=let ⟨_,a,_⟩:=I.loc;a.lt
theorem Inv.sz(I:Inv X U Z H s):X.s₀.heap.objs.size<=s.heap.objs.size:=W2 I.ok.above (P7 I.lt)
theorem Inv.nofs(I:Inv X U Z H s)(h:s.heap.objs.size<=a):a∉X.fs:=fun c=>by obtain⟨_,o,b,_⟩:=I.ok.funs.mem c;exact absurd (X8 (Z1 b) (W2 I.sz h)) (U3 _)
theorem Inv.cne(I:Inv X U Z H s):∀x c,X.env.cells.lookup x=some c->c≠X.env.locals:=fun x c e z=>by obtain⟨v,o,d,hd⟩:=I.cell x c e;obtain⟨m,⟨f,g,h,a,b,_⟩,_⟩:=I.loc;rw[z,a]at d;cases d;rw[b]at hd;cases hd
theorem Inv.funs(I:Inv X U Z H s):s.heap.FunFrames X.base X.outer:=by
 have d:∀(l:List Env),(∀b∈sH l,b∈X.fs)->X.s₀.heap.FunFrames X.base l->s.heap.FunFrames X.base l:=by
  intro l
  induction l with
  |nil=>intro _ _;trivial
  |cons env r g=>intro f k;obtain⟨m,⟨L,o,hf,j,i,hd⟩,h⟩:=k;have c:L∈X.fs:=f L (by unfold sH;rw[V5,hf];exact X7);obtain⟨n,e⟩:=I.base.slot L o i (I.ok.frf L c) c fun z=>I.ok.exfs L z c;exact⟨m,⟨L,_,hf,j,e,hd⟩,g (fun b a=>f b (by unfold sH;rw[V5,hf];exact X5 _ a)) h⟩
 exact d X.outer (fun _ a=>a) I.ok.funs
theorem Inv.stack(I:Inv X U Z H s):s.heap.FunFrames X.base X.stack:=by
 rcases I.ok.stk with e|⟨e,hf⟩
 ·rw[e];exact I.funs
 ·rw[e];obtain⟨m,a,_⟩:=I.loc;refine .cons (by rw[I.ok.kind];decide) hf a ?_ I.funs;exact Heap.get?_none_of_le (W2 I.ok.bsz I.ok.above)
theorem Inv.stkSub(I:Inv X U Z H s):∀b∈sH X.stack,b∈X.env.locals::X.fs:=fun b a=>by
 rcases I.ok.stk with e|⟨e,hf⟩
 ·rw[e]at a;exact X5 _ a
 ·rw[e]at a;unfold sH at a;rw[V5,hf]at a;exact a
theorem Inv.stkFree(I:Inv X U Z H s):∀b∈sH X.stack,H b=none:=fun b a=>by
 rcases G4.mp (I.stkSub b a)with e|a
 ·rw[e];exact I.free
 ·obtain⟨_,o,c,_⟩:=I.ok.funs.mem a;exact I.base.free b o c (I.ok.frf b a) fun z=>I.ok.exfs b z a
theorem Inv.step{g':Array GenState}{t':Nat}{d':Drawn}(I:Inv X U Z H s)(g:∀b∈ch,(b∈X.ex\/X.s₀.heap.objs.size<=b)/\b≠X.env.locals/\(∀x c,X.env.cells.lookup x=some c->c≠b)/\∀p∈X.pn++U,p.1≠b)(keep:∀b o,b≠X.env.locals->b∉X.fs->b∉ch->s.heap.get? b=some o->H b=none->h'.get? b=some o)(slot:∀b o,b≠X.env.locals->b∈X.fs->b∉ch->s.heap.get? b=some o->H b=none->∃F,h'.get? b=some {o with slots:=F})(free:∀b o,b∉ch->s.heap.get? b=some o->H b=none->H' b=none)(there:∀b o,b∉ch->s.heap.get? b=some o->∃y,h'.get? b=some y)(tups:∀b xs,H b=some (.tup xs)->H' b=some (.tup xs))(frzs:∀b o u,H b=some (.frz o u)->H' b=some (.frz o u))(tbls:∀b D,H b=some (.tbl D)->∃C,H' b=some (.tbl (D++C)))(ns:∀m,s.heap.Ns X.env.locals m->h'.Ns X.env.locals m)(hok:pG X.prog X.w H' h')(P:AllBare g') :
  Inv X U Z H' {s with heap:=h',gens:=g',drawn:=d',toks:=t'}:=by
 have A:∀b o,X.s₀.heap.get? b=some o->b≠X.env.locals:=fun b o e=>Y6 (X8 (Z1 e) I.ok.above);have j:∀b o,X.s₀.heap.get? b=some o->b∉X.ex->b∉ch:=fun b o e a t=>by
  rcases(g b t).1 with z|z
  ·exact a z
  ·exact absurd (X8 (Z1 e) z) (U3 _)
 have h:∀x c,X.env.cells.lookup x=some c->∀v,s.heap.IsCell c v->h'.IsCell c v:=fun x c e v ⟨o,w,hd⟩=>by
  have f:c∉ch:=fun z=>(g c z).2.2.1 x c e rfl;by_cases hc:c∈X.fs
  ·obtain⟨F,q⟩:=slot c o (I.cne x c e) hc f w (I.freeC x c e);exact⟨_,q,hd⟩
  ·exact⟨o,keep c o (I.cne x c e) hc f w (I.freeC x c e),hd⟩
 refine⟨I.ok,I.os,P,⟨fun b o e n t a=>?_,fun b o e n t a=>?_,fun b o e n a=>?_,fun b o e a=>?_,fun b xs e=>tups b xs (I.base.tups b xs e),fun b o xs e=>frzs b o xs (I.base.frzs b o xs e),fun b D e=>?_⟩,?_,fun x c e=>?_,?_,fun x c e=>?_,fun p J=>?_,hok,I.len⟩
 ·exact keep b o (A b o e) t (j b o e a) (I.base.keep b o e n t a) (I.base.free b o e n a)
 ·obtain⟨F,e1⟩:=I.base.slot b o e n t a;obtain⟨E,e2⟩:=slot b _ (A b o e) t (j b o e a) e1 (I.base.free b o e n a);exact⟨E,e2⟩
 ·obtain⟨y,e1⟩:=I.base.there b o e a;exact free b y (j b o e a) e1 (I.base.free b o e n a)
 ·obtain⟨y,e1⟩:=I.base.there b o e a;exact there b y (j b o e a) e1
 ·obtain⟨L,e1⟩:=I.base.tbls b D e;obtain⟨K,e2⟩:=tbls b _ e1;exact⟨L++K,by rw[e2,Array.append_assoc]⟩
 ·obtain⟨m,M,N⟩:=I.loc;refine⟨m,ns m M,fun i x v e1 e2 Q=>?_⟩;obtain⟨u,r,l⟩:=N i x v e1 e2 Q;refine⟨u,r,?_⟩;rcases l with l|⟨k,c,e,z⟩
  ·exact .inl l
  ·exact .inr ⟨k,c,e,h x c e _ z⟩
 ·obtain⟨v,z⟩:=I.cell x c e;exact⟨v,h x c e v z⟩
 ·obtain⟨m,⟨o,_,_,w,_⟩,_⟩:=I.loc;exact free _ o (fun z=>(g _ z).2.1 rfl) w I.free
 ·obtain⟨v,o,w,hd⟩:=I.cell x c e;exact free c o (fun z=>(g c z).2.2.1 x c e rfl) w (I.freeC x c e)
 ·obtain⟨e,n,ne,G,d⟩:=I.pin p J;have f:p.1∉ch:=fun z=>(g p.1 z).2.2.2 p J rfl;exact⟨keep p.1 p.2 ne G f e n,free p.1 p.2 f e n,ne,G,d⟩
theorem Inv.un{t':Nat}(I:Inv X U Z H s)(u:Un X.fs [] H H' s.heap h')(hok:pG X.prog X.w H' h'):Inv X U Z H' {s with heap:=h',toks:=t'}:=by obtain⟨m,⟨o,q,t,g,r⟩,_⟩:=id I.loc;obtain⟨k,j⟩:=u.any g I.free (by simp);exact I.step (g':=s.gens) (d':=s.drawn) (ch:=[]) (fun _ z=>nomatch z) (fun b o _ c _ e n=>u.keep b o e n c (by simp)) (fun b o _ c _ e n=>u.slot b o e n c (by simp)) (fun b o _ e n=>u.free b o e n (by simp)) (fun b o _ e=>u.there b o e (by simp)) u.tups u.frzs u.tbls (fun p i=>by obtain⟨l,d,f,a,h⟩:=i;rw[g]at a;cases a;exact⟨_,d,f,j,h⟩) hok I.bare
theorem Inv.call{g':Array GenState}{t':Nat}{d':Drawn}(I:Inv X U Z H s)(u:Un (sH X.stack) ch H H' s.heap h')(hok:pG X.prog X.w H' h')(l:AllBare g')(d:∀b∈ch,(b∈X.ex\/X.s₀.heap.objs.size<=b)/\b≠X.env.locals/\(∀x c,X.env.cells.lookup x=some c->c≠b)/\∀p∈X.pn++U,p.1≠b) :
  Inv X U Z H' {s with heap:=h',gens:=g',drawn:=d',toks:=t'}:=by
 obtain⟨m,⟨o,y,A,i,r⟩,_⟩:=id I.loc;obtain⟨t,f⟩:=u.any i I.free fun z=>(d _ z).2.1 rfl;exact I.step (ch:=ch) d (fun b o f q hc e n=>u.keep b o e n (fun z=>(G4.mp (I.stkSub b z)).elim f q) hc) (fun b o _ _ hc e n=>u.any e n hc) (fun b o hc e n=>u.free b o e n hc) (fun b o hc e=>u.there b o e hc) u.tups u.frzs u.tbls (fun w k=>by obtain⟨v,g,h,a,j⟩:=k;rw[i]at a;cases a;exact⟨_,g,h,f,j⟩) hok l
theorem Inv.turned{t':Nat}(I:Inv X U Z H s)(k:∀b o,b≠it->s.heap.get? b=some o->h'.get? b=some o)(g:H it=none)(d:it≠X.env.locals)(t:it∈X.ex\/X.s₀.heap.objs.size<=it)(l:∀x c,X.env.cells.lookup x=some c->c≠it)(j:∀p∈X.pn++U,p.1≠it):Inv X U Z H {s with heap:=h',toks:=t'}:=by
 have a:∀b u,H b=some u->b≠it:=fun b u e z=>(by rw[z,g]at e;cases e);refine I.step (g':=s.gens) (d':=s.drawn) (ch:=[it]) (fun b i=>?_) (fun b o _ _ hc e _=>k b o (fun z=>hc (by simp[z])) e) (fun b o _ _ hc e _=>⟨o.slots,k b o (fun z=>hc (by simp[z])) e⟩) (fun _ _ _ _ n=>n)
  (fun b o hc e=>⟨o,k b o (fun z=>hc (by simp[z])) e⟩) (fun _ _ e=>e) (fun _ _ _ e=>e) (fun b A e=>⟨#[],by rw[e];simp⟩) (fun m h=>?_) (fun b u e=>?_) I.bare
 ·have e:b=it:=(by simpa using i);subst e;exact⟨t,d,l,j⟩
 ·obtain⟨o,w,y,f,r⟩:=h;exact⟨o,w,y,k _ o (Y8 d) f,r⟩
 ·refine(I.hok b u e).stay (fun c v hc q=>k c v ?_ q) (fun _ q=>q) fun _ _ q=>q;rcases hc with z|z
  ·rw[z];exact a b u e
  ·exact a c _ z
theorem Inv.tok(I:Inv X U Z H s)(t:Nat):Inv X U Z H {s with toks:=t}:=I.un (h':=s.heap) (t':=t) Un.refl I.hok
theorem Inv.kept{t':Nat}(I:Inv X U Z H s)(k:∀b u,s.heap.get? b=some u->h'.get? b=some u):Inv X U Z H {s with heap:=h',toks:=t'}:=I.un (Un.kept k) (I.hok.kept k)
theorem Inv.laid{t':Nat}(I:Inv X U Z H s)(k:∀b u,s.heap.get? b=some u->h'.get? b=some u)(c:s.heap.objs.size<=a)(new:cD X.prog X.w (cL H a o) h' a o) :
  Inv X U Z (cL H a o) {s with heap:=h',toks:=t'}:=I.un (Un.laid k c (I.hok.fresh c)) (I.hok.laid k c new)
theorem Inv.write{x e:Addr}{t':Nat}(I:Inv X U Z H s)(c:Sr (H x))(he:e=x\/H e=some (.own x))(k:∀b u,b≠e->s.heap.get? b=some u->h'.get? b=some u)(a:∃u,h'.get? e=some u)(new:cD X.prog X.w (cL H x o) h' x o):Inv X U Z (cL H x o) {s with heap:=h',toks:=t'}:=I.un (Un.write c he k a) (I.hok.write c he k a new)
theorem Inv.pins_of{a:List (Addr×Obj)}(I:Inv X U Z H s)(h:∀p∈a,s.heap.get? p.1=some p.2/\H p.1=none/\p.1≠X.env.locals/\p.1∉X.fs/\∀v,p.2.data≠.cell v):Inv X a Z H s:=
 ⟨I.ok,I.os,I.bare,I.base,I.loc,I.cell,I.free,I.freeC,fun p b=>(List.mem_append.mp b).elim (fun z=>I.pin p (S0 _ z)) (h p),I.hok,I.len⟩
theorem GP(c:N.Nodup)(a:N[i]? = some x)(b:N[j]? = some x):i=j:=by obtain⟨e,e1⟩:=List.getElem?_eq_some_iff.mp a;obtain⟨d,e2⟩:=List.getElem?_eq_some_iff.mp b;exact(M3 c).mp (e1.trans e2.symm)
theorem OQ{M:Model}{Q:Unit->Shared->Prop}(I:Inv X U Z H s)(hN:X.N.Nodup)(hi:X.N[i]? = some x)(l:Loc X.env.scope x)(r:RelV v u)(h:∀s',Inv X U (Z.set i (some v)) H s'->(∃a,Heap.SameBut a s.heap s'.heap/\(a=X.env.locals\/X.env.cells.lookup x=some a))->Q () s')(hf:X.fn x=true\/X.env.scope.names.lookup x=some .local:=by first|exact .inl rfl|exact .inr rfl|assumption):wpAny M A (storeName X.env x u) Q E s:=by
 obtain⟨m,hn,hl⟩:=id I.loc;have P:(X.env.scope.kind==.class || (X.env.scope.kind==.module&&X.env.locals != X.env.globals))=false:=(by rw[I.ok.kind];rfl);have N:i<Z.length:=(by rw[I.len];exact(List.getElem?_eq_some_iff.mp hi).1);have G:=I.cne;have g:∀{a:Addr} {J:Heap},(∃o,s.heap.get? a=some o/\H a=none)->Heap.SameBut a s.heap J->pG X.prog X.w H J:=fun{a J} ha f b ob e=>by
  obtain⟨_,_,t⟩:=ha;refine(I.hok b ob e).stay (fun c T hc q=>(f.2 c ?_).trans q) (fun _ q=>q) fun _ _ q=>q;rintro rfl;rcases hc with rfl|hc
  ·rw[t]at e;cases e
  ·rw[t]at hc;cases hc
 rcases l with w|w
 ·refine wpAny_storeName_local w hn (fun J a1 f=>?_) P;obtain⟨oL,_,_,a0,_⟩:=id hn;refine h _ ⟨I.ok,I.os,I.bare,⟨fun b o e n F l=>?_,fun b o e n F l=>?_,I.base.free,fun b o e l=>?_,I.base.tups,I.base.frzs,I.base.tbls⟩,⟨_,a1,fun j y W e1 e2 e3=>?_⟩,fun y c e=>?_,I.free,I.freeC,fun p hp=>?_,g ⟨oL,a0,I.free⟩ f,by simpa using I.len⟩ ⟨_,f,.inl rfl⟩
  ·exact(f.2 b (Y6 (X8 (Z1 e) I.ok.above))).trans (I.base.keep b o e n F l)
  ·obtain⟨sl,e1⟩:=I.base.slot b o e n F l;exact⟨sl,(f.2 b (Y6 (X8 (Z1 e) I.ok.above))).trans e1⟩
  ·obtain⟨o',e1⟩:=I.base.there b o e l;exact⟨o',(f.2 b (Y6 (X8 (Z1 e) I.ok.above))).trans e1⟩
  ·by_cases C:j=i
   ·subst C;rw[hi]at e1;cases e1;rw[D6 N]at e2;cases e2;exact⟨u,r,.inl ⟨w,by simp⟩⟩
   ·rw[X4 (Y8 C)]at e2;obtain⟨u',r',q⟩:=hl j y W e1 e2 e3;refine⟨u',r',?_⟩;rcases q with⟨k,e⟩|⟨k,c,e,z⟩
    ·refine .inl ⟨k,?_⟩;have:y≠x:=fun e=>C (GP hN e1 (e▸hi));simp[this,e]
    ·exact .inr ⟨k,c,e,z.sameBut f (G y c e)⟩
  ·obtain⟨T,z⟩:=I.cell y c e;exact⟨T,z.sameBut f (G y c e)⟩
  ·obtain⟨e,n,ne,nf,d⟩:=I.pin p hp;exact⟨(f.2 p.1 ne).trans e,n,ne,nf,d⟩
 ·have D:X.fn x=true:=by
   rcases hf with z|z
   ·exact z
   ·rw[z]at w;cases w
  obtain⟨c,hc⟩:=I.ok.has x (.inl w);obtain⟨T,z⟩:=I.cell x c hc;refine wpAny_storeName_cell I.ok.kind w hc z (fun J S f=>?_);obtain⟨oc,L,K⟩:=id z;refine h {s with heap:=J} ⟨I.ok,I.os,I.bare,⟨fun b o e n F l=>?_,fun b o e n F l=>?_,I.base.free,fun b o e l=>?_,I.base.tups,I.base.frzs,I.base.tbls⟩,⟨m,hn.sameBut f (Y8 (G x c hc)),fun j y W e1 e2 e3=>?_⟩,fun y V e=>?_,I.free,I.freeC,fun p hp=>?_,g ⟨oc,L,I.freeC x c hc⟩ f,by simpa using I.len⟩ ⟨c,f,.inr hc⟩
  ·exact(f.2 b (Y6 (X8 (Z1 e) (I.ok.cab x c D hc)))).trans (I.base.keep b o e n F l)
  ·obtain⟨sl,e1⟩:=I.base.slot b o e n F l;exact⟨sl,(f.2 b (Y6 (X8 (Z1 e) (I.ok.cab x c D hc)))).trans e1⟩
  ·obtain⟨o',e1⟩:=I.base.there b o e l;exact⟨o',(f.2 b (Y6 (X8 (Z1 e) (I.ok.cab x c D hc)))).trans e1⟩
  ·by_cases C:j=i
   ·subst C;rw[hi]at e1;cases e1;rw[D6 N]at e2;cases e2;exact⟨u,r,.inr ⟨.inl w,c,hc,S⟩⟩
   ·rw[X4 (Y8 C)]at e2;obtain⟨u',r',q⟩:=hl j y W e1 e2 e3;refine⟨u',r',?_⟩;rcases q with q|⟨k,V,e,z'⟩
    ·exact .inl q
    ·refine .inr ⟨k,V,e,z'.sameBut f ?_⟩;rintro rfl;exact C (GP hN e1 (I.ok.inj _ _ _ e hc▸hi))
  ·by_cases R:V=c
   ·subst R;exact⟨_,S⟩
   ·obtain⟨w2,z2⟩:=I.cell y V e;exact⟨w2,z2.sameBut f R⟩
  ·obtain⟨e,n,ne,nf,d⟩:=I.pin p hp;refine⟨(f.2 p.1 ?_).trans e,n,ne,nf,d⟩;intro q;rw[q,L]at e;have q':oc=p.2:=Z2 e;exact d T (by rw[<-q'];exact K)
theorem sM{M:Model}{Q:Unit->Shared->Prop}(I:Inv X U Z H s)(b:X.N.Nodup)(hi:X.N[i]? = some x)(a:Loc X.env.scope x)(r:RelV v u)(h:∀s',Inv X U (Z.set i (some v)) H s'->Q () s')(hf:X.fn x=true\/X.env.scope.names.lookup x=some .local:=by first|exact .inl rfl|exact .inr rfl|assumption):wpAny M A (storeName X.env x u) Q E s:=
 OQ I b hi a r (fun s' c _=>h s' c) hf
theorem Inv.call'(I:Inv X U Z H s)(f:s'.os=s.os)(u:Un (sH X.stack) ch H H' s.heap s'.heap)(hok:pG X.prog X.w H' s'.heap)(g:AllBare s'.gens)(a:∀b∈ch,(b∈X.ex\/X.s₀.heap.objs.size<=b)/\b≠X.env.locals/\(∀x c,X.env.cells.lookup x=some c->c≠b)/\∀p∈X.pn++U,p.1≠b):Inv X U Z H' s':=by obtain⟨h,g',d',t',d⟩:=s';have e:d=s.os:=f;subst e;exact I.call (g':=g') (t':=t') (d':=d') u hok g a
end
abbrev XK:=Value->Option Addr->Hp->Prop
abbrev St:=List (Option V)
abbrev VK:=V->Hp->Prop
abbrev TE:=St->Hp->VK->Prop
abbrev TT:=St->Hp->(Bool->Hp->Prop)->Prop
abbrev TA:=St->Hp->(List V->Hp->Prop)->Prop
structure Ends where
 nx:St->Hp->Prop
 rt:VK
 bk:St->Hp->Prop:=fun _ _=>False
 ct:St->Hp->Prop:=fun _ _=>False
abbrev TS:=Ends->St->Hp->Prop
def EP(X:Cx)(U:List (Addr×Obj))(Z:St)(Q:VK)(u:Value)(s':Shared):Prop:=∃v H',Inv X U Z H' s'/\RelV v u/\Q v H'
def TP(X:Cx)(U:List (Addr×Obj))(Z:St)(Q:Bool->Hp->Prop)(b:Bool)(s':Shared):Prop:=∃H',Inv X U Z H' s'/\Q b H'
def AP(X:Cx)(U:List (Addr×Obj))(Z:St)(Q:List V->Hp->Prop)(us:List Value)(s':Shared):Prop:=∃vs H',Inv X U Z H' s'/\bD vs us/\Q vs H'
def SP(X:Cx)(U:List (Addr×Obj))(D:Ends)(f:Flow)(s':Shared):Prop:=
 match f with
 |.next=>∃σ' H',Inv X U σ' H' s'/\D.nx σ' H'|.brk=>∃σ' H',Inv X U σ' H' s'/\D.bk σ' H'|.cont=>∃σ' H',Inv X U σ' H' s'/\D.ct σ' H'|.ret u=>∃v σ' H',Inv X U σ' H' s'/\RelV v u/\D.rt v H'
def PE(X:Cx)(e:Expr)(t:TE):Prop:=
 ∀(U:List (Addr×Obj)) (s:Shared) (Z:St) (H:Hp) (Q:VK),Inv X U Z H s->t Z H Q->wpAny (model X.prog X.w) X.A (eval e X.env) (EP X U Z Q) X.xe s
def PT(X:Cx)(e:Expr)(t:TT):Prop:=
 ∀(U:List (Addr×Obj)) (s:Shared) (Z:St) (H:Hp) (Q:Bool->Hp->Prop),Inv X U Z H s->t Z H Q->wpAny (model X.prog X.w) X.A (isTrue e X.env (eval e X.env)) (TP X U Z Q) X.xe s
def PW(X:Cx)(e:Expr)(t:TT):Prop:=
 ∀(whole:Sem Value) (U:List (Addr×Obj)) (s:Shared) (Z:St) (H:Hp) (Q:Bool->Hp->Prop),Inv X U Z H s->t Z H Q->wpAny (model X.prog X.w) X.A (isTrue e X.env whole) (TP X U Z Q) X.xe s
variable{e:Expr}
theorem PW.pt{t:TT}(h:PW X e t):PT X e t:=h _
def PA(X:Cx)(es:List Expr)(t:TA):Prop:=
 ∀(pos:Pos) (U:List (Addr×Obj)) (s:Shared) (Z:St) (H:Hp) (Q:List V->Hp->Prop),Inv X U Z H s->t Z H Q->wpAny (model X.prog X.w) X.A (spliced (backTo pos (starEach es X.env))) (AP X U Z Q) X.xe s
def PS(X:Cx)(st:Stmt)(t:TS):Prop:=
 ∀(U:List (Addr×Obj)) (s:Shared) (Z:St) (H:Hp) (D:Ends),Inv X U Z H s->t D Z H->wpAny (model X.prog X.w) X.A (exec st X.env) (SP X U D) X.xe s
def LY(X:Cx)(st:List Stmt)(t:TS):Prop:=
 ∀(U:List (Addr×Obj)) (s:Shared) (Z:St) (H:Hp) (D:Ends),Inv X U Z H s->t D Z H->wpAny (model X.prog X.w) X.A (execs st X.env) (SP X U D) X.xe s
theorem eL{t:Sem α}{Q b:α->Shared->Prop}{M:Model}(h:wpAny M A t Q E s)(c:∀a s,Q a s->b a s):wpAny M A t b E s:=W0 h c fun _ _ x=>x
variable{pos:Pos}{Z:St}{Q:Value->Shared->Prop}{ta tb:TE}{op:CmpOp}
section
def Hq(i:Nat):TE:=fun Z H Q=>∃v,Z[i]? = some (some v)/\Q v H
def tC(v:V):TE:=fun _ H Q=>Q v H
theorem iU(o:X.N[i]? = some x)(g:SA X.env.scope x)(hd:(x==("__debug__" : Str))=false:=by decide)(f:(x==("__classdict__" : Str))=false:=by decide):PE X (.Name x pos) (Hq i):=by
 intro U s Z H Q I h;obtain⟨v,e,h⟩:=h;obtain⟨m,j,n⟩:=I.loc;obtain⟨u,r,l⟩:=n i x v o e g;have d:EP X U Z Q u s:=⟨v,H,I,r,h⟩;rcases l with⟨b,k⟩|⟨b,c,hc,a⟩
 ·exact wpAny_Name (wpAny_loadName_local I.ok.kind b j k d) hd
 ·rcases b with b|b
  ·exact wpAny_Name (wpAny_loadName_cell I.ok.kind b hc a d) hd
  ·exact wpAny_Name (wpAny_loadName_free I.ok.kind b hc a d f) hd
theorem VE{i j pos}:PE X (.Constant (.int i) j pos) (tC (.int i)):=fun _ _ _ H _ I h=>wpAny_Constant_int ⟨.int i,H,I.tok _,⟨_,rfl⟩,h⟩
theorem Po{b j pos}:PE X (.Constant (.bool b) j pos) (tC (.bl b)):=fun _ _ _ H _ I h=>Constant_bool ⟨.bl b,H,I,rfl,h⟩
theorem xI{j pos}:PE X (.Constant .none j pos) (tC .non):=fun _ _ _ H _ I h=>Constant_none ⟨.non,H,I,rfl,h⟩
theorem Iw{x j pos}:PE X (.Constant (.str x) j pos) (tC (.str x)):=fun _ _ _ H _ I h=>Calls.Constant_str ⟨.str x,H,I.tok _,⟨_,rfl⟩,h⟩
def Gl(X:Cx)(x:Str):Prop:=X.env.kindOf x=some .globalImplicit
theorem wD(I:Inv X U Z H s)(b:Gl X x)(a:X.mg x=some u)(h:Q u s)(hd:(x==("__debug__" : Str))=false:=by decide):wpAny (model X.prog X.w) X.A (eval (.Name x pos) X.env) Q E s:=
 yy I.ok.kind b (Calls.loadGlobal_global (by rw[I.ok.glob];exact I.mod.glob.keeps I.bk) a h) hd
theorem jX(I:Inv X U Z H s)(d:Gl X x)(c:X.mg x=none)(a:bootBuiltins x=some u)(h:Q u s)(b:x≠ "__name__" :=by decide)(hd:(x==("__debug__" : Str))=false:=by decide):wpAny (model X.prog X.w) X.A (eval (.Name x pos) X.env) Q E s:=by obtain⟨g,f,e⟩:=I.mod.blt;exact yy I.ok.kind d (Calls.loadGlobal_builtin (by rw[I.ok.glob];exact I.mod.glob.keeps I.bk) c (by rw[I.ok.blt];exact f.keeps I.bk) ((e x b).trans a) h) hd
theorem wB(b:Gl X x)(a:X.mg x=some u)(r:RelV v u)(hd:(x==("__debug__" : Str))=false:=by decide):PE X (.Name x pos) (tC v):=
 fun _ _ _ H _ I h=>wD I b a ⟨v,H,I,r,h⟩ hd
theorem MY(d:Gl X x)(c:X.mg x=none)(a:bootBuiltins x=some u)(r:RelV v u)(b:x≠ "__name__" :=by decide)(hd:(x==("__debug__" : Str))=false:=by decide):PE X (.Name x pos) (tC v):=
 fun _ _ _ H _ I h=>jX I d c a ⟨v,H,I,r,h⟩ b hd
variable{a b:Expr}
def PC(X:Cx)(op:CmpOp)(a b:Expr)(t:TE):Prop:=
 ∀(U:List (Addr×Obj)) (s:Shared) (Z:St) (H:Hp) (Q:VK),Inv X U Z H s->t Z H Q->
  wpAny (model X.prog X.w) X.A (eval a X.env) (fun v s₁=>wpAny (model X.prog X.w) X.A (eval b X.env) (fun u s₂=>wpAny (model X.prog X.w) X.A (compareOp op v u) (EP X U Z Q) X.xe s₂) X.xe s₁) X.xe s
theorem GQ(b:Expr)(h:op≠.In)(a:op≠.NotIn):behindInMarks op b=false:=by have e1:(op==CmpOp.In)=false:=(by cases op<;>first|rfl|exact absurd rfl h);have e2:(op==CmpOp.NotIn)=false:=(by cases op<;>first|rfl|exact absurd rfl a);cases b<;>simp[behindInMarks,e1,e2]
def tB(t:TE):TT:=fun Z H Q=>t Z H fun x H1=>∃c,x=.bl c/\Q c H1
theorem Iy{t:TE}(h:PC X op a b t)(c:behindInMarks op b=false:=by first|exact GQ _ (by decide) (by decide)|rfl):PE X (.Compare a [op] [b] pos) t:=fun U s Z H Q I hw=>wpAny_Compare1 (h U s Z H Q I hw) c
theorem Ik{t:TE}(h:PC X op a b t)(e:behindInMarks op b=false:=by first|exact GQ _ (by decide) (by decide)|rfl):PT X (.Compare a [op] [b] pos) (tB t):=by intro U s Z H Q I hw;refine wpAny_isTrue_Compare1 (eL (h U s Z H _ I hw) fun v j e=>eL e fun u i f=>eL f fun c g ⟨x,H1,I1,r1,q1⟩=>?_) e;obtain⟨d,rfl,q⟩:=q1;cases r1;exact Q4 ⟨H1,I1,q⟩
theorem Ii{t:TE}(h:PE X e t)(he:∀a,isTrue e X.env a=(do let v <-a;standAt e.pos;holding [v] (truthy v)):=by intro _;rfl):PT X e (tB t):=by intro U s Z H Q I hw;refine isTrue_plain (eL (h U s Z H _ I hw) fun v b ⟨x,H1,I1,r1,q1⟩=>?_) (he _);obtain⟨d,rfl,q⟩:=q1;cases r1;exact Q4 ⟨H1,I1,q⟩
variable{tA tB':TT}{rest:List Expr}
def Vs(t u:TT):TT:=fun Z H Q=>t Z H fun c H1=>if c=true then u Z H1 Q else Q false H1
def tOr(t u:TT):TT:=fun Z H Q=>t Z H fun c H1=>if c=true then Q true H1 else u Z H1 Q
def Vl(t:TT):TT:=fun Z H Q=>t Z H fun c H1=>Q (!c) H1
theorem Bf(b:PT X a tA):PW X (.BoolOp .And [a] pos) tA:=by
 intro d U s Z H Q I h;refine isTrue_and (eL (b U s Z H Q I h) fun c f e=>?_);cases c with
 |true=>exact isTrue_and_nil e|false=>exact e
theorem Ie(b:PT X a tA):PW X (.BoolOp .Or [a] pos) tA:=by
 intro d U s Z H Q I h;refine isTrue_or (eL (b U s Z H Q I h) fun c f e=>?_);cases c with
 |false=>exact isTrue_or_nil e|true=>exact e
theorem Ig(g:PT X a tA)(f:PW X (.BoolOp .And (b::rest) pos) tB'):PW X (.BoolOp .And (a::b::rest) pos) (Vs tA tB'):=by
 intro d U s Z H Q I h;refine isTrue_and (eL (g U s Z H _ I h) fun c e ⟨H1,I1,q1⟩=>?_);cases c with
 |true=>exact f d U e Z H1 Q I1 q1|false=>exact⟨H1,I1,q1⟩
theorem Pg(g:PT X a tA)(f:PW X (.BoolOp .Or (b::rest) pos) tB'):PW X (.BoolOp .Or (a::b::rest) pos) (tOr tA tB'):=by
 intro d U s Z H Q I h;refine isTrue_or (eL (g U s Z H _ I h) fun c e ⟨H1,I1,q1⟩=>?_);cases c with
 |true=>exact⟨H1,I1,q1⟩|false=>exact f d U e Z H1 Q I1 q1
theorem Ij(b:PT X a tA):PT X (.UnaryOp .Not a pos) (Vl tA):=by intro U s Z H Q I h;exact isTrue_not (b U s Z H (fun c d=>Q (!c) d) I h)
def Oa(ta tb:TE):TE:=fun Z H Q=>ta Z H fun x H1=>∃c,x=.bl c/\if c=true then tb Z H1 Q else Q (.bl false) H1
def Vk(ta tb:TE):TE:=fun Z H Q=>ta Z H fun x H1=>∃c,x=.bl c/\if c=true then Q (.bl true) H1 else tb Z H1 Q
def Nr(ta:TE):TE:=fun Z H Q=>ta Z H fun x H1=>∃c,x=.bl c/\Q (.bl (!c)) H1
theorem KD{op}{t:TE}(h:PE X a t):PE X (.BoolOp op [a] pos) t:=fun U s Z H Q I hw=>BoolOp_one (h U s Z H Q I hw)
theorem CJ(g:PE X a ta)(f:PE X (.BoolOp .And (b::rest) pos) tb):PE X (.BoolOp .And (a::b::rest) pos) (Oa ta tb):=by
 intro U s Z H Q I h;refine BoolOp_and (eL (g U s Z H _ I h) fun v e ⟨x,H1,I1,r1,d⟩=>?_);obtain⟨c,rfl,d⟩:=d;cases r1;refine Q4 ?_;cases c with
 |true=>exact f U e Z H1 Q I1 d|false=>exact⟨.bl false,H1,I1,rfl,d⟩
theorem Pn(g:PE X a ta)(f:PE X (.BoolOp .Or (b::rest) pos) tb):PE X (.BoolOp .Or (a::b::rest) pos) (Vk ta tb):=by
 intro U s Z H Q I h;refine BoolOp_or (eL (g U s Z H _ I h) fun v e ⟨x,H1,I1,r1,d⟩=>?_);obtain⟨c,rfl,d⟩:=d;cases r1;refine Q4 ?_;cases c with
 |false=>exact f U e Z H1 Q I1 d|true=>exact⟨.bl true,H1,I1,rfl,d⟩
theorem KE(d:PE X a ta):PE X (.UnaryOp .Not a pos) (Nr ta):=by intro U s Z H Q I h;refine UnaryOp_ (eL (d U s Z H _ I h) fun v e ⟨x,H1,I1,r1,b⟩=>?_);obtain⟨c,rfl,b⟩:=b;cases r1;exact not_of (Q4 ⟨.bl (!c),H1,I1,rfl,b⟩)
end
def iA(K:Z4)(H:Hp)(a:Addr)(xs:List V):Prop:=
 Rd H a (.lst xs)\/
  ∃(o:Obj) (its:Array Value) (n:Nat),K.lookup a=some o/\o.cls=.type "list" /\o.dict=none/\o.data=.seq its n/\its.size<=sizeLine/\bD xs its.toList
def cA(K:Z4)(H:Hp)(a:Addr)(xs:List V):Prop:=
 Rd H a (.tup xs)\/
  ∃(o:Obj) (its:Array Value) (n:Nat),K.lookup a=some o/\o.cls=.type "tuple" /\o.data=.seq its n/\its.size<=sizeLine/\bD xs its.toList
noncomputable def Yy:Value->Option V
 |.none=>some .non|.bool b=>some (.bl b)|.int i _=>some (.int i)|.str x _=>some (.str x)|.bytes b _=>some (.byt b)|.float b _=>some (.flt b)|.ref a=>some (.ref a)|.type n=>some (.ty n)|_=>none
theorem RelV.abs{x:V}(r:RelV x u):Yy u=some x:=by
 cases x with
 |non=>cases r;rfl|bl _=>cases r;rfl|int _=>obtain⟨t,rfl⟩:=r;rfl|str _=>obtain⟨t,rfl⟩:=r;rfl|byt _=>obtain⟨t,rfl⟩:=r;rfl|flt _=>obtain⟨t,rfl⟩:=r;rfl|ref _=>cases r;rfl|ty _=>cases r;rfl
variable{y:V}
theorem RelV.inj{x:V}(r:RelV x u)(q:RelV y u):x=y:=Z2 (r.abs.symm.trans q.abs)
theorem bD.inj:∀{xs a:List V} {us:List Value},bD xs us->bD a us->xs=a
 |_,_,_,.nil,.nil=>rfl|_,_,_,.cons r t,.cons r' t'=>by rw[r.inj r',bD.inj t t']
variable{ys:List V}{K:Z4}
theorem iA.of(h:H a=some (.lst xs)):iA K H a xs:=.inl (.inl h)
theorem cA.of(h:H a=some (.tup xs)):cA K H a xs:=.inl (.inl h)
theorem Inv.list(I:Inv X U Z H s)(h:iA X.K H a xs):∃b:List Value,bD xs b/\PlainL s.heap a b.toArray/\xs.length<=sizeLine:=by
 rcases h with h|⟨o,b,n,d,hc,hd,c,f,r⟩
 ·obtain⟨z,b,n,r,e⟩:=h.ok I.hok;exact⟨b,r,⟨_,n,e,rfl,rfl,rfl⟩,z⟩
 ·refine⟨b.toList,r,⟨o,n,I.kIn a o d,hc,hd,by simpa using c⟩,?_⟩;have e:=r.length;simp only[X2]at e;lia
theorem Inv.tuple(I:Inv X U Z H s)(h:cA X.K H a xs):∃b:List Value,bD xs b/\IsTup s.heap a b.toArray/\xs.length<=sizeLine:=by
 rcases h with h|⟨o,b,n,d,hc,c,f,r⟩
 ·obtain⟨z,b,r,p⟩:=h.ok I.hok;exact⟨b,r,p.tup,z⟩
 ·refine⟨b.toList,r,⟨o,I.kIn a o d,hc,n,by simpa using c⟩,?_⟩;have e:=r.length;simp only[X2]at e;lia
theorem Inv.list_inj(I:Inv X U Z H s)(h:iA X.K H a xs)(h':iA X.K H a ys):xs=ys:=by obtain⟨c,r,⟨o,n,e,_,_,d⟩,_⟩:=I.list h;obtain⟨b,i,⟨j,k,f,_,_,g⟩,_⟩:=I.list h';rw[e]at f;cases f;rw[d]at g;injection g with d1 _;have:c=b:=(by simpa using V8 Array.toList d1);subst this;exact r.inj i
theorem Inv.tuple_inj(I:Inv X U Z H s)(h:cA X.K H a xs)(j:cA X.K H a ys):xs=ys:=by obtain⟨c,r,⟨o,e,_,n,d⟩,_⟩:=I.tuple h;obtain⟨b,i,⟨k,f,_,l,g⟩,_⟩:=I.tuple j;rw[e]at f;cases f;rw[d]at g;injection g with d1 _;have:c=b:=(by simpa using V8 Array.toList d1);subst this;exact r.inj i
noncomputable abbrev Cx.wish(X:Cx)(E:Value->Shared->Prop):Cx:={X with xe:=E}
noncomputable abbrev Cx.nox(X:Cx):Cx:=X.wish fun _ _=>False
theorem Cx.Ok.wish(ok:X.Ok)(E:Value->Shared->Prop):(X.wish E).Ok:=
 ⟨ok.mod,ok.kind,ok.glob,ok.blt,ok.above,ok.inj,ok.has,ok.cab,ok.hd,ok.frames,ok.stk,ok.exf,ok.bs,ok.bsz,ok.noex,ok.exfs,ok.funs,ok.frf⟩
theorem Cx.Ok.unwish(ok:(X.wish E).Ok):X.Ok:=
 ⟨ok.mod,ok.kind,ok.glob,ok.blt,ok.above,ok.inj,ok.has,ok.cab,ok.hd,ok.frames,ok.stk,ok.exf,ok.bs,ok.bsz,ok.noex,ok.exfs,ok.funs,ok.frf⟩
theorem Inv.wish(I:Inv X U Z H s)(E:Value->Shared->Prop):Inv (X.wish E) U Z H s:=⟨I.ok.wish E,I.os,I.bare,I.base,I.loc,I.cell,I.free,I.freeC,I.pin,I.hok,I.len⟩
theorem Inv.unwish(I:Inv (X.wish E) U Z H s):Inv X U Z H s:=⟨I.ok.unwish,I.os,I.bare,I.base,I.loc,I.cell,I.free,I.freeC,I.pin,I.hok,I.len⟩
theorem SP.unwish{D:Ends}{f:Flow}(h:SP (X.wish E) U D f s'):SP X U D f s':=by
 cases f with
 |next=>obtain⟨σ',a,I,q⟩:=h;exact⟨σ',a,I.unwish,q⟩|brk=>obtain⟨σ',a,I,q⟩:=h;exact⟨σ',a,I.unwish,q⟩|cont=>obtain⟨σ',a,I,q⟩:=h;exact⟨σ',a,I.unwish,q⟩|ret u=>obtain⟨v,σ',a,I,r,q⟩:=h;exact⟨v,σ',a,I.unwish,r,q⟩
theorem LY.nox{st:List Stmt}{t:TS}(h:LY X.nox st t):LY X st t:=fun U s Z H D I hw=>W0 (h U s Z H D (I.wish _) hw) (fun _ _ q=>q.unwish) fun _ _ z=>False.elim z
variable{st:Stmt}{te:TE}{c:Expr}
section
variable{rest:List Stmt}{t u:TS}
def Nt:TS:=fun D Z H=>D.nx Z H
def Vi(t u:TS):TS:=fun D Z H=>t {D with nx:=u D} Z H
theorem MT:LY X [] Nt:=fun _ _ Z H _ I h=>G5 ⟨Z,H,I,h⟩
theorem GB(c:PS X st t)(b:LY X rest u):LY X (st::rest) (Vi t u):=by
 intro U s Z H D I h;refine wpAny_execs_cons (eL (c U s Z H {D with nx:=u D} I h) fun f a q=>?_);cases f with
 |next=>obtain⟨σ',e,d,q⟩:=q;exact b U a σ' e D d q
 |ret v=>exact q|brk=>exact q|cont=>exact q
theorem MS(a:PS X st t):LY X [st] t:=by
 intro U s Z H D I h;refine wpAny_execs_cons (eL (a U s Z H D I h) fun f b q=>?_);cases f with
 |next=>exact G5 q|ret v=>exact q|brk=>exact q|cont=>exact q
theorem Inv.quiet(I:Inv X U Z H s):interactive X.env=false:=by simp[interactive,I.ok.kind]
def Nw(te:TE):TS:=fun D Z H=>te Z H fun _ H1=>D.nx Z H1
theorem CH(he:PE X e te)(a:swapsWith e none pos.line X.env=pure false:=by rfl):PS X (.Expr e pos) (Nw te):=by intro U s Z H D I h;exact wpAny_Expr_any (eL (he U s Z H _ I h) fun v b ⟨x,H1,I1,r1,q1⟩=>⟨Z,H1,I1,q1⟩) I.quiet a
def Vj(te:TE):TS:=fun D Z H=>te Z H D.rt
theorem UT(he:PE X e te):PS X (.Return (some e) pos) (Vj te):=by intro U s Z H D I h;exact wpAny_Return_some (eL (he U s Z H _ I h) fun v a ⟨x,H1,I1,r1,q1⟩=>⟨x,Z,H1,I1,r1,q1⟩)
def Vo(c:TT)(t u:TS):TS:=fun D Z H=>c Z H fun b H1=>if b=true then t D Z H1 else u D Z H1
theorem Ph{a b:List Stmt}{e:TT}(hc:PT X c e)(i:LY X a t)(g:LY X b u):PS X (.If c a b pos) (Vo e t u):=by
 intro U s Z H D I h;refine wpAny_If (eL (hc U s Z H _ I h) fun d f ⟨H1,I1,q1⟩=>?_);cases d with
 |true=>exact i U f Z H1 D I1 q1|false=>exact g U f Z H1 D I1 q1
end
abbrev TG:=V->St->Hp->(St->Hp->Prop)->Prop
abbrev Ha:=List V->St->Hp->(St->Hp->Prop)->Prop
def PG(X:Cx)(target:Expr)(t:TG):Prop:=
 ∀(U:List (Addr×Obj)) (s:Shared) (Z:St) (H:Hp) (v:V) (u:Value) (Q:St->Hp->Prop),Inv X U Z H s->RelV v u->t v Z H Q->
  wpAny (model X.prog X.w) X.A (assign target X.env u) (fun _ s'=>∃σ' H',Inv X U σ' H' s'/\Q σ' H') X.xe s
def Sq(X:Cx)(ts:List Expr)(t:Ha):Prop:=
 ∀(U:List (Addr×Obj)) (s:Shared) (Z:St) (H:Hp) (vs:List V) (us:List Value) (Q:St->Hp->Prop),Inv X U Z H s->bD vs us->t vs Z H Q->
  wpAny (model X.prog X.w) X.A (assignInOrder ((assignEach ts X.env).map (·.2)) us) (fun _ s'=>∃σ' H',Inv X U σ' H' s'/\Q σ' H') X.xe s
abbrev Le:=V->V->V->Hp->(Hp->Prop)->Prop
def So(X:Cx)(t:Le):Prop:=
 ∀(U:List (Addr×Obj)) (s:Shared) (Z:St) (H:Hp) (o i v:V) (ov iv u:Value) (Q:Hp->Prop),Inv X U Z H s->RelV o ov->RelV i iv->RelV v u->t o i v H Q->
  wpAny (model X.prog X.w) X.A (setItem ov iv u) (fun _ s'=>∃H',Inv X U Z H' s'/\Q H') X.xe s
variable{es:List Expr}{n:Nat}{tg:Expr}{pos':Pos}
def Gu(i:Nat):TG:=fun v Z H Q=>Q (Z.set i (some v)) H
theorem MW(b:X.N.Nodup)(hi:X.N[i]? = some x)(a:Loc X.env.scope x)(hf:X.fn x=true\/X.env.scope.names.lookup x=some .local:=by first|exact .inl rfl|exact .inr rfl|assumption):PG X (.Name x pos) (Gu i):=by intro U s Z H v u Q I r h;exact wpAny_assign_Name (sM I b hi a r (fun d c=>⟨_,H,c,h⟩) hf)
def Yd:Ha:=fun vs Z H Q=>vs=[]/\Q Z H
def Qn(t:TG)(u:Ha):Ha:=fun vs Z H Q=>∃v r,vs=v::r/\t v Z H fun σ' H'=>u r σ' H' Q
theorem Bp:Sq X [] Yd:=by intro U s Z H a b Q I r h;obtain⟨e,h⟩:=h;subst e;cases r;exact assignInOrder_nil ⟨Z,H,I,h⟩
theorem UZ{t:TG}{u:Ha}(f:PG X e t)(d:Sq X es u)(c:(assignEach (e::es) X.env).map (·.2)=assign e X.env::(assignEach es X.env).map (·.2):=by rfl):Sq X (e::es) (Qn t u):=by
 intro U s Z H g j Q I r h;obtain⟨v,i,e1,h⟩:=h;subst e1;cases r with
 |cons r b=>rw[c];refine assignInOrder_cons (eL (f U s Z H _ _ _ I r h) fun _ a ⟨σ1,H1,I1,q1⟩=>?_);exact d U a σ1 H1 _ _ Q I1 b q1
def Yb(K:Z4)(n:Nat)(t:Ha):TG:=fun v Z H Q=>∃a xs,v=.ref a/\cA K H a xs/\xs.length=n/\t xs Z H Q
theorem Iu{k:Nat}{t:Ha}(hc:X.calm=true)(h:Sq X es t)(l:(assignEach es X.env).length=n:=by rfl)(c:(assignEach es X.env).findIdx? (·.1)=none:=by rfl):PG X (.Tuple es k pos) (Yb X.K n t):=by intro U s Z H v u Q I r hw;obtain⟨a,f,e1,j,m,hw⟩:=hw;subst e1;cases r;obtain⟨g,d,ht,w⟩:=I.tuple j;refine assign_Tuple_tuple (I.ok.hd hc) ht (by simp[l,<-m,d.length]) c fun p i=>?_;have q:Inv X U Z H {s with heap:=p}:=I.kept (t':=s.toks) fun b o e=>i b o (Y6 (Z1 e)) e;exact h U _ Z H f _ Q q (by simpa using d) hw
def Yc(to ti:TE)(t:Le):TG:=fun v Z H Q=>to Z H fun o H1=>ti Z H1 fun i H2=>t o i v H2 fun H3=>Q Z H3
theorem Iv{o i:Expr}{to c:TE}{t:Le}(g:PE X o to)(hi:PE X i c)(f:So X t)
  (j:∀v,assign (.Subscript o i pos) X.env v=(do
   let a <-holding [v] (eval o X.env)
   let b <-holding [v,a] (eval i X.env)
   standAt pos
   holding [v,a,b] (setItem a b v)
   release [v,a,b] []):=by intro _;rfl):PG X (.Subscript o i pos) (Yc to c t):=by
 intro U s Z H v u Q I r h;rw[j];refine Z9 (X1 (eL (g U s Z H _ I h) fun a e ⟨x,H1,I1,r1,q1⟩=>?_));refine Z9 (X1 (eL (hi U e Z H1 _ I1 q1) fun b d ⟨y,H2,I2,r2,q2⟩=>?_));refine Z9 (GM (Z9 (X1 (eL (f U d Z H2 x y v a b u _ I2 r1 r2 r q2) fun _ k ⟨H3,I3,q3⟩=>?_))));exact wpAny_release ⟨Z,H3,I3,q3⟩
def Nz(te:TE)(g:TG):TS:=fun D Z H=>te Z H fun x H1=>g x Z H1 D.nx
theorem Il{g:TG}(he:PE X e te)(c:PG X tg g)(b:swapsWithSole [tg] e pos.line X.env=pure false:=by rfl)(hw:swappedStores [tg] e X.env=pure none:=by rfl)(d:(assignEach [tg] X.env).map (·.2)=[assign tg X.env]:=by rfl):PS X (.Assign [tg] e pos) (Nz te g):=by intro U s Z H D I h;refine wpAny_Assign_stores (eL (he U s Z H _ I h) fun v a ⟨x,H1,I1,r1,q1⟩=>?_) b hw;rw[d];exact eL (c U a Z H1 x v _ I1 r1 q1) fun _ f q=>q
theorem rM(c:X.N.Nodup)(hi:X.N[i]? = some x)(a:Loc X.env.scope x)(he:PE X e te)(b:swapsWith e (some (.Name x pos')) pos.line X.env=pure false:=by rfl)(hf:X.fn x=true\/X.env.scope.names.lookup x=some .local:=by first|exact .inl rfl|exact .inr rfl|assumption) :
  PS X (.Assign [.Name x pos'] e pos) (Nz te (Gu i)):=by
 intro U s Z H D I h;refine wpAny_Assign_Name (eL (he U s Z H _ I h) fun v g ⟨y,H1,I1,r1,q1⟩=>?_) b;exact sM I1 c hi a r1 (fun f d=>⟨_,H1,d,q1⟩) hf
variable{body:List Stmt}
def Ho(c:TT)(tb:TS):TS:=fun D Z H=>∃W:Nat->St->Hp->Prop,(∃m,W m Z H)/\∀m Z H,W m Z H->
 c Z H fun b H1=>if b=true then ∃N:St->Hp->Prop,(∀σ' H',N σ' H'->∃m',m'<m/\W m' σ' H')/\tb {D with nx:=N,ct:=N,bk:=D.nx} Z H1 else D.nx Z H1
theorem US{m:TT}{o:TS}(p:PassesOwn (model X.prog X.w) X.A X.env X.xe)(hc:PT X c m)(y:LY X body o):PS X (.While c body [] pos) (Ho m o):=by
 intro U s Z H D I h;obtain⟨W,⟨x,r⟩,a⟩:=h;refine wpAny_While (codeAny_whileLoop (fun n w=>∃σ' H',Inv X U σ' H' w/\W n σ' H') ?_ x ⟨Z,H,I,r⟩);rintro n u ⟨σ1,H1,I1,w1⟩;refine O9 p (eL (hc U u σ1 H1 _ I1 (a n σ1 H1 w1)) fun b t ⟨H2,I2,g⟩=>?_);cases b with
 |true=>
  obtain⟨N,q,g⟩:=g;rw[Z8 rfl];refine O9 p (eL (y U t σ1 H2 _ I2 g) fun f z e=>?_);cases f with
  |next=>obtain⟨σ3,d,l,n3⟩:=e;obtain⟨j,k,i⟩:=q σ3 d n3;exact⟨j,k,σ3,d,l,i⟩
  |cont=>obtain⟨σ3,d,l,n3⟩:=e;obtain⟨j,k,i⟩:=q σ3 d n3;exact⟨j,k,σ3,d,l,i⟩
  |brk=>exact e|ret v=>exact e
 |false=>rw[Z6 W6];exact G5 ⟨σ1,H2,I2,g⟩
structure It where
 go:Nat->Hp->Prop
 yld:Nat->Hp->V->Hp->Prop
 stop:Nat->Hp->Prop
def qH(X:Cx)(U:List (Addr×Obj))(H:Hp)(b:Addr):Prop:=
 H b=none/\b≠X.env.locals/\b∉X.fs/\(b∈X.ex\/X.s₀.heap.objs.size<=b)/\(∀x c,X.env.cells.lookup x=some c->c≠b)/\∀p∈X.pn++U,p.1≠b
theorem Inv.fpOk(I:Inv X U Z H s)(a:s.heap.objs.size<=b)(f:H' b=none):qH X U H' b:=by
 refine⟨f,SB (X8 I.lt a),I.nofs a,.inr (W2 I.sz a),fun x c e z=>?_,fun p d z=>?_⟩
 ·obtain⟨v,q⟩:=I.cell x c e;exact absurd (X8 q.lt (by rw[z];exact a)) (U3 _)
 ·exact absurd (X8 (Z1 (I.pin p d).1) (by rw[z];exact a)) (U3 _)
structure IU(P:Program)(w:World)(K:Z4)(tg:Expr)(J:It)(fp:List Addr)(it:Addr)(tn:Nat->Heap->Prop):Prop where
 mem:it∈fp
 obj:∀i h,tn i h->∀b∈fp,∃o,h.get? b=some o/\∀v,o.data≠.cell v
 keep:∀i h h',tn i h->(∀b∈fp,∀o,h.get? b=some o->h'.get? b=some o)->tn i h'
 item:∀(X:Cx),X.prog=P->X.w=w->X.K=K->X.calm=true->∀(i:Nat) (U:List (Addr×Obj)) (s:Shared) (Z:St) (H:Hp) (E:Value->Shared->Prop),Inv X U Z H s->(∀b∈fp,qH X U H b)->tn i s.heap->J.go i H->
  wpAny (model P w) X.A (pyNext (.ref it)) (fun r s1=>∃u,r=some u/\
   wpAny (model P w) X.A (letOwnedTupleGo tg (.ref it) u) (fun _ s2=>∃x H',Inv X U Z H' s2/\RelV x u/\J.yld i H x H'/\tn (i+1) s2.heap/\∀b∈fp,H' b=none) E s1) E s
 done:∀(X:Cx),X.prog=P->X.w=w->X.K=K->X.calm=true->∀(i:Nat) (U:List (Addr×Obj)) (s:Shared) (Z:St) (H:Hp) (E:Value->Shared->Prop),Inv X U Z H s->(∀b∈fp,qH X U H b)->tn i s.heap->J.stop i H->
  wpAny (model P w) X.A (pyNext (.ref it)) (fun r s1=>r=none/\Inv X U Z H s1) E s
 self:∀(A:Around) (i:Nat) (s:Shared) (Q:Value->Shared->Prop) (E:Value->Shared->Prop),tn i s.heap->Q (.ref it) s->wpAny (model P w) A (pyIter (.ref it)) Q E s
abbrev TI:=St->Hp->(It->Hp->Prop)->Prop
def Yz(X:Cx)(U:List (Addr×Obj))(Z:St)(tg:Expr)(R:It->Hp->Prop)(itv:Value)(s2:Shared):Prop:=
 ∃(it:Addr) (fp:List Addr) (tn:Nat->Heap->Prop) (J:It) (H':Hp),itv=.ref it/\Inv X U Z H' s2/\IU X.prog X.w X.K tg J fp it tn/\tn 0 s2.heap/\(∀b∈fp,qH X U H' b)/\R J H'
def PI(X:Cx)(tg iter:Expr)(wi:TI):Prop:=
 ∀(U:List (Addr×Obj)) (s:Shared) (Z:St) (H:Hp) (R:It->Hp->Prop),Inv X U Z H s->wi Z H R->
  wpAny (model X.prog X.w) X.A (eval iter X.env) (fun v s1=>wpAny (model X.prog X.w) X.A (pyIter v) (Yz X U Z tg R) X.xe s1) X.xe s
theorem HL{M:Model}{o:Obj}{n:String}{b:Array Value}{Q:Unit->Shared->Prop}(c:s.heap.get? it=some o)(hc:o.cls=.type n)(hd:o.data=.fields b)(d:["enumerate","zip","dict_itemiterator","dict_reverseitemiterator","odict_iterator","itertools.zip_longest","itertools.pairwise"].contains n=false)(a:Q () s):wpAny M A (letOwnedTupleGo tg (.ref it) u) Q E s:=by
 unfold letOwnedTupleGo;cases tg<;>first
  |exact Z7 a
  |(cases u<;>first|exact Z7 a|(refine Z9 (wpAny_load c ?_);rw[hc,hd];show wpAny M A (if(["enumerate","zip","dict_itemiterator","dict_reverseitemiterator","odict_iterator","itertools.zip_longest","itertools.pairwise"].contains n&&b[0]?==some (rawInt _))=true then _ else _) Q E s;rw[Z6 (by intro h;rw[d,Bool.false_and]at h;cases h)];exact Z7 a))
def Ze(K:Z4)(a:Addr):It:=
 ⟨fun i H=>∃xs x,iA K H a xs/\xs[i]? = some x,fun i H x H'=>H'=H/\∀xs,iA K H a xs->xs[i]? = some x,fun i H=>∃xs,iA K H a xs/\xs.length<=i⟩
def Zd(K:Z4)(a:Addr):It:=
 ⟨fun i H=>∃xs x,cA K H a xs/\xs[i]? = some x,fun i H x H'=>H'=H/\∀xs,cA K H a xs->xs[i]? = some x,fun i H=>∃xs,cA K H a xs/\xs.length<=i⟩
def Lo(lo:Int)(n:Nat):It:=⟨fun i _=>i<n,fun i H x H'=>H'=H/\x=.int (lo+i),fun i _=>n<=i⟩
theorem ON(a f:Addr):IU P w K tg (Ze K a) [f] f (fun i h=>h.IsListIter f a i) where
 mem:=by simp
 obj:=fun i h st b g=>by have e:b=f:=(by simpa using g);subst e;obtain⟨o,e,c,d⟩:=st;exact⟨o,e,fun v z=>by rw[d]at z;cases z⟩
 keep:=fun i h m st k=>st.at fun o e=>k f (by simp) o e
 item:=by intro X y hw A hc i U s Z H E I hf st t;subst y hw A;obtain⟨L,x,l,r⟩:=t;obtain⟨q,n,p,Q⟩:=I.list l;obtain⟨u,S,N⟩:=n.get r;obtain⟨J,G,T,F,D,C⟩:=hf f (by simp);refine wpAny_pyNext_list_item st p.isList (x:=u) (by simpa using S) fun m j M=>?_;have W:Inv X U Z H {s with heap:=m}:=I.turned (t':=s.toks) (fun b o g e=>(M.2 b g).trans e) J G F D C;obtain⟨o,e,c,d⟩:=id j;exact⟨u,rfl,HL (s:={s with heap:=m}) e c d (by decide) ⟨x,H,W,N,⟨rfl,fun ys R=>by rw[I.list_inj R l];exact r⟩,j,fun b g=>(hf b g).1⟩⟩
 done:=by intro X y hw A hc i U s Z H E I hf st t;subst y hw A;obtain⟨L,l,r⟩:=t;obtain⟨q,n,p,Q⟩:=I.list l;obtain⟨J,G,T,F,D,C⟩:=hf f (by simp);have hl:=n.length;exact wpAny_pyNext_list_end (I.ok.hd hc) st p.isList (by simp;lia) fun m V=>⟨rfl,I.turned (t':=s.toks) (fun b o g e=>V b o g e) J G F D C⟩
 self:=fun _ _ _ _ _ st h=>wpAny_pyIter_listiter st h
theorem JJ(a g:Addr):IU P w K tg (Zd K a) [g] g (fun i h=>h.IsTupleIter g a i) where
 mem:=by simp
 obj:=fun i h st b j=>by have e:b=g:=(by simpa using j);subst e;obtain⟨o,e,c,d⟩:=st;exact⟨o,e,fun v z=>by rw[d]at z;cases z⟩
 keep:=fun i h n st k=>st.at fun o e=>k g (by simp) o e
 item:=by intro X y hw A hc i U s Z H E I hf st t;subst y hw A;obtain⟨L,x,m,r⟩:=t;obtain⟨f,q,p,Q⟩:=I.tuple m;obtain⟨u,S,N⟩:=q.get r;obtain⟨J,G,T,F,D,C⟩:=hf g (by simp);refine wpAny_pyNext_tuple_item st (show s.heap.IsTuple a f.toArray from p) (x:=u) (by simpa using S) fun n l M=>?_;have W:Inv X U Z H {s with heap:=n}:=I.turned (t':=s.toks) (fun b o j e=>(M.2 b j).trans e) J G F D C;obtain⟨o,e,c,d⟩:=id l;exact⟨u,rfl,HL (s:={s with heap:=n}) e c d (by decide) ⟨x,H,W,N,⟨rfl,fun ys R=>by rw[I.tuple_inj R m];exact r⟩,l,fun b j=>(hf b j).1⟩⟩
 done:=by intro X y hw A hc i U s Z H E I hf st t;subst y hw A;obtain⟨L,m,r⟩:=t;obtain⟨f,q,p,Q⟩:=I.tuple m;obtain⟨J,G,T,F,D,C⟩:=hf g (by simp);have hl:=q.length;exact wpAny_pyNext_tuple_end (I.ok.hd hc) st (show s.heap.IsTuple a f.toArray from p) (by simp;lia) fun n V=>⟨rfl,I.turned (t':=s.toks) (fun b o j e=>V b o j e) J G F D C⟩
 self:=fun _ _ _ _ _ st h=>wpAny_pyIter_tupleiter st h
theorem JK(a:Addr)(lo:Int)(n:Nat):IU P w K tg (Lo lo n) [a] a (fun i h=>IsRangeIter h a (lo+(i:Nat)*1) ((n:Int)-(i:Nat)) 1) where
 mem:=by simp
 obj:=fun i h st b c=>by have e:b=a:=(by simpa using c);subst e;exact⟨_,st,fun v z=>by have x:Data.fields _=Data.cell v:=z;cases x⟩
 keep:=fun i h f st k=>k a (by simp) _ st
 item:=by intro X j hw l hc i U s Z H E I hf st g;subst j hw l;obtain⟨u,r,C,q,p,m⟩:=hf a (by simp);have W:=Walks.range (prog:=X.prog) (w:=X.w) (I.ok.hd hc) a lo 1 n;refine W.item i s _ _ g st fun v f tk A d y=>?_;obtain⟨t,rfl⟩:=A;have F:Inv X U Z H {s with heap:=f,toks:=tk}:=I.turned (fun b o c e=>y b o (by simpa using c) e) u r q p m;refine⟨_,rfl,HL (s:={s with heap:=f,toks:=tk}) (n:="range_iterator") d rfl rfl (by decide) ⟨.int (lo+i),H,F,⟨t,?_⟩,⟨rfl,rfl⟩,d,fun b c=>(hf b c).1⟩⟩;rw[Int.mul_one]
 done:=by intro X j hw l hc i U s Z H E I hf st g;subst j hw l;obtain⟨u,r,C,q,p,m⟩:=hf a (by simp);exact wpAny_pyNext_range_end (I.ok.hd hc) st (by have:n<=i:=g;lia) fun f D=>⟨rfl,I.turned (t':=s.toks) (fun b o c e=>D b o c e) u r q p m⟩
 self:=fun _ _ _ _ _ st h=>wpAny_pyIter_rangeiter st h
variable{lo hi:Int}{fp:List Addr}{iter:Expr}
theorem FV{R:It->Hp->Prop}{t u v:Tok}{tk:Nat}(I:Inv X U Z H s)(h:-(2 ^ 62)<=lo)(g:lo<2 ^ 62)(f:-(2 ^ 62)<=hi)(d:hi<2 ^ 62)(q:R (Lo lo (hi-lo).toNat) H):wpAny (model X.prog X.w) X.A (pyIter (.ref s.heap.objs.size)) (Yz X U Z tg R) E {s with heap:=s.heap.push {cls:=.type "range",data:=.fields #[.int lo t,.int hi u,.int 1 v]},toks:=tk}:=by
 refine wpAny_pyIter_range (IsRange.new ..) (small_one h g f d) ?_;have a:Inv X U Z H {s with heap:=s.heap.push {cls:=.type "range",data:=.fields #[.int lo t,.int hi u,.int 1 v]},toks:=tk}:=I.kept fun b o e=>Z3 _ e;refine⟨(s.heap.push {cls:=.type "range",data:=.fields #[.int lo t,.int hi u,.int 1 v]}).objs.size,[(s.heap.push {cls:=.type "range",data:=.fields #[.int lo t,.int hi u,.int 1 v]}).objs.size],_,_,H,rfl,
  a.kept (t':=tk) fun b o e=>Z3 _ e,JK _ lo (hi-lo).toNat,?_,fun b c=>?_,q⟩
 ·have e1:lo+((0:Nat):Int)*1=lo:=(by simp);have e2:(((hi-lo).toNat:Nat):Int)-((0:Nat):Int)=Builtin.Range.rangeSize lo hi 1:=(by rw[rangeSize_one];split<;>lia);show IsRangeIter _ _ (lo+((0:Nat):Int)*1) ((((hi-lo).toNat:Nat):Int)-((0:Nat):Int)) 1;rw[e1,e2];exact X9 _ rfl
 ·have e:b=(s.heap.push {cls:=.type "range",data:=.fields #[.int lo t,.int hi u,.int 1 v]}).objs.size:=(by simpa using c);subst e;exact a.fpOk (Z5 _) (a.hok.fresh (Z5 _))
def Qk(ta:TA):TI:=fun Z H R=>ta Z H fun vs H1=>∃j:Int,vs=[.int j]/\-(2 ^ 62)<=j/\j<2 ^ 62/\R (Lo 0 j.toNat) H1
def Qj(ta:TA):TI:=fun Z H R=>ta Z H fun vs H1=>∃i j:Int,vs=[.int i,.int j]/\(-(2 ^ 62)<=i/\i<2 ^ 62/\-(2 ^ 62)<=j/\j<2 ^ 62)/\R (Lo i (j-i).toNat) H1
theorem PY{a:Expr}{c:TA}{p:Pos}(k:Gl X "range")(i:X.mg "range" = none)(l:PA X [a] c)(g:starEach [a] X.env=[(false,eval a X.env)]:=by rfl):PI X tg (.Call (.Name "range" p) [a] [] pos) (Qk c):=by
 intro U s Z H R I h;refine Call_ (jX I k i boot_range (P5 (eL (l pos U s Z H _ I h) fun m n ⟨vs,H1,I1,r1,b⟩=>?_) g rfl));obtain⟨j,e,b,f,q⟩:=b;subst e;cases r1 with
 |cons r d=>cases d;obtain⟨t,rfl⟩:=r;exact call_range_1 (FV I1 (by lia) (by lia) b f (by simpa using q))
theorem PX{a b:Expr}{g:TA}{p:Pos}(v:Gl X "range")(u:X.mg "range" = none)(w:PA X [a,b] g)(o:starEach [a,b] X.env=[(false,eval a X.env),(false,eval b X.env)]:=by rfl)(c:starEach [b] X.env=[(false,eval b X.env)]:=by rfl) :
  PI X tg (.Call (.Name "range" p) [a,b] [] pos) (Qj g):=by
 intro U s Z H R I h;refine Call_ (jX I v u boot_range (P5 (eL (w pos U s Z H _ I h) fun x z ⟨vs,H1,I1,r1,f⟩=>?_) (by rw[o,c]) (by rw[c];rfl)));obtain⟨i,j,e,⟨f,n,m,l⟩,q⟩:=f;subst e;cases r1 with
 |cons r d=>
  cases d with
  |cons k d=>cases d;obtain⟨t,rfl⟩:=r;obtain⟨y,rfl⟩:=k;exact call_range_2 (FV I1 f n m l q)
def Nu(wi:TI)(g:TG)(tb:TS):TS:=fun D Z H=>wi Z H fun J H1=>∃W:Nat->Nat->St->Hp->Prop,(∃m,W 0 m Z H1)/\∀i m Z H,W i m Z H->
 (J.stop i H/\D.nx Z H)\/(J.go i H/\∃N:St->Hp->Prop,(∀σ' H',N σ' H'->∃m',m'<m/\W (i+1) m' σ' H')/\∀x H',J.yld i H x H'->g x Z H' fun σ2 H2=>tb {D with nx:=N,ct:=N,bk:=D.nx} σ2 H2)
def xG(fp:List Addr)(h:Heap):List (Addr×Obj):=fp.filterMap fun b=>(h.get? b).map fun o=>(b,o)
theorem oE{o:Obj}(a:b∈fp)(e:h.get? b=some o):(b,o)∈xG fp h:=List.mem_filterMap.mpr ⟨b,a,by rw[e];rfl⟩
theorem QC{p:Addr×Obj}(a:p∈xG fp h):p.1∈fp/\h.get? p.1=some p.2:=by
 obtain⟨b,c,e⟩:=List.mem_filterMap.mp a;cases q:h.get? b with
 |none=>rw[q]at e;cases e
 |some o=>rw[q]at e;have d:(b,o)=p:=Z2 e;subst d;exact⟨c,q⟩
theorem Inv.pinned(I:Inv X U Z H s)(hf:∀b∈fp,qH X U H b)(g:∀b∈fp,∃o,s.heap.get? b=some o/\∀v,o.data≠.cell v):Inv X (U++xG fp s.heap) Z H s:=
 I.pins_of fun p f=>(List.mem_append.mp f).elim (fun z=>I.pin p (T6 _ z)) fun z=>by obtain⟨a,e⟩:=QC z;obtain⟨j,i,h,_⟩:=hf p.1 a;obtain⟨o,c,d⟩:=g p.1 a;rw[e]at c;cases c;exact⟨e,j,i,h,d⟩
theorem Inv.unpinned{pl:List (Addr×Obj)}(I:Inv X (U++pl) Z H s):Inv X U Z H s:=I.pins_of fun p a=>I.pin p (T6 _ (S0 _ a))
theorem UV{G:TI}{g:TG}{tb:TS}(z:PassesOwn (model X.prog X.w) X.A X.env X.xe)(hc:X.calm=true)(hi:PI X tg iter G)(hg:PG X tg g)(c:LY X body tb)(hs:∀x,foldedSetIterable iter X.env x=pure x:=by intro _;rfl):PS X (.For tg iter body [] pos) (Nu G g tb):=by
 intro U s Z H D I h;refine wpAny_For (eL (hi U s Z H _ I h) fun v s1 h1=>eL h1 fun a0 s2 h2=>?_) hs;obtain⟨it,A,K,J,H2,e,I2,T,C,Q,W,⟨m0,V⟩,t⟩:=h2;subst e;have a:∀{p:Hp},(∀b∈A,p b=none)->∀b∈A,qH X U p b:=fun hn b c=>⟨hn b c,(Q b c).2⟩;refine codeAny_forLoop_any (fun n P=>∃i σ' p,Inv X U σ' p P/\K i P.heap/\(∀b∈A,p b=none)/\W i n σ' p) ?_ m0 ⟨0,Z,H2,I2,C,fun b c=>(Q b c).1,V⟩;rintro n M ⟨i,σ3,H3,I3,st3,fr3,w3⟩;rcases t i n σ3 H3 w3 with⟨stop,qn⟩|⟨go,N,hN,w⟩
 ·refine O9 z (eL (T.done X rfl rfl rfl hc i U M σ3 H3 X.xe I3 (a fr3) st3 stop) fun r s4 ⟨hr,I4⟩=>?_);subst hr;exact G5 ⟨σ3,H3,I4,qn⟩
 ·refine O9 z (eL (T.item X rfl rfl rfl hc i U M σ3 H3 X.xe I3 (a fr3) st3 go) fun r s4 ⟨u,hr,h4⟩=>?_);subst hr;refine O9 z (eL h4 fun _ L ⟨x,H5,I5,r5,y5,st5,fr5⟩=>?_);have F:=I5.pinned (a fr5) (T.obj _ _ st5);refine O9 z (eL (hg _ L σ3 H5 x u _ F r5 (w x H5 y5)) fun _ s6 ⟨σ6,H6,I6,q6⟩=>?_);refine O9 z (eL (c _ s6 σ6 H6 _ I6 q6) fun f E q=>?_);have j:∀{σ7:St} {l:Hp},Inv X (U++xG A L.heap) σ7 l E->N σ7 l->∃m,m<n/\∃i σ' p,Inv X U σ' p E/\K i E.heap/\(∀b∈A,p b=none)/\W i m σ' p:=fun{σ7 l} k y=>by
   obtain⟨m',hm,S⟩:=hN σ7 l y;refine⟨m',hm,i+1,σ7,l,k.unpinned,T.keep _ _ _ st5 fun b c o e=>(k.pin (b,o) (T6 _ (T6 _ (oE c e)))).1,fun b c=>?_,S⟩;obtain⟨o,e,d⟩:=T.obj _ _ st5 b c;exact(k.pin (b,o) (T6 _ (T6 _ (oE c e)))).2.1
  cases f with
  |next=>obtain⟨σ7,l,k,y⟩:=q;exact j k y|cont=>obtain⟨σ7,l,k,y⟩:=q;exact j k y|brk=>obtain⟨σ7,l,k,q⟩:=q;exact⟨σ7,l,k.unpinned,q⟩|ret v=>obtain⟨R,σ7,l,k,r7,q⟩:=q;exact⟨R,σ7,l,k.unpinned,r7,q⟩
abbrev R2:=V->V->Hp->VK->Prop
def mQ(X:Cx)(f:Value->Value->Sem Value)(r:R2):Prop:=
 ∀(U:List (Addr×Obj)) (s:Shared) (Z:St) (H:Hp) (x y:V) (v u:Value) (Q:VK),Inv X U Z H s->RelV x v->RelV y u->r x y H Q->
  wpAny (model X.prog X.w) X.A (f v u) (EP X U Z Q) X.xe s
def Ux(X:Cx)(f:Value->Sem Value)(r:V->Hp->VK->Prop):Prop:=
 ∀(U:List (Addr×Obj)) (s:Shared) (Z:St) (H:Hp) (x:V) (v:Value) (Q:VK),Inv X U Z H s->RelV x v->r x H Q->
  wpAny (model X.prog X.w) X.A (f v) (EP X U Z Q) X.xe s
def iB(X:Cx)(f:Value)(r:List V->Hp->VK->Prop):Prop:=
 ∀(U:List (Addr×Obj)) (s:Shared) (Z:St) (H:Hp) (xs:List V) (us:List Value) (Q:VK),Inv X U Z H s->bD xs us->r xs H Q->
  wpAny (model X.prog X.w) X.A (call f us) (EP X U Z Q) X.xe s
def Fw(r:R2)(ta tb:TE):TE:=fun Z H Q=>ta Z H fun x H1=>tb Z H1 fun y H2=>r x y H2 Q
def tUn(r:V->Hp->VK->Prop)(ta:TE):TE:=fun Z H Q=>ta Z H fun x H1=>r x H1 Q
def rI(C:Int->Int->Prop)(g:Int->Int->V):R2:=fun x y H Q=>∃i j,x=.int i/\y=.int j/\C i j/\Q (g i j) H
def UN(g:Int->Int->V):R2:=fun x y H Q=>∃i j,x=.int i/\y=.int j/\Q (g i j) H
def rU(g:Int->V):V->Hp->VK->Prop:=fun x H Q=>∃i,x=.int i/\Q (g i) H
variable{r:R2}
section
variable{a b:Expr}{tc:TE}
theorem Lc(j:PE X a ta)(i:PE X b tb){R:V->V->Hp->Prop}(I:Inv X U Z H s)(h:ta Z H fun x H1=>tb Z H1 fun y H2=>R x y H2){f:Value->Value->Sem Value}(hf:∀v u c x y H2,Inv X U Z H2 c->RelV x v->RelV y u->R x y H2->wpAny (model X.prog X.w) X.A (f v u) Q X.xe c) :
  wpAny (model X.prog X.w) X.A (eval a X.env) (fun v e=>wpAny (model X.prog X.w) X.A (eval b X.env) (fun u d=>wpAny (model X.prog X.w) X.A (f v u) Q X.xe d) X.xe e) X.xe s:=by
 refine eL (j U s Z H _ I h) fun v g ⟨x,H1,I1,r1,q1⟩=>?_;refine eL (i U g Z H1 _ I1 q1) fun u c ⟨y,H2,I2,r2,q2⟩=>?_;exact hf v u c x y H2 I2 r1 r2 q2
theorem Gk{c:Operator}(g:mQ X (binaryOp c) r)(j:PE X a ta)(i:PE X b tb):PE X (.BinOp a c b pos) (Fw r ta tb):=by intro U s Z H Q I h;exact wpAny_BinOp (Lc j i I h fun v u d x y l k f e q=>g U d Z l x y v u Q k f e q)
theorem Pk{b:UnaryOp}{r:V->Hp->VK->Prop}(d:Ux X (unaryOp b) r)(e:PE X a ta):PE X (.UnaryOp b a pos) (tUn r ta):=by intro U s Z H Q I h;exact UnaryOp_ (eL (e U s Z H _ I h) fun v c ⟨x,H1,I1,r1,q1⟩=>d U c Z H1 x v Q I1 r1 q1)
theorem Ws{f:Value->Value->Sem Value}{C:Int->Int->Prop}{g:Int->Int->Int}
  (a:∀(i j:Int) (t u:Tok) (s:Shared) (Q:Value->Shared->Prop) (E:Value->Shared->Prop),C i j->Q (.int (g i j) s.toks) {s with toks:=s.toks+1}->wpAny (model X.prog X.w) X.A (f (.int i t) (.int j u)) Q E s) :
  mQ X f (rI C fun i j=>.int (g i j)):=by
 intro U s Z H x y v u Q I d c h;obtain⟨i,j,rfl,rfl,hc,q⟩:=h;obtain⟨t,rfl⟩:=d;obtain⟨b,rfl⟩:=c;exact a i j t b s _ _ hc ⟨.int (g i j),H,I.tok _,⟨_,rfl⟩,q⟩
theorem Px{f:Value->Value->Sem Value}{g:Int->Int->Int}
  (a:∀(i j:Int) (t u:Tok) (s:Shared) (Q:Value->Shared->Prop) (E:Value->Shared->Prop),Q (.int (g i j) s.toks) {s with toks:=s.toks+1}->wpAny (model X.prog X.w) X.A (f (.int i t) (.int j u)) Q E s) :
  mQ X f (UN fun i j=>.int (g i j)):=by
 intro U s Z H x y v u Q I d c h;obtain⟨i,j,rfl,rfl,q⟩:=h;obtain⟨t,rfl⟩:=d;obtain⟨b,rfl⟩:=c;exact a i j t b s _ _ ⟨.int (g i j),H,I.tok _,⟨_,rfl⟩,q⟩
theorem Cd{f:Value->Value->Sem Value}{g:Int->Int->Bool}
  (a:∀(i j:Int) (t u:Tok) (s:Shared) (Q:Value->Shared->Prop) (E:Value->Shared->Prop),Q (.bool (g i j)) s->wpAny (model X.prog X.w) X.A (f (.int i t) (.int j u)) Q E s) :
  mQ X f (UN fun i j=>.bl (g i j)):=by
 intro U s Z H x y v u Q I d c h;obtain⟨i,j,rfl,rfl,q⟩:=h;obtain⟨t,rfl⟩:=d;obtain⟨b,rfl⟩:=c;exact a i j t b s _ _ ⟨.bl (g i j),H,I,rfl,q⟩
def Sw(i j:Int):Prop:=0<j/\j<1073741824
def ZO(i j:Int):Prop:=(-(2 ^ 64)<i/\i<2 ^ 64)\/(-(2 ^ 64)<j/\j<2 ^ 64)
theorem ZO.ok{i j:Int}(h:ZO i j):IntMulOk i j:=by
 rcases h with⟨b,a⟩|⟨b,a⟩
 ·exact .of_left (intBits_le_64 b a)
 ·exact .of_right (intBits_le_64 b a)
theorem Jf:mQ X (binaryOp .Add) (UN fun i j=>.int (i+j)):=Px fun _ _ _ _ _ _ _ q=>add_int q
theorem Jb:mQ X (binaryOp .Sub) (UN fun i j=>.int (i-j)):=Px fun _ _ _ _ _ _ _ q=>sub_int q
theorem Jc:mQ X (binaryOp .Mult) (rI ZO fun i j=>.int (i*j)):=Ws fun _ _ _ _ _ _ _ hc q=>mul_int q hc.ok
theorem By:mQ X (binaryOp .FloorDiv) (rI Sw fun i j=>.int (i / j)):=Ws fun i j _ _ _ _ _ hc q=>by have b:(0:Int)<j:=hc.1;have a:j<1073741824:=hc.2;exact floordiv_int (by lia) (by rw[Int.fdiv_eq_ediv_of_nonneg i (by lia)];exact q) (.inl (zk (by lia)))
theorem Jd:mQ X (binaryOp .Mod) (rI (fun _ j=>0<j) fun i j=>.int (i%j)):=Ws fun i j _ _ _ _ _ hc q=>by have a:(0:Int)<j:=hc;exact mod_int' (by lia) (by rw[Int.fmod_eq_emod_of_nonneg i (by lia)];exact q)
theorem unI{f:Value->Sem Value}{g:Int->Int}
  (a:∀(i:Int) (t:Tok) (s:Shared) (Q:Value->Shared->Prop) (E:Value->Shared->Prop),Q (.int (g i) s.toks) {s with toks:=s.toks+1}->wpAny (model X.prog X.w) X.A (f (.int i t)) Q E s) :
  Ux X f (rU fun i=>.int (g i)):=by
 intro U s Z H x v Q I b h;obtain⟨i,rfl,q⟩:=h;obtain⟨t,rfl⟩:=b;exact a i t s _ _ ⟨.int (g i),H,I.tok _,⟨_,rfl⟩,q⟩
theorem Hh:Ux X (unaryOp .USub) (rU fun i=>.int (-i)):=unI fun _ _ _ _ _ q=>neg_int q
end
variable{r':R2}
section
variable{a b:Expr}{tc:TE}
theorem XF{Q:VK}{k a:Bool}(I:Inv X U Z H s)(q:Q (.bl k) H)(e:k=a):EP X U Z Q (.bool a) s:=by subst e;exact⟨.bl k,H,I,rfl,q⟩
theorem Pp:mQ X (compareOp .Lt) (UN fun i j=>.bl (decide (i<j))):=Cd fun _ _ _ _ _ _ _ q=>lt_int q
theorem VO:mQ X (compareOp .LtE) (UN fun i j=>.bl (decide (i<=j))):=Cd fun _ _ _ _ _ _ _ q=>le_int q
theorem Gq:mQ X (compareOp .Gt) (UN fun i j=>.bl (decide (j<i))):=Cd fun _ _ _ _ _ _ _ q=>gt_int q
theorem Pq:mQ X (compareOp .GtE) (UN fun i j=>.bl (decide (j<=i))):=Cd fun _ _ _ _ _ _ _ q=>ge_int q
theorem VP:mQ X (compareOp .Is) (fun x y H Q=>y=.non/\Q (.bl (decide (x=.non))) H):=by
 intro U s Z H x y v u Q I a b h;obtain⟨rfl,q⟩:=h;cases b;refine is_none_gen (XF I q ?_);cases x<;>first
  |(cases a;rfl)
  |(obtain⟨t,rfl⟩:=a;rfl)
theorem Bw:mQ X (compareOp .IsNot) (fun x y H Q=>y=.non/\Q (.bl (!decide (x=.non))) H):=by
 intro U s Z H x y v u Q I a b h;obtain⟨rfl,q⟩:=h;cases b;refine isnot_none_gen (XF I q ?_);cases x<;>first
  |(cases a;rfl)
  |(obtain⟨t,rfl⟩:=a;rfl)
theorem mQ.or{f:Value->Value->Sem Value}(h:mQ X f r)(c:mQ X f r'):mQ X f (fun x y H Q=>r x y H Q\/r' x y H Q):=by
 intro U s Z H x y v u Q I b a q;rcases q with q|q
 ·exact h U s Z H x y v u Q I b a q
 ·exact c U s Z H x y v u Q I b a q
theorem jW(b:Expr)(h:op≠.In:=by decide)(a:op≠.NotIn:=by decide):behindInMarks op b=false:=by have e1:(op==CmpOp.In)=false:=(by cases op<;>first|rfl|exact absurd rfl h);have e2:(op==CmpOp.NotIn)=false:=(by cases op<;>first|rfl|exact absurd rfl a);cases b<;>simp[behindInMarks,e1,e2]
theorem MX(f:mQ X (compareOp op) r)(j:PE X a ta)(i:PE X b tb)(g:behindInMarks op b=false):PE X (.Compare a [op] [b] pos) (Fw r ta tb):=by intro U s Z H Q I h;exact wpAny_Compare1 (Lc j i I h fun v u c x y l k e d q=>f U c Z l x y v u Q k e d q) g
def Np(t:TE):TT:=fun Z H Q=>t Z H fun x H'=>∃k,x=.bl k/\Q k H'
theorem CG(g:mQ X (compareOp op) r)(l:PE X a ta)(j:PE X b tb)(i:behindInMarks op b=false):PT X (.Compare a [op] [b] pos) (Np (Fw r ta tb)):=by intro U s Z H Q I h;refine wpAny_isTrue_Compare1 (eL (l U s Z H _ I h) fun v f ⟨x,H1,I1,r1,q1⟩=>eL (j U f Z H1 _ I1 q1) fun u d ⟨y,H2,I2,r2,q2⟩=>eL (g U d Z H2 x y v u _ I2 r1 r2 q2) fun c m ⟨z,H3,I3,r3,k,e,q3⟩=>?_) i;subst e;cases r3;exact Q4 ⟨H3,I3,q3⟩
def TU(r r':R2)(ta tb tc:TE):TE:=fun Z H Q=>ta Z H fun x H1=>tb Z H1 fun y H2=>r x y H2 fun z H3=>∃k,z=.bl k/\
 (if k=true then tc Z H3 fun w' H4=>r' y w' H4 Q else Q (.bl false) H3)
theorem VG{f:CmpOp}(o:mQ X (compareOp op) r)(g:mQ X (compareOp f) r')(t:PE X a ta)(q:PE X b tb)(hc:PE X c tc)(p:lastMarks [op,f] [b,c]=false:=by with_unfolding_all rfl):PE X (.Compare a [op,f] [b,c] pos) (TU r r' ta tb tc):=by
 intro U s Z H Q I h;refine Compare_chain (eL (t U s Z H _ I h) fun v n ⟨x,H1,I1,r1,q1⟩=>chain_link (eL (q U n Z H1 _ I1 q1) fun u m ⟨y,H2,I2,r2,q2⟩=>eL (o U m Z H2 x y v u _ I2 r1 r2 q2) fun d l ⟨z,H3,I3,r3,k,e,q3⟩=>?_)) p;subst e;cases r3;refine Q4 ?_;cases k with
 |false=>exact ite_ff ⟨.bl false,H3,I3,rfl,q3⟩|true=>exact ite_tt (chain_last (eL (hc U l Z H3 _ I3 q3) fun i j ⟨z',H4,I4,r4,q4⟩=>g U j Z H4 y z' u i Q I4 r2 r4 q4))
theorem oH:(sizeLine:Nat)<2 ^ 63:=by rw[W9];decide
theorem KJ:mQ X (binaryOp .Add) (fun x y H Q=>∃i j,x=.str i/\y=.str j/\i.length+j.length<=sizeLine/\Q (.str (i++j)) H):=by intro U s Z H x y v u Q I c b h;obtain⟨i,j,rfl,rfl,d,q⟩:=h;obtain⟨t,rfl⟩:=c;obtain⟨a,rfl⟩:=b;exact add_str (fun a tk=>⟨.str (i++j),H,I.tok _,⟨_,rfl⟩,q⟩) d
theorem vals1{x:V}(r:bD [x] us):∃u,us=[u]/\RelV x u:=by
 cases r with
 |cons b a=>cases a;exact⟨_,rfl,b⟩
theorem vals2{x:V}(r:bD [x,y] us):∃u a,us=[u,a]/\RelV x u/\RelV y a:=by
 cases r with
 |cons e d=>
  cases d with
  |cons c b=>cases b;exact⟨_,_,rfl,e,c⟩
theorem RS(hc:X.calm=true):iB X (.builtin "max") (fun xs H Q=>∃i j,xs=[.int i,.int j]/\Q (.int (if j>i then j else i)) H):=by
 intro U s Z H xs c Q I r h;obtain⟨i,j,rfl,q⟩:=h;obtain⟨u,b,rfl,⟨t,rfl⟩,⟨d,rfl⟩⟩:=vals2 r;refine max_two_ints (I.ok.hd hc) fun e tk k=>⟨_,H,I.kept k,?_,q⟩;by_cases a:j>i
 ·rw[Z8 a,Z8 a];exact⟨_,rfl⟩
 ·rw[Z6 a,Z6 a];exact⟨_,rfl⟩
theorem BF:iB X (.type "int") (fun xs H Q=>(∃i,xs=[.int i]/\Q (.int i) H)\/∃k,xs=[.bl k]/\Q (.int (if k then 1 else 0)) H):=by
 intro U s Z H xs b Q I r h;rcases h with⟨i,rfl,q⟩|⟨k,rfl,q⟩
 ·obtain⟨u,rfl,t,rfl⟩:=vals1 r;exact call_int_int ⟨.int i,H,I,⟨_,rfl⟩,q⟩
 ·obtain⟨u,rfl,a⟩:=vals1 r;cases a;exact call_int_bool ⟨.int (if k then 1 else 0),H,I.tok _,⟨_,rfl⟩,q⟩
end
structure Ll(h:Heap)(x dx C:Addr)(mA:Str->Option Value):Prop where
 obj:h.get? x=some (PySem.W.instObj C dx)
 ns:h.Ns1 dx mA
 ne:dx≠x
variable{dx:Addr}{mA:Str->Option Value}
theorem QG(n:h.Ns1 dx mA):∃d,h.get? dx=some d/\∀b,PySem.W.lookIn b d=some (mA b):=by
 obtain⟨o,f,m,i,hd,k,_,j⟩:=n;refine⟨o,i,fun b=>?_⟩;have e:=j b;unfold nsFind findBy at e;rw[<-Array.find?_toList]at e;unfold PySem.W.lookIn;rw[hd];dsimp only;split
 ·rename_i y q;rw[q]at e;exact V8 some e
 ·rename_i q;rw[q]at e;have a:f.toList.any (·.refKey)=false:=by
   rw[List.any_eq_false];intro y g;obtain⟨z,t,c⟩:=k y (Array.mem_toList_iff.mp g);simp[DictEntry.refKey,c]
  have l:¬f.toList.any (·.refKey)=true:=(by rw[a];exact W6);rw[Z6 l];exact V8 some e
variable{C:Addr}
theorem Ll.look{x:Addr}(I:Ll h x dx C mA):∃b,PySem.W.InstAt h x (PySem.W.instObj C dx) C (some b)/\∀a,PySem.W.lookIn a b=some (mA a):=
 let ⟨b,c,d⟩:=QG I.ns
 ⟨b,⟨I.obj,rfl,rfl,c⟩,d⟩
variable{prog:Program}{name:Str}
section
variable{x f:Addr}{v:Value}
end
theorem zA.some_of{o:Option Value}(r:zA (some v) o):∃u,o=some u/\RelV v u:=by
 cases o with
 |none=>exact(show False from r).elim|some u=>exact⟨u,rfl,r⟩
section
variable{fs fs':List (Str×V)}
theorem Df(hok:pG P w H h)(e:H a=some (.ins C dx fs)):∃mA,Ll h a dx C mA/\(∀f,zA (fs.lookup f) (mA f))/\PySem.Within mA (fs.map (·.1))/\fs.length<=1000/\H dx=some (.own a):=by obtain⟨d,z,ne,ob,mA,n,r,q⟩:=(show cD P w H h a (.ins C dx fs)from hok a _ e);exact⟨mA,⟨ob,n,ne⟩,r,q,z,d⟩
end
structure Zh(K:Z4)(C:Addr):Prop where
 pg:PySem.W.plainGet K C Str.empty=true
 hd:PySem.W.hasDictIn K C=true
 po:PySem.W.plainOver K C=true
 sa:PySem.W.findIn K (.ref C) "__setattr__" = some (some (.builtin "object.__setattr__"))
theorem Zh.get(c:Zh K C)(f:Str):PySem.W.plainGet K C f=true:=c.pg
section
variable{fs:List (Str×V)}{f:Str}
end
variable{value:Expr}{tpos:Pos}{tv:TE}
section
variable{o:Expr}{f:Str}
end
section
variable{c:Value}{b:Bool}
inductive qG (K:Z4) (H:Hp):V->Value->Prop where
 |non:qG K H .non (.type "NoneType")
 |bl (x:Bool):qG K H (.bl x) (.type "bool")
 |int (i:Int):qG K H (.int i) (.type "int")
 |str (x:Str):qG K H (.str x) (.type "str")
 |flt (x:UInt64):qG K H (.flt x) (.type "float")
 |lst {a:Addr} {xs:List V} (e:H a=some (.lst xs)):qG K H (.ref a) (.type "list")
 |frz {a:Addr} {o:Obj} {xs:List V} (e:H a=some (.frz o (.lst xs))):qG K H (.ref a) (.type "list")
 |tup {a:Addr} {xs:List V} (e:H a=some (.tup xs)):qG K H (.ref a) (.type "tuple")
 |dK {a:Addr} {kvs:List (fW×V)} (e:H a=some (.dK kvs)):qG K H (.ref a) (.type "dict")
 |dT {a:Addr} {kvs:List (List fW×V)} (e:H a=some (.dT kvs)):qG K H (.ref a) (.type "dict")
 |ins {a C dx:Addr} {fs:List (Str×V)} (e:H a=some (.ins C dx fs)) (cl:Zh K C) (ha:PySem.W.findIn K (.ref C) "__class__" = some (some (.builtin "object.__class__")))
   (hn:PySem.W.specialIn K (.builtin "object.__class__") "__get__" = some (some (.builtin "getset_descriptor.__get__"))) (htk:PySem.W.takesIn K (.builtin "object.__class__")=some true)
   (hm:PySem.W.mroIn K C (.type "object")=some true):qG K H (.ref a) (.ref C)
theorem mV{x:V}{t:Value}(I:Inv X U Z H s)(d:RelV x u)(ty:qG X.K H x t)(e:PySem.W.kitOne X.K t c=some b)(h:∀tk,Q (.bool b) {s with toks:=tk}) :
  wpAny (model X.prog X.w) A (call (.builtin "isinstance") [u,c]) Q E s:=by
 cases ty with
 |non=>cases (show u=Value.none from d);exact U4 PySem.W.kitx_none I.kIn True.intro e (fun z=>nomatch z) h|bl y=>cases (show u=Value.bool y from d);exact U4 PySem.W.kitx_bool I.kIn True.intro e (fun z=>nomatch z) h|int i=>obtain⟨t,q⟩:=(show ∃t,u=Value.int i t from d);cases q;exact U4 PySem.W.kitx_int I.kIn True.intro e (fun z=>nomatch z) h|str y=>obtain⟨t,q⟩:=(show ∃t,u=Value.str y t from d);cases q;exact U4 PySem.W.kitx_str I.kIn True.intro e (fun z=>nomatch z) h|flt y=>obtain⟨t,q⟩:=(show ∃t,u=Value.float y t from d);cases q;exact U4 PySem.W.kitx_float I.kIn True.intro e (fun z=>nomatch z) h
 |@lst a k f=>cases (show u=Value.ref a from d);obtain⟨_,_,n,_,g⟩:=(show cD X.prog X.w H s.heap a (.lst k)from I.hok a _ f);exact U4 C5 I.kIn ⟨_,g,rfl⟩ e (fun z=>nomatch z) h
 |@frz a ob k f=>cases (show u=Value.ref a from d);obtain⟨_,_,_,n,_,g⟩:=(show cD X.prog X.w H s.heap a (.frz ob (.lst k))from I.hok a _ f);exact U4 C5 I.kIn ⟨_,g,rfl⟩ e (fun z=>nomatch z) h
 |@tup a k f=>cases (show u=Value.ref a from d);obtain⟨_,_,_,p⟩:=(show cD X.prog X.w H s.heap a (.tup k)from I.hok a _ f);obtain⟨o,g,l,_⟩:=p;exact U4 PySem.W.kitx_tuple I.kIn ⟨o,g,l⟩ e (fun z=>nomatch z) h
 |@dK a j f=>cases (show u=Value.ref a from d);obtain⟨_,_,K,_,p⟩:=(show cD X.prog X.w H s.heap a (.dK j)from I.hok a _ f);obtain⟨o,D,F,g,l,_⟩:=p;exact U4 C4 I.kIn ⟨o,g,l.1⟩ e (fun z=>nomatch z) h
 |@dT a j f=>cases (show u=Value.ref a from d);obtain⟨_,_,k,_,o,D,F,g,l,_⟩:=(show cD X.prog X.w H s.heap a (.dT j)from I.hok a _ f);exact U4 C4 I.kIn ⟨o,g,l.1⟩ e (fun z=>nomatch z) h
 |@ins a C P N f cl w r m v=>cases (show u=Value.ref a from d);obtain⟨M,G,_⟩:=Df I.hok f;obtain⟨L,J,_⟩:=G.look;exact U4 (PySem.W.kitx_own (cl.get _) cl.hd w r m v) I.kIn J e (fun z=>nomatch z) h
end
structure hU(k:Nat)(A:Around):Prop where
 hd:A.handled=none
 dp:A.depth+3*k+5<recursionLimit
 un:A.units+16*k+200<cLine
theorem hU.mono{k:Nat}(r:hU k A)(h:j<=k):hU j A:=⟨r.hd,by have:=r.dp;lia,by have:=r.un;lia⟩
theorem hU.deeper{k:Nat}(r:hU (k+1) A)(env:Env):hU k (A.deeper env):=
 ⟨r.hd,by have:=r.dp;show A.depth+1+3*k+5<_;lia,by have:=r.un;show A.units+3+16*k+200<_;lia⟩
theorem hU.depth{k:Nat}(r:hU k A):A.depth<recursionLimit:=by have:=r.dp;lia
theorem hU.units{k:Nat}(r:hU k A):A.units+64<cLine:=by have:=r.un;lia
def TN:TA:=fun _ H Q=>Q [] H
def TR(ta:TE)(tr:TA):TA:=fun Z H Q=>ta Z H fun x H1=>tr Z H1 fun xs H2=>Q (x::xs) H2
section
variable{t:TA}
theorem eM:PA X [] TN:=fun _ _ _ _ H Q I h=>Calls.spliced_nil ⟨[],H,I,.nil,h⟩
theorem cH(d:PE X e te)(c:PA X es t)(b:starEach (e::es) X.env=(false,eval e X.env)::starEach es X.env:=by rfl):PA X (e::es) (TR te t):=by intro pos U s Z H Q I h;rw[b];show wpAny _ _ (spliced ((false,eval e X.env)::backTo pos (starEach es X.env))) _ _ s;refine Calls.spliced_cons (eL (d U s Z H _ I h) fun u a ⟨x,H1,I1,r1,q1⟩=>?_);exact eL (c pos U a Z H1 _ I1 q1) fun f g ⟨xs,H2,I2,r2,q2⟩=>⟨x::xs,H2,I2,.cons r1 r2,q2⟩
def Vh(t:TA):TE:=fun Z H Q=>t Z H fun xs H1=>xs.length<=sizeLine/\∀p,H1 p=none->Q (.ref p) (cL H1 p (.tup xs))
def Vm(t:TA):TE:=fun Z H Q=>t Z H fun xs H1=>xs.length<=sizeLine/\∀p,H1 p=none->Q (.ref p) (cL H1 p (.lst xs))
theorem VA{x1}(h:PA X es t):PE X (.Tuple es x1 pos) (Vh t):=by intro U s Z H Q I d;refine wpAny_Tuple_spliced (eL (h pos U s Z H _ I d) fun c a ⟨xs,H1,I1,r,z,q⟩=>⟨by rw[<-r.length];exact z,?_⟩);have hf:H1 a.heap.objs.size=none:=I1.hok.fresh (Z5 _);refine⟨.ref a.heap.objs.size,cL H1 a.heap.objs.size (.tup xs),I1.laid (t':=a.toks) (fun b u e=>Z3 _ e) (Z5 _) ?_,rfl,q _ hf⟩;exact⟨z,c,r,⟨_,X9 _ rfl,rfl,_,rfl,rfl⟩⟩
theorem VD(h:PA X es t):PE X (.List es pos) (Vm t):=by intro U s Z H Q I d;refine wpAny_List_spliced (eL (h pos U s Z H _ I d) fun c a ⟨xs,H1,I1,r,z,q⟩=>⟨by rw[<-r.length];exact z,?_⟩);have hf:H1 a.heap.objs.size=none:=I1.hok.fresh (Z5 _);refine⟨.ref a.heap.objs.size,cL H1 a.heap.objs.size (.lst xs),I1.laid (t':=a.toks) (fun b u e=>Z3 _ e) (Z5 _) ?_,rfl,q _ hf⟩;exact⟨z,c,0,r,X9 _ rfl⟩
end
abbrev Sp:=List V->Hp->VK->XK->Prop
abbrev ZN:=List Env->Hp->Shared->XK->Value->Shared->Prop
structure tV(P:Program)(w:World)(K:Z4)(mg:Str->Option Value)(base:Heap)(A:Around)(outer:List Env)(s:Shared)(H:Hp):Prop where
 frames:A.frames=some outer
 mod:Mod K mg base
 bs:∀b o,base.get? b=some o->s.heap.get? b=some o/\H b=none
 bsz:base.objs.size<=s.heap.objs.size
 funs:s.heap.FunFrames base outer
 frf:∀b∈sH outer,H b=none
 hok:pG P w H s.heap
 bare:AllBare s.gens
def CE(outer:List Env)(P:Program)(w:World)(H:Hp)(s:Shared)(Q:VK)(u:Value)(s':Shared):Prop:=
 ∃v H',s'.os=s.os/\AllBare s'.gens/\Un (sH outer) [] H H' s.heap s'.heap/\pG P w H' s'.heap/\RelV v u/\Q v H'
def CR(CX:ZN)(outer:List Env)(P:Program)(w:World)(H:Hp)(s:Shared)(Q:VK)(E:XK)(r:Result)(s':Shared):Prop:=
 match r with
 |.ok (.ret u)=>CE outer P w H s Q u s'|.ok _=>False|.error e=>CX outer H s E e s'
structure uZ(P:Program)(w:World)(K:Z4)(mg:Str->Option Value)(base:Heap)(CX:ZN)(k:Nat)(f:Addr)(fd:V1)(ps:List Str)(sp:Sp):Prop where
 len:∀vs H Q E,sp vs H Q E->vs.length=ps.length
 run:∀(A:Around) (outer:List Env) (s:Shared) (H:Hp) (args:Args) (us:List Value) (vs:List V) (Q:VK) (E:XK),hU k A->tV P w K mg base A outer s H->BindsTo s fd args (ps.zip us)->bD vs us->sp vs H Q E->
  codeAny (model P w) A (.call (.ref f) args) (CR CX outer P w H s Q E) s
variable{mg:Str->Option Value}{outer:List Env}
theorem tV.in1{base:Heap}(e:tV P w K mg base A outer s H) :
  tV P w K mg base A.in1 outer s H:=⟨e.frames,e.mod,e.bs,e.bsz,e.funs,e.frf,e.hok,e.bare⟩
theorem Inv.env0(I:Inv X U Z H s):tV X.prog X.w X.K X.mg X.base X.A X.stack s H:=
 ⟨I.ok.frames,I.ok.mod,I.bs,W2 I.ok.bsz I.sz,I.stack,I.stkFree,I.hok,I.bare⟩
theorem Inv.after{Q:VK}(I:Inv X U Z H s)(h:CE X.stack X.prog X.w H s Q u s'):EP X U Z Q u s':=by obtain⟨v,c,os,bare,un,hok,r,q⟩:=h;obtain⟨hh,g,d,t,a⟩:=s';obtain rfl:a=s.os:=os;exact⟨v,c,I.call (h':=hh) (g':=g) (d':=d) (t':=t) (ch:=[]) un hok bare (fun b z=>absurd z (by simp)),r,q⟩
def Ny(sp:Sp)(dvs:List V)(E:XK)(t:TA):TE:=fun Z H Q=>t Z H fun vs H1=>sp (vs++dvs) H1 Q E
def Binds(K:Z4)(fd:V1)(ps:List Str)(ds:List Value):Prop:=
 ∀(s:Shared) (us:List Value),K.In s.heap->(us++ds).length=ps.length->BindsTo s fd ⟨us,[]⟩ (ps.zip (us++ds))
variable{fd:V1}{ps:List Str}
theorem Binds.all(h:∀us:List Value,us.length=ps.length->bindArgs fd ⟨us,[]⟩=pure (ps.zip us)):Binds K fd ps []:=fun s us _ a=>by rw[Pv]at a ⊢;exact .of_eq (h us a)
def uY(CX:ZN)(X:Cx)(E:XK):Prop:=∀(U:List (Addr×Obj)) (Z:St) (H:Hp) (s:Shared) (e:Value) (s':Shared),Inv X U Z H s->CX X.stack H s E e s'->X.xe e s'
variable{CX:ZN}{sp:Sp}{apos:Pos}{vs:List V}
section
variable{k:Nat}{f:Addr}{dvs:List V}{ds:List Value}{E:XK}{m:Str}{p:Pos}{o:Expr}{t:TA}
theorem Hz{Q:VK}(F:uZ X.prog X.w X.K X.mg X.base CX k f fd ps sp)(g:hU k X.A)(j:Binds X.K fd ps ds)(hd:bD dvs ds)(d:uY CX X E)(I:Inv X U Z H s)(r:bD vs us)(h:sp (vs++dvs) H Q E):wpAny (model X.prog X.w) X.A (call (.ref f) us) (EP X U Z Q) X.xe s:=by
 have b:bD (vs++dvs) (us++ds):=r.append hd;have i:(us++ds).length=ps.length:=(by rw[<-b.length];exact F.len _ _ _ _ h);refine L7 (N0 (F.run X.A X.stack s H ⟨us,[]⟩ (us++ds) (vs++dvs) Q E g I.env0 (j s us I.kIn i) b h) fun r c a=>?_);cases r with
 |error e=>exact d U Z H s e c I a
 |ok l=>
  cases l with
  |ret u=>exact I.after a|next=>exact False.elim a|brk=>exact False.elim a|cont=>exact False.elim a
theorem Bt(F:uZ X.prog X.w X.K X.mg X.base CX k f fd ps sp)(d:hU k X.A)(j:Gl X x)(g:X.mg x=some (.ref f))(i:N3 X.K (.ref f)=true)(l:Binds X.K fd ps ds)(hd:bD dvs ds)(c:uY CX X E)
  (m:PA X (e::es) t) (b:(x==("__debug__" : Str))=false:=by decide) (he:starEach (e::es) X.env=(false,eval e X.env)::starEach es X.env:=by rfl) (a:(backTo pos (starEach es X.env)).any (·.1)=false:=by rfl) :
  PE X (.Call (.Name x p) (e::es) [] pos) (Ny sp dvs E t):=by
 intro U s Z H Q I h;refine M5 (wD I j g ?_ b);refine PySem.W.callWith_K (h₀:=X.base) I.ok.mod.kin i (eL (m pos U s Z H _ I h) fun n o ⟨vs,H1,I1,r,q⟩=>⟨I1.kIn,?_⟩) he a;exact Hz F d l hd c I1 r q
end
section
variable{k:Nat}{f:Addr}{ks:List Str}{E:XK}{m:Str}{p kpos:Pos}{o:Expr}{kws:List Keyword}{t tk:TA}{nm:Option Str}
variable{g:List Value->List Value->List Value}{gV:List V->List V->List V}
end
structure aY(N P:List Str)(sc:Scope):Prop where
 kind:sc.kind=.function
 co:sc.isCoroutine=false
 gen:sc.isGenerator=false
 nd:N.Nodup
 pre:N.take P.length=P
 par:∀x∈P,sc.names.lookup x=some .local\/sc.names.lookup x=some .cell
 nofree:∀y∈sc.names,y.2≠.free
variable{kindOf:Str->Option NameKind}
theorem BG:∀{binds:List (Str×Value)} {m:Str->Option Value},(∀v,(x,v)∉binds)->bindL kindOf binds m x=m x
 |[],_,_=>rfl
 |(n,v)::r,m,h=>by
  unfold bindL;rw[BG fun w hw=>h w (X5 _ hw)];split
  ·have:x≠n:=(by rintro rfl;exact h v X7);simp[this]
  ·rfl
theorem BJ:∀{binds:List (Str×Value)} {m:Str->Option Value},(∀v,(x,v)∉binds)->bindC kindOf binds m x=m x
 |[],_,_=>rfl
 |(n,v)::r,m,h=>by
  unfold bindC;rw[BJ fun w hw=>h w (X5 _ hw)];split
  ·rfl
  ·have:x≠n:=(by rintro rfl;exact h v X7);simp[this]
theorem BH{v:Value}:∀{P:List Str} {vs:List Value} {i:Nat} {m:Str->Option Value},P.Nodup->P[i]? = some x->vs[i]? = some v->kindOf x=some .local->
  bindL kindOf (P.zip vs) m x=some v
 |[],_,_,_,_,h,_,_=>by simp at h
 |_::_,[],_,_,_,_,h,_=>by simp at h
 |p::P,w::vs,0,m,nd,h1,h2,hk=>by simp at h1 h2;subst h1;subst h2;show bindL kindOf ((p,w)::P.zip vs) m p=_;unfold bindL;rw[BG fun v a=>(List.nodup_cons.mp nd).1 (J5 a).1,Z8 hk];simp
 |p::P,w::vs,i+1,m,nd,h1,h2,hk=>by show bindL kindOf ((p,w)::P.zip vs) m x=_;unfold bindL;exact BH (i:=i) (List.nodup_cons.mp nd).2 (by simpa using h1) (by simpa using h2) hk
theorem BK{v:Value}:∀{P:List Str} {vs:List Value} {i:Nat} {m:Str->Option Value},P.Nodup->P[i]? = some x->vs[i]? = some v->kindOf x≠some .local->
  bindC kindOf (P.zip vs) m x=some v
 |[],_,_,_,_,h,_,_=>by simp at h
 |_::_,[],_,_,_,_,h,_=>by simp at h
 |p::P,w::vs,0,m,nd,h1,h2,hk=>by simp at h1 h2;subst h1;subst h2;show bindC kindOf ((p,w)::P.zip vs) m p=_;unfold bindC;rw[BJ fun v a=>(List.nodup_cons.mp nd).1 (J5 a).1,Z6 hk];simp
 |p::P,w::vs,i+1,m,nd,h1,h2,hk=>by show bindC kindOf ((p,w)::P.zip vs) m x=_;unfold bindC;exact BK (i:=i) (List.nodup_cons.mp nd).2 (by simpa using h1) (by simpa using h2) hk
noncomputable def start(N:List Str)(vs:List V):St:=vs.map some++List.replicate (N.length-vs.length) none
noncomputable def nL(CX:ZN)(P:Program)(w:World)(K:Z4)(mg:Str->Option Value)(base:Heap)(N:List Str)(qual:Str)(scope:Scope)(f:Addr)(cd:Value)(A:Around)(outer:List Env)(s:Shared)(H:Hp)(E:XK):Cx where
 prog:=P
 w:=w
 K:=K
 mg:=mg
 base:=base
 A:=A.deeper (envOfC qual scope s.heap.objs.size f cd)
 N:=N
 s₀:=s
 H₀:=H
 env:=envOfC qual scope s.heap.objs.size f cd
 outer:=outer
 stack:=envOfC qual scope s.heap.objs.size f cd::outer
 ex:=[]
 calm:=true
 fn:=fun _=>true
 pn:=[]
 xe:=fun e s'=>wpAny (model P w) (A.deeper (envOfC qual scope s.heap.objs.size f cd)) (leaving (envOfC qual scope s.heap.objs.size f cd) e) (fun _ s''=>CX outer H s E e s'') (fun e' s''=>CX outer H s E e' s'') s'
theorem IH{a:Scope}(h:a.names.lookup x=some .cell):∃c,(cellsFrom n a.names []).lookup x=some c:=by have q:=D8 a.names n [] (.inl h);exact Option.isSome_iff_exists.mp q
variable{qual:Str}{scope:Scope}
theorem AW{base:Heap}{f:Addr}{t:Value}{C:Shared}{E:XK}(S:aY N ps scope)(hd:A.handled=none)(e0:tV P w K mg base A outer s H)(L:vs.length=ps.length)(r:bD vs us)(x:InCallC s s.heap.objs.size (bindL (envOfC qual scope s.heap.objs.size f t).kindOf (ps.zip us) fun _=>none) (cellsFrom (s.heap.objs.size+1) scope.names []) (bindC (envOfC qual scope s.heap.objs.size f t).kindOf (ps.zip us) fun _=>none) C) :
  Inv (nL CX P w K mg base N qual scope f t A outer s H E) [] (start N vs) H C:=by
 have I:ps.length<=N.length:=(by have:=V8 List.length S.pre;rw[R4]at this;lia);obtain⟨o,tk,rfl,F⟩:=x.done;have g:∀b:Addr,b∉(nL CX P w K mg base N qual scope f t A outer s H E).ex:=fun b z=>absurd (show b∈([]:List Addr)from z) (by simp);refine⟨⟨e0.mod,S.kind,rfl,rfl,Z5 _,fun y z c o d=>?_,fun y j=>?_,fun y c _ h=>?_,fun _=>hd,Around.frames_deeper e0.frames,.inr ⟨rfl,rfl⟩,fun b z=>absurd z (g b),e0.bs,e0.bsz,fun b _ _=>g b,fun b z=>absurd z (g b),e0.funs,e0.frf⟩,
  rfl,e0.bare,Un.kept F,⟨_,x.toInCall.ns,fun i y v o d M=>?_⟩,fun y c h=>⟨_,x.cell y c h⟩,e0.hok.fresh (Z5 _),fun y c h=>?_,fun p m=>absurd (show p∈([]:List (Addr×Obj))from m) (by simp),e0.hok.kept F,?_⟩
 ·exact name_of_addr x.apart (P3 o) (P3 d)
 ·have j:scope.names.lookup y=some .cell\/scope.names.lookup y=some .free:=j;rcases j with j|j
  ·exact IH j
  ·exact absurd rfl (S.nofree _ (P3 j))
 ·exact P7 (x.above y c (P3 h))
 ·have hi:i<vs.length:=by
   unfold start at d;by_cases hi:i<vs.length
   ·exact hi
   ·rw[R0 (by simpa using hi)]at d;rw[K7]at d;split at d<;>cases d
  have J:vs[i]? = some v:=by
   unfold start at d;rw[Re (by simpa using hi),W8]at d;cases e:vs[i]? with
   |none=>rw[e]at d;cases d|some a=>rw[e]at d;cases d;rfl
  obtain⟨u,D,G⟩:=r.get J;have m:ps[i]? = some y:=(by rw[<-S.pre,La (by lia)];exact o);have l:ps.Nodup:=(by rw[<-S.pre];exact S.nd.sublist (List.take_sublist _ _));refine⟨u,G,?_⟩;rcases S.par y (M7 m)with k|k
  ·exact .inl ⟨k,BH l m D k⟩
  ·obtain⟨c,e⟩:=IH (n:=s.heap.objs.size+1) k;refine .inr ⟨.inl k,c,e,?_⟩;have q:=x.cell y c e;rw[BK l m D (by show scope.names.lookup y≠_;rw[k];decide)]at q;exact q
 ·exact e0.hok.fresh (P7 (x.above y c (P3 h)))
 ·unfold start;show _=N.length;rw[W3,Y9,R7];lia
variable{params:Arguments}{pm cdv:Value}
theorem Gv{base:Heap}{k:Nat}{f:Addr}{G F i ct X:Value}{M W:Option Addr}{m:Array (Option Value)}(lk:K.lookup f=some ⟨X,W,.func (P8 name qual params body scope G F i pm M cdv ct),m⟩)(C:H0 K cdv qual=true)(S:aY N ps scope)(len:∀vs H Q E,sp vs H Q E->vs.length=ps.length) (c:∀(A:Around) (outer:List Env) (s:Shared) (H:Hp) (vs:List V) (Q:VK) (E:XK),hU k (A.deeper (envOfC qual scope s.heap.objs.size f cdv))->sp vs H Q E->
   ∃t,LY (nL CX P w K mg base N qual scope f cdv A outer s H E) body t/\t {nx:=fun _ H'=>Q .non H',rt:=Q} (start N vs) H) :
  uZ P w K mg base CX (k+1) f (P8 name qual params body scope G F i pm M cdv ct) ps sp:=by
 refine⟨len,fun A outer s H L T vs Q E z e0 hb r g=>?_⟩;have hl:=len _ _ _ _ g;have R:K.In s.heap:=e0.mod.kin.keeps fun b o e=>(e0.bs b o e).1;have p:s.heap.NoLimit:=e0.mod.nolimit.keeps fun b o e=>(e0.bs b o e).1;have a:∀y∈ps.zip T,scope.names.lookup y.1=some .local\/(scope.names.lookup y.1=some .cell/\((cellsFrom (s.heap.objs.size+1) scope.names []).lookup y.1).isSome=true):=fun⟨n,v⟩ hy=>by
  rcases S.par n (J5 hy).1 with q|q
  ·exact .inl q
  ·exact .inr ⟨q,D8 _ _ _ (.inl q)⟩
 refine codeAny_call_function z.depth (R _ _ lk) rfl S.co S.gen rfl (PySem.W.codeRec_of R C) (hb _ _ _ _ ?_);refine y7 S.kind a fun env he D x=>?_;subst he;refine⟨p.keeps x.toInCall.keep,codeAny_func ?_⟩;obtain⟨t,ht,hq⟩:=c A outer s H vs Q E (z.deeper _) g;have I:Inv (nL CX P w K mg base N qual scope f cdv A outer s H E) [] (start N vs) H D:=AW S z.hd e0 hl r x;refine W0 (ht [] D (start N vs) H _ I hq) (fun fl j d=>?_) fun e j d=>d;have h:∀{σ':St} {H':Hp} {v:V} {u:Value},Inv (nL CX P w K mg base N qual scope f cdv A outer s H E) [] σ' H' j->RelV v u->Q v H'->CE outer P w H s Q u j:=
  fun{σ' H' v u} J l q=>⟨v,H',J.os,J.bare,J.base,J.hok,l,q⟩
 cases fl with
 |ret u=>obtain⟨v,σ',H',J,l,q⟩:=d;exact h J l q
 |next=>obtain⟨σ',H',J,q⟩:=d;exact h (v:=V.non) (u:=Value.none) J rfl q
 |brk=>obtain⟨_,_,_,q⟩:=d;exact False.elim q
 |cont=>obtain⟨_,_,_,q⟩:=d;exact False.elim q
variable{id:String}
section
variable{p:Pos}{t:TA}{T:String}{r:List V->Hp->VK->Prop}
def Vq(r:List V->Hp->VK->Prop)(t:TA):TE:=fun Z H Q=>t Z H fun vs H1=>r vs H1 Q
theorem mS(hc:iB X (.builtin id) r)(j:Gl X x)(i:X.mg x=none)(f:bootBuiltins x=some (.builtin id))(k:PA X (e::es) t)(g:x≠ "__name__" :=by decide)(b:(x==("__debug__" : Str))=false:=by decide)
  (he:starEach (e::es) X.env=(false,eval e X.env)::starEach es X.env:=by rfl) (a:(backTo pos (starEach es X.env)).any (·.1)=false:=by rfl):PE X (.Call (.Name x p) (e::es) [] pos) (Vq r t):=by
 intro U s Z H Q I h;refine M5 (jX I j i f ?_ g b);exact PyProof.Rows.callWith_builtin1 (eL (k pos U s Z H _ I h) fun c d ⟨vs,H1,I1,r1,q1⟩=>hc U d Z H1 vs c Q I1 r1 q1) he a
theorem kP(hc:iB X (.type T) r)(j:Gl X x)(i:X.mg x=none)(f:bootBuiltins x=some (.type T))(k:PA X (e::es) t)(g:x≠ "__name__" :=by decide)(b:(x==("__debug__" : Str))=false:=by decide)
  (he:starEach (e::es) X.env=(false,eval e X.env)::starEach es X.env:=by rfl) (a:(backTo pos (starEach es X.env)).any (·.1)=false:=by rfl):PE X (.Call (.Name x p) (e::es) [] pos) (Vq r t):=by
 intro U s Z H Q I h;refine M5 (jX I j i f ?_ g b);exact P5 (eL (k pos U s Z H _ I h) fun c d ⟨vs,H1,I1,r1,q1⟩=>hc U d Z H1 vs c Q I1 r1 q1) he a
end
end L2
namespace HT
open PySem PyProof.Rows
section
open PySem.SeqAt
open PySem.AutoSeq1 (wpAny_loadPart')
open PySem.MeetsSeq PySem.MeetsSeq2 PySem.MeetsSeq3
end
variable{prog:Program}{w:World}{A:Around}{E Q:Value->Shared->Prop}{s:Shared}{b sl:Addr}{vl vu:Value}{n:Nat}
theorem Ek{t:Addr}{d a:List Value}(ht:IsTup s.heap t d.toArray)(r:IsTup s.heap b a.toArray)(o:d≠[])(v:a=[]->Q (.ref t) s)(u:a≠[]->Q (.ref s.heap.objs.size) {s with heap:=s.heap.push {cls:=.type "tuple",data:=.seq (d++a).toArray}})(k:d.length+a.length<=sizeLine):wpAny (model prog w) A (binaryOp .Add (.ref t) (.ref b)) Q E s:=by
 obtain⟨⟨cls,p,data,m⟩,j,hc,n,hd⟩:=id ht;obtain⟨⟨q,i,l,f⟩,c,h,n2,g⟩:=id r;simp only at hc hd h g;subst hc hd h g;have e:d.toArray++a.toArray=(d++a).toArray:=(by simp);by_cases hw:a=[]
 ·exact concat_meets ⟨_,j,rfl⟩ ⟨_,c,rfl⟩ A3 seq_tuple_add D7 E0 (E3 _ _)
   (tuple_addW1 t b d.toArray a.toArray n n2 p i m f (by simpa using o) (by simp[hw])) ⟨j,c,v hw⟩
 ·refine concat_meets ⟨_,j,rfl⟩ ⟨_,c,rfl⟩ A3 seq_tuple_add D7 E0 (E3 _ _)
   (tuple_addW2 t b d.toArray a.toArray n n2 p i m f (by simpa using o) (by simpa using hw) (by rw[Y7,Y7];exact k)) ⟨j,c,?_⟩
  rw[e];exact u hw
noncomputable def sIx(n d:Nat):Option Int->Nat
 |none=>d|some v=>if v<0 then(v+(n:Int)).toNat else min v.toNat n
theorem UI(n d:Nat)(hd:d<=n)(o:Option Int):sIx n d o<=n:=by
 cases o with
 |none=>exact hd
 |some v=>
  show(if v<0 then(v+(n:Int)).toNat else min v.toNat n)<=n;by_cases a:v<0
  ·rw[Z8 a];lia
  ·rw[Z6 a];exact Nat.min_le_right _ _
theorem OC(v:Int)(n d:Nat):(if v<0 then max (v+(n:Int)) 0 else min v (n:Int))=((sIx n d (some v):Nat):Int):=by
 show(if v<0 then max (v+(n:Int)) 0 else min v (n:Int))=(((if v<0 then(v+(n:Int)).toNat else min v.toNat n):Nat):Int);by_cases a:v<0
 ·simp only[Z8 a];lia
 ·simp only[Z6 a];lia
theorem LW(lo hi:Option Int)(n:Nat):Builtin.Slice.sliceAdjust lo hi 1 (n:Int)=(((sIx n 0 lo:Nat):Int),((sIx n n hi:Nat):Int)):=by
 have a:¬((1:Int)<0):=(by lia);unfold Builtin.Slice.sliceAdjust;simp only[a,Y5];refine L5 ?_ ?_
 ·cases lo with
  |none=>rfl|some v=>exact OC v n 0
 ·cases hi with
  |none=>rfl|some v=>exact OC v n n
theorem JZ(i j:Nat):Builtin.Slice.slicePlaces (i:Int) (j:Int) 1=j-i:=by unfold Builtin.Slice.slicePlaces;have a:(1:Int)>0:=(by lia);simp only[a,V0,Int.ediv_one];split<;>lia
theorem wY{v:Value}{o:Option Int}{Q:Option Int->Shared->Prop}(p:IsPart v o)(h:Q o s):wpAny (model prog w) A (Builtin.Slice.slicePartIndex v) Q E s:=by
 cases p with
 |none=>exact E8 h|int i t=>exact slicePart_int h
theorem mR{lo hi:Option Int}{Q:Int×Int×Nat->Shared->Prop}(d:s.heap.IsSliceOf sl vl vu .none)(pl:IsPart vl lo)(c:IsPart vu hi)(h:Q (((sIx n 0 lo:Nat):Int),1,sIx n n hi-sIx n 0 lo) s):wpAny (model prog w) A (Builtin.Slice.sliceApplied (.ref sl) (pure (n:Int))) Q E s:=by obtain⟨os,a,e,b⟩:=id d;unfold Builtin.Slice.sliceApplied Builtin.Slice.sliceFields;refine Z9 (Z9 (X0 a b (x:=vl) rfl (Z9 (X0 a b (x:=vu) rfl (Z9 (X0 a b (x:=.none) rfl (Z7 ?_)))))));refine Z9 (E8 ?_);show wpAny _ _ (if((1:Int)==0)=true then _ else _) _ _ s;rw[Z6 (by decide)];refine Z9 (wY pl (Z9 (wY c (Z9 (Z7 ?_)))));show wpAny _ _ (match Builtin.Slice.sliceAdjust lo hi 1 (n:Int)with|(lo,hi)=>pure (lo,(1:Int),Builtin.Slice.slicePlaces lo hi 1)) _ _ s;rw[LW lo hi n];show wpAny _ _ (pure (((sIx n 0 lo:Nat):Int),(1:Int),Builtin.Slice.slicePlaces ((sIx n 0 lo:Nat):Int) ((sIx n n hi:Nat):Int) 1)) _ _ s;rw[JZ];exact Z7 h
theorem UY(a:Array Value)(i k:Nat):((List.range k).filterMap fun(m:Nat)=>a[((i:Int)+(m:Int)*1).toNat]?).toArray=((a.toList.drop i).take k).toArray:=by have e:(fun(m:Nat)=>a[((i:Int)+(m:Int)*1).toNat]?)=fun m=>a[i+m]?:=(by funext m;have:((i:Int)+(m:Int)*1).toNat=i+m:=(by lia);rw[this]);rw[e];have:=pick_run a i k;rw[List.filterMap_map]at this;have e2:((fun x=>a[x]?)∘fun x=>i+x)=fun m=>a[i+m]?:=rfl;rw[e2]at this;rw[this]
theorem sZ{t:Addr}{a:Array Value}{lo hi:Option Int}(ht:IsTup s.heap t a)(g:s.heap.IsSliceOf sl vl vu .none)(pl:IsPart vl lo)(i:IsPart vu hi)(hw:¬(sIx a.size 0 lo=0/\sIx a.size a.size hi=a.size))(h:Q (.ref s.heap.objs.size) {s with heap:=s.heap.push {cls:=.type "tuple",data:=.seq ((a.toList.drop (sIx a.size 0 lo)).take (sIx a.size a.size hi-sIx a.size 0 lo)).toArray}})(j:a.size<=sizeLine):wpAny (model prog w) A (getItem (.ref t) (.ref sl)) Q E s:=by
 have b:sizeOk (.seq ((a.toList.drop (sIx a.size 0 lo)).take (sIx a.size a.size hi-sIx a.size 0 lo)).toArray):=(by show((a.toList.drop (sIx a.size 0 lo)).take (sIx a.size a.size hi-sIx a.size 0 lo)).toArray.size<=sizeLine;rw[Y7,R4,List.length_drop,X2];lia);have o:sIx a.size a.size hi<=a.size:=UI _ _ (Z5 _) hi;obtain⟨os,c,e,k⟩:=id g;have f:s.TypeIs (.ref sl) "slice" :=⟨os,c,e⟩;unfold getItem
 try with_reducible refine X1 ?_
 first|refine Z9 (Z7 ?_)|skip
 refine Z9 (wpAny_sequenceKey ht.typeIs (by decide) ?_);refine Z9 (T7 (name:=Str.ofString "__getitem__") ht.typeIs L3
  (W1 L3 ht.typeIs entry_tuple_getitem ?_ (args_tuple_getitem _ _)))
 show wpAny _ _ (Builtin.Tuple.tupleItemsOf (.ref t) >>= _) _ _ s;refine Z9 (tupleItemsOf_ ht ?_);refine Z9 (S6 f ?_);rw[Z8 (by decide)];refine Z9 (mR g pl i ?_);have d:¬((((sIx a.size 0 lo:Nat):Int)==0&&(1:Int)==1&&(sIx a.size a.size hi-sIx a.size 0 lo)==a.size)=true):=(by intro q;rw[X6,X6]at q;have n:((sIx a.size 0 lo:Nat):Int)=0:=eq_of_beq q.1.1;have l:sIx a.size a.size hi-sIx a.size 0 lo=a.size:=eq_of_beq q.2;exact hw ⟨by lia,by lia⟩);show wpAny _ _ (if(((sIx a.size 0 lo:Nat):Int)==0&&(1:Int)==1&&(sIx a.size a.size hi-sIx a.size 0 lo)==a.size)=true then _ else _) _ _ s;rw[Z6 d,UY]
 first
  |exact Z9 (m:=Builtin.Tuple.tupleExact _) (W5 (Z7 ⟨_,rfl,Z7 h⟩) b)
  |exact Z9 (m:=Builtin.Tuple.tupleExact _) (W5 (Z9 (Z7 (Z7 ⟨_,rfl,Z7 h⟩))) b)
  |exact Z9 (Z9 (m:=Builtin.Tuple.tupleExact _) (W5 (Z7 (Z7 ⟨_,rfl,Z7 h⟩)) b))
  |exact Z9 (Z9 (m:=Builtin.Tuple.tupleExact _) (W5 (Z7 ⟨_,rfl,Z7 h⟩) b))
end HT
namespace L2
open PySem PySem.Spec PyProof.Rows
abbrev TO:=St->Hp->(Option Int->Hp->Prop)->Prop
def PO(X:Cx)(e:Option Expr)(t:TO):Prop:=
 ∀(U:List (Addr×Obj)) (s:Shared) (Z:St) (H:Hp) (Q:Option Int->Hp->Prop),Inv X U Z H s->t Z H Q->
  wpAny (model X.prog X.w) X.A (evalPart e X.env) (fun u s'=>∃o H',Inv X U Z H' s'/\IsPart u o/\Q o H') X.xe s
def Ah:TO:=fun _ H Q=>Q none H
def Nq(t:TE):TO:=fun Z H Q=>t Z H fun x H1=>∃i,x=.int i/\Q (some i) H1
variable{X:Cx}{e:Expr}{te:TE}{pos p2:Pos}{xs:List V}{us:List Value}
section
variable{lo hi:Option Expr}{tl th:TO}
theorem Bl:PO X none Ah:=by intro U s Z H Q I h;rw[evalPart_none];exact Z7 ⟨none,H,I,.none,h⟩
theorem Bk(h:PE X e te):PO X (some e) (Nq te):=by intro U s Z H Q I hw;rw[evalPart_some];refine eL (h U s Z H _ I hw) fun u a ⟨x,H1,I1,r1,q1⟩=>?_;obtain⟨i,rfl,q⟩:=q1;obtain⟨t,rfl⟩:=r1;exact⟨some i,H1,I1,.int i t,q⟩
def Et(X:Cx)(r:V->Option Int->Option Int->Hp->VK->Prop):Prop:=
 ∀(U:List (Addr×Obj)) (s:Shared) (Z:St) (H:Hp) (x:V) (v vl vu:Value) (lo hi:Option Int) (sl:Addr) (Q:VK),Inv X U Z H s->RelV x v->s.heap.IsSliceOf sl vl vu .none->IsPart vl lo->IsPart vu hi->r x lo hi H Q->
  ∃T id,typeLookup (.type T) "__getitem__" = pure (some (.builtin id))/\s.TypeIs v T/\wpAny (model X.prog X.w) X.A (getItem v (.ref sl)) (EP X U Z Q) X.xe s
theorem Et.or{r e:V->Option Int->Option Int->Hp->VK->Prop}(h:Et X r)(i:Et X e):Et X (fun x lo hi H Q=>r x lo hi H Q\/e x lo hi H Q):=by
 intro U s Z H x v b a lo hi c Q I d g pl f q;rcases q with q|q
 ·exact h U s Z H x v b a lo hi c Q I d g pl f q
 ·exact i U s Z H x v b a lo hi c Q I d g pl f q
def tSl(r:V->Option Int->Option Int->Hp->VK->Prop)(te:TE)(tl th:TO):TE:=fun Z H Q=>te Z H fun x H1=>tl Z H1 fun l H2=>th Z H2 fun u H3=>r x l u H3 Q
theorem VC{r:V->Option Int->Option Int->Hp->VK->Prop}(i:Et X r)(he:PE X e te)(j:PO X lo tl)(g:PO X hi th):PE X (.Subscript e (.Slice lo hi none p2) pos) (tSl r te tl th):=by intro U s Z H Q I h;refine Subscript_ (eL (he U s Z H _ I h) fun v f ⟨x,H1,I1,r1,q1⟩=>?_);refine wpAny_Slice (eL (j U f Z H1 _ I1 q1) fun c d ⟨l,H2,I2,pl,q2⟩=>eL (g U d Z H2 _ I2 q2) fun vu a ⟨u,H3,I3,pu,q3⟩=>?_);rw[evalPart_none];refine Z7 ?_;have m:Inv X U Z H3 {a with heap:=a.heap.push {cls:=.type "slice",data:=.fields #[c,vu,.none]}}:=I3.kept (t':=a.toks) fun b ob q=>Z3 _ q;obtain⟨T,n,hT,ht,k⟩:=i U {a with heap:=a.heap.push {cls:=.type "slice",data:=.fields #[c,vu,.none]}} Z H3 x v c vu l u a.heap.objs.size Q m r1 (Heap.IsSliceOf.new ..) pl pu q3;show wpAny (model X.prog X.w) X.A (subscriptTail e (.Slice lo hi none p2) v (.ref a.heap.objs.size)) (EP X U Z Q) X.xe {a with heap:=a.heap.push {cls:=.type "slice",data:=.fields #[c,vu,.none]}};exact tail_any (ops:=[.ref a.heap.objs.size,v]) ht hT k (by with_unfolding_all rfl)
noncomputable def vV(xs:List V)(lo hi:Option Int):List V:=(xs.drop (HT.sIx xs.length 0 lo)).take (HT.sIx xs.length xs.length hi-HT.sIx xs.length 0 lo)
theorem vL(a:List V)(lo hi:Option Int):(vV a lo hi).length<=a.length:=by unfold vV;rw[R4,List.length_drop];lia
def Wk(K:Z4):V->Option Int->Option Int->Hp->VK->Prop:=fun x lo hi H Q=>∃a xs,x=.ref a/\cA K H a xs/\
 ¬(HT.sIx xs.length 0 lo=0/\HT.sIx xs.length xs.length hi=xs.length)/\∀p,H p=none->Q (.ref p) (cL H p (.tup (vV xs lo hi)))
theorem Hv:Et X (Wk X.K):=by
 intro U s Z H x v m l lo hi n Q I g k pl i h;obtain⟨a,d,rfl,j,hw,q⟩:=h;cases g;obtain⟨e,r,ht,f⟩:=I.tuple j;have c:e.toArray.size=d.length:=by rw[Y7];exact r.length.symm
 refine⟨"tuple",_,L3.lookup,ht.typeIs,?_⟩;refine HT.sZ ht k pl i (by rw[c];exact hw) ?_ (by rw[c];exact f);rw[c];refine⟨.ref s.heap.objs.size,_,I.laid (t':=s.toks) (o:=.tup (vV d lo hi)) (fun b ob q=>Z3 _ q) (Z5 _) ?_,rfl,q _ (I.hok.fresh (Z5 _))⟩;exact⟨W2 (vL d lo hi) f,_,(r.drop (HT.sIx d.length 0 lo)).take (HT.sIx d.length d.length hi-HT.sIx d.length 0 lo),jH.new _ _⟩
def Pe(K:Z4):R2:=fun x y H Q=>∃a b xs ys,x=.ref a/\y=.ref b/\cA K H a xs/\cA K H b ys/\xs≠[]/\xs.length+ys.length<=sizeLine/\
 (ys=[]->Q (.ref a) H)/\(ys≠[]->∀p,H p=none->Q (.ref p) (cL H p (.tup (xs++ys))))
theorem bD.nil_iff(r:bD xs us):us=[]↔xs=[]:=by
 cases r with
 |nil=>simp|cons _ _=>simp
theorem Bz:mQ X (binaryOp .Add) (Pe X.K):=by intro U s Z H x y v u Q I k j h;obtain⟨a,b,i,g,rfl,rfl,C,A,t,f,m,l⟩:=h;cases k;cases j;obtain⟨r,d,p,_⟩:=I.tuple C;obtain⟨e,c,n,_⟩:=I.tuple A;refine HT.Ek p n (fun z=>t (d.nil_iff.mp z)) (fun z=>⟨.ref a,H,I,rfl,m (c.nil_iff.mp z)⟩) (fun z=>?_) (by rw[<-d.length,<-c.length];exact f);refine⟨.ref s.heap.objs.size,_,I.laid (t':=s.toks) (o:=.tup (i++g)) (fun b ob q=>Z3 _ q) (Z5 _) ?_,rfl,l (fun w=>z (c.nil_iff.mpr w)) _ (I.hok.fresh (Z5 _))⟩;exact⟨by rw[W3];exact f,_,d.append c,jH.new _ _⟩
end
noncomputable def FE(n:Nat)(i:Int):Option Nat:=if 0<=i then(if i<n then some i.toNat else none)else if -(n:Int)<=i then some (i+n).toNat else none
noncomputable def atI{α:Type}(xs:List α)(i:Int):Option α:=(FE xs.length i).bind fun j=>xs[j]?
variable{n j:Nat}
theorem CZ{i:Int}(h:FE n i=some j):seqIndex? i n=some j/\j<n/\-(n:Int)<=i/\i<n:=by
 unfold FE at h;by_cases b:0<=i
 ·rw[Z8 b]at h;by_cases a:i<n
  ·rw[Z8 a]at h;have e:i.toNat=j:=Z2 h;exact⟨by rw[seqIndex_of b a,e],by lia,by lia,a⟩
  ·rw[Z6 a]at h;cases h
 ·rw[Z6 b]at h;by_cases a:-(n:Int)<=i
  ·rw[Z8 a]at h;have e:(i+n).toNat=j:=Z2 h;exact⟨by rw[seqIndex_neg (by lia) a,e],by lia,a,by lia⟩
  ·rw[Z6 a]at h;cases h
variable{α:Type}
theorem ER{a:List α}{i:Int}{v:α}(h:atI a i=some v):∃j,seqIndex? i a.length=some j/\a[j]? = some v/\j<a.length/\-(a.length:Int)<=i/\i<a.length:=by
 unfold atI at h;cases e:FE a.length i with
 |none=>rw[e]at h;cases h
 |some j=>rw[e]at h;obtain⟨f,d,c,b⟩:=CZ e;exact⟨j,f,h,d,c,b⟩
def OH(b:Expr):Prop:=∀o i,subscripted b false o i=operate [o,i] (getItem o i)
def Ff(X:Cx)(r:R2):Prop:=
 ∀(value slice:Expr) (U:List (Addr×Obj)) (s:Shared) (Z:St) (H:Hp) (x y:V) (v u:Value) (Q:VK),Inv X U Z H s->RelV x v->RelV y u->r x y H Q->
  subscripted slice false v u=operate [v,u] (getItem v u)->wpAny (model X.prog X.w) X.A (subscriptTail value slice v u) (EP X U Z Q) X.xe s
def A1(X:Cx)(id:String)(r:V->List V->Hp->VK->Prop):Prop:=
 ∀(U:List (Addr×Obj)) (s:Shared) (Z:St) (H:Hp) (x:V) (xs:List V) (v:Value) (us:List Value) (Q:VK),Inv X U Z H s->RelV x v->bD xs us->r x xs H Q->
  wpAny (model X.prog X.w) X.A (call (.builtin id) (v::us)) (EP X U Z Q) X.xe s
variable{ta tb:TE}{r r':R2}{U:List (Addr×Obj)}{Z:St}{H:Hp}{s:Shared}{ys:List V}{es:List Expr}{name:Str}{apos cpos:Pos}{id:String}
section
variable{a b:Expr}
theorem Ff.or(h:Ff X r)(f:Ff X r'):Ff X (fun x y H Q=>r x y H Q\/r' x y H Q):=by
 intro a b U s Z H x y v u Q I d c q e;rcases q with q|q
 ·exact h a b U s Z H x y v u Q I d c q e
 ·exact f a b U s Z H x y v u Q I d c q e
theorem Gm(g:Ff X r)(j:PE X a ta)(i:PE X b tb)(f:OH b):PE X (.Subscript a b pos) (Fw r ta tb):=by intro U s Z H Q I h;exact Subscript_ (Lc j i I h fun v u c x y l k e d q=>g a b U c Z l x y v u Q k e d q (f _ _))
def Pb(K:Z4):R2:=fun x y H Q=>∃p xs i v,x=.ref p/\y=.int i/\iA K H p xs/\atI xs i=some v/\Q v H
def Oz(K:Z4):R2:=fun x y H Q=>∃p xs i v,x=.ref p/\y=.int i/\cA K H p xs/\atI xs i=some v/\Q v H
def Pa:R2:=fun x y H Q=>∃z i c,x=.str z/\y=.int i/\z.length<=sizeLine/\atI z.cps.toList i=some c/\Q (.str ⟨#[c]⟩) H
theorem NK:Ff X (Pb X.K):=by
 intro c d U s Z H x y v u Q I A o h k;obtain⟨p,J,i,z,rfl,rfl,C,he,q⟩:=h;cases A;obtain⟨t,rfl⟩:=o;obtain⟨f,r,pl,K⟩:=I.list C;obtain⟨j,b,G,M,F,E⟩:=ER he;obtain⟨w,m,e⟩:=r.get G;have D:=r.length;have L:=oH;have a:EP X U Z Q w s:=⟨z,H,I,e,q⟩;by_cases l:0<=i
 ·have g:i.toNat=j:=by
   rw[seqIndex_of l E]at b;exact Z2 b
  exact item_listR pl.isList l (by lia) (by rw[g];simpa using m) a k
 ·have g:(i+(f.toArray.size:Int)).toNat=j:=by
   rw[seqIndex_neg (by lia) F]at b;rw[Y7,<-D];exact Z2 b
  exact subscriptTail_builtinR (x:=w) pl.isList.typeIs slot_list_getitem.lookup
   (wpAny_getItem_list_neg (Q:=fun r n=>r=w/\EP X U Z Q r n) pl.isList (by lia) (by rw[Y7]<;>lia) (by lia) (by rw[g];simpa using m) ⟨rfl,a⟩) k
theorem Jv:Ff X (Oz X.K):=by
 intro a b U s Z H x y v u Q I g f h l;obtain⟨p,D,i,z,rfl,rfl,m,he,q⟩:=h;cases g;obtain⟨t,rfl⟩:=f;obtain⟨k,r,pl,E⟩:=I.tuple m;obtain⟨j,A,o,K,J,G⟩:=ER he;obtain⟨w,C,c⟩:=r.get o;have n:=r.length;have F:=oH;have d:EP X U Z Q w s:=⟨z,H,I,c,q⟩;exact subscriptTail_builtinR (x:=w) pl.typeIs slot_tuple_getitem.lookup
  (getItem_tuple (j:=j) (Q:=fun r e=>r=w/\EP X U Z Q r e) pl (by lia) (by lia) (by rw[Y7,<-n];exact A) (by simpa using C) ⟨rfl,d⟩) l
theorem Jw:Ff X Pa:=by intro a b U s Z H x y v u Q I f e h g;obtain⟨z,i,c,rfl,rfl,p,he,q⟩:=h;obtain⟨t,rfl⟩:=f;obtain⟨o,rfl⟩:=e;obtain⟨j,d,n,w,m,l⟩:=ER he;have k:z.cps.toList.length=z.length:=(by simp[Str.length]);rw[k]at d m l;have r:=oH;exact tail_any (typeIs_str s z t) slot_str_getitem.lookup (getItem_str (c:=c) (by have e1:decide (i < -(2 ^ 63:Int))=false:=decide_eq_false (by lia);have e2:decide (i≥2 ^ 63)=false:=decide_eq_false (by lia);rw[e1,e2,Bool.or_false]) (by rw[d];simpa using n) ⟨.str ⟨#[c]⟩,H,I.tok _,⟨_,rfl⟩,q⟩) g
def Zr(K:Z4):R2:=fun x y H Q=>Pb K x y H Q\/Oz K x y H Q\/Pa x y H Q
theorem Jx:Ff X (Zr X.K):=NK.or (Jv.or Jw)
theorem KP(a:List Value)(n j:Nat)(u:Value):Obj.mapSeq (·.setIfInBounds j u) {cls:=.type "list",data:=.seq a.toArray n}={cls:=.type "list",data:=.seq (a.set j u).toArray n}:=by simp[Obj.mapSeq]
theorem Inv.lst{p:Addr}(I:Inv X U Z H s)(h:H p=some (.lst xs)) :
  ∃(its:List Value) (n:Nat),bD xs its/\s.heap.get? p=some {cls:=.type "list",data:=.seq its.toArray n}/\xs.length<=sizeLine:=by
 obtain⟨z,its,n,r,e⟩:=I.hok p _ h;exact⟨its,n,r,e,z⟩
theorem Inv.lstUpd{p:Addr}{c a:List Value}{d:Nat}{f:Obj->Obj}(I:Inv X U Z H s)(h:H p=some (.lst xs))(i:s.heap.get? p=some {cls:=.type "list",data:=.seq c.toArray n})(hf:f {cls:=.type "list",data:=.seq c.toArray n}={cls:=.type "list",data:=.seq a.toArray d})(r:bD ys a)(g:ys.length<=sizeLine)(t:Nat) :
  Inv X U Z (cL H p (.lst ys)) {s with heap:=s.heap.update p f,toks:=t}:=by
 have e:(s.heap.update p f).get? p=some {cls:=.type "list",data:=.seq a.toArray d}:=(by rw[U2 f i (by rw[hf]<;>rfl),hf]);refine I.write (x:=p) (e:=p) (by rw[h];trivial) (.inl rfl) (fun b u j q=>(S4 _ _ (Y8 j)).trans q) ⟨_,e⟩ ?_;exact⟨g,a,d,r,e⟩
def Ow:V->V->V->Hp->(Hp->Prop)->Prop:=fun o i v H Q=>∃p xs k j,o=.ref p/\i=.int k/\H p=some (.lst xs)/\FE xs.length k=some j/\Q (cL H p (.lst (xs.set j v)))
theorem UC:So X Ow:=by
 intro U s Z H o i v E F u Q I z A y h;obtain⟨p,x,k,j,rfl,rfl,f,D,q⟩:=h;cases z;obtain⟨t,rfl⟩:=A;obtain⟨a,n,r,c,C⟩:=I.lst f;obtain⟨b,J,l,g⟩:=CZ D;have d:=r.length;have G:=oH;have w:Inv X U Z (cL H p (.lst (x.set j v))) {s with heap:=s.heap.update p (Obj.mapSeq (·.setIfInBounds j u))}:=
  I.lstUpd f c (KP a n j u) (r.set y j) (by rw[SZ];exact C) s.toks
 by_cases m:0<=k
 ·have e:k.toNat=j:=by
   rw[seqIndex_of m g]at b;exact Z2 b
  exact PySem.W.ki_setAt c m (by lia) (by rw[Y7,<-d];exact g) (by rw[e];exact⟨_,w,q⟩)
 ·have e:(k+(a.toArray.size:Int)).toNat=j:=by
   rw[seqIndex_neg (by lia) l]at b;rw[Y7,<-d];exact Z2 b
  exact PySem.W.ki_setBack c (by lia) (by rw[Y7,<-d];exact l) (by lia) (by rw[e];exact⟨_,w,q⟩)
theorem CA(lo hi:Option Int)(n:Nat):(sliceBounds lo hi none n).1=((HT.sIx n 0 lo:Nat):Int)/\(sliceBounds lo hi none n).2.1=((HT.sIx n n hi:Nat):Int)/\(sliceBounds lo hi none n).2.2=1:=by
 refine⟨?_,?_,rfl⟩
 ·cases lo with
  |none=>simp[sliceBounds,HT.sIx]
  |some i=>
   simp only[sliceBounds,HT.sIx,Option.getD_none,show(1:Int)>0 by decide,V0];by_cases h:i<0
   ·simp only[h,V0]<;>lia
   ·simp only[h,Y5]<;>lia
 ·cases hi with
  |none=>simp[sliceBounds,HT.sIx]
  |some i=>
   simp only[sliceBounds,HT.sIx,Option.getD_none,show(1:Int)>0 by decide,V0];by_cases h:i<0
   ·simp only[h,V0]<;>lia
   ·simp only[h,Y5]<;>lia
theorem zS(a:List Value)(lo hi:Option Int):slicePick a.toArray lo hi none=((a.drop (HT.sIx a.length 0 lo)).take (HT.sIx a.length a.length hi-HT.sIx a.length 0 lo)).toArray:=by obtain⟨d,c,b⟩:=CA lo hi a.toArray.size;unfold slicePick;rw[d,c,b];simp only[sliceRange_one,pick_run,Y7]<;>rfl
def Wl(K:Z4):V->Option Int->Option Int->Hp->VK->Prop:=fun x lo hi H Q=>∃a xs,x=.ref a/\iA K H a xs/\∀p,H p=none->Q (.ref p) (cL H p (.lst (vV xs lo hi)))
theorem Aq:Et X (Wl X.K):=by intro U s Z H x v m l lo hi n Q I e k pl f h;obtain⟨a,c,rfl,j,q⟩:=h;cases e;obtain⟨g,r,ht,i⟩:=I.list j;have d:=r.length;refine⟨"list",_,slot_list_getitem.lookup,ht.isList.typeIs,?_⟩;refine wpAny_getItem_list_slice ht.isList k pl f .none (by simp) ?_ (by rw[Y7]<;>lia);rw[zS,<-d];refine⟨.ref s.heap.objs.size,_,I.laid (t':=s.toks) (o:=.lst (vV c lo hi)) (fun b ob q=>Z3 _ q) (Z5 _) ?_,rfl,q _ (I.hok.fresh (Z5 _))⟩;exact⟨W2 (vL c lo hi) i,_,0,(r.drop (HT.sIx c.length 0 lo)).take (HT.sIx c.length c.length hi-HT.sIx c.length 0 lo),X9 _ rfl⟩
theorem tQ:iB X (.builtin "len") (fun xs H Q=>∃p ys,xs=[.ref p]/\(iA X.K H p ys\/cA X.K H p ys)/\Q (.int ys.length) H):=by
 intro U s Z H xs g Q I r h;obtain⟨p,ys,rfl,b,q⟩:=h;obtain⟨u,rfl,e⟩:=vals1 r;cases e;have i:=oH;rcases b with b|b
 ·obtain⟨d,c,pl,f⟩:=I.list b;have a:=c.length;exact Calls.call_len_list pl.isList (by simp only[Y7]<;>lia) ⟨.int ys.length,H,I.tok _,⟨s.toks+1,by rw[Y7,a]⟩,q⟩
 ·obtain⟨d,c,pl,f⟩:=I.tuple b;have a:=c.length;exact len_tuple pl (by simp only[Y7]<;>lia) ⟨.int ys.length,H,I.tok _,⟨s.toks+1,by rw[Y7,a]⟩,q⟩
theorem EL:iB X (.builtin "len") (fun xs H Q=>∃z,xs=[.str z]/\z.length<=sizeLine/\Q (.int z.length) H):=by intro U s Z H xs a Q I r h;obtain⟨z,rfl,b,q⟩:=h;obtain⟨u,rfl,t,rfl⟩:=vals1 r;have c:=oH;exact len_str (by lia) ⟨.int z.length,H,I.tok _,⟨_,rfl⟩,q⟩
theorem iB.or{f:Value}{r c:List V->Hp->VK->Prop}(h:iB X f r)(d:iB X f c):iB X f (fun xs H Q=>r xs H Q\/c xs H Q):=by
 intro U s Z H xs a Q I b q;rcases q with q|q
 ·exact h U s Z H xs a Q I b q
 ·exact d U s Z H xs a Q I b q
theorem EK:iB X (.type "list") (fun xs H Q=>∃p ys,xs=[.ref p]/\(iA X.K H p ys\/cA X.K H p ys)/\∀l,H l=none->Q (.ref l) (cL H l (.lst ys))):=by
 intro U s Z H xs w Q I r h;obtain⟨p,ys,rfl,i,q⟩:=h;obtain⟨u,rfl,v⟩:=vals1 r;cases v;have k:∀(a:List Value),bD ys a->ys.length<=sizeLine->∀(c:Heap) (f:Nat),(∀b t,s.heap.get? b=some t->c.get? b=some t)->
   c.get? s.heap.objs.size=some {cls:=.type "list",dict:=none,data:=.seq a.toArray f,slots:=#[]}->EP X U Z Q (.ref s.heap.objs.size) {s with heap:=c}:=fun a d g c f kp e=>
  ⟨.ref s.heap.objs.size,_,I.laid (t':=s.toks) kp (Z5 _) (show cD X.prog X.w _ c _ (.lst ys)from⟨g,a,f,d,e⟩),rfl,q _ (I.hok.fresh (Z5 _))⟩
 rcases i with i|i
 ·obtain⟨a,d,pl,g⟩:=I.list i;have j:=d.length;obtain⟨o,m,hc,n,hd⟩:=pl.isList;exact call_list_seq p (.inl rfl) m hc hd (fun c f kp e=>k a d g c f kp e) (by simp only[Y7]<;>lia)
 ·obtain⟨a,d,pl,g⟩:=I.tuple i;have j:=d.length;obtain⟨o,m,hc,n,hd⟩:=pl;exact call_list_seq p (.inr rfl) m hc hd (fun c f kp e=>k a d g c f kp e) (by simp only[Y7]<;>lia)
theorem AB:iB X (.type "tuple") (fun xs H Q=>∃p ys,xs=[.ref p]/\((iA X.K H p ys/\∀l,H l=none->Q (.ref l) (cL H l (.tup ys)))\/(cA X.K H p ys/\Q (.ref p) H))):=by
 intro U s Z H xs n Q I r h;obtain⟨p,ys,rfl,h⟩:=h;obtain⟨u,rfl,k⟩:=vals1 r;cases k;rcases h with⟨f,q⟩|⟨f,q⟩
 ·obtain⟨a,d,pl,g⟩:=I.list f;have i:=d.length;refine call_tuple_list pl.isList (fun c kp=>?_) (by simp only[Y7]<;>lia);have j:Inv X U Z H {s with heap:=c}:=I.kept (t':=s.toks) kp;have m:Inv X U Z (cL H c.objs.size (.tup ys)) {s with heap:=c.push {cls:=.type "tuple",data:=.seq a.toArray}}:=
   j.laid (t':=s.toks) (fun b o e=>Z3 _ e) (Z5 _) (show cD X.prog X.w _ _ _ (.tup ys)from⟨g,a,d,jH.new _ _⟩)
  exact⟨.ref c.objs.size,_,m,rfl,q _ (j.hok.fresh (Z5 _))⟩
 ·obtain⟨a,d,pl,g⟩:=I.tuple f;exact call_tuple_same pl ⟨.ref p,H,I,rfl,q⟩
def Vf(K:Z4)(T:String)(x:V)(H:Hp):Prop:=match x with
 |.str _=>T = "str"|.int _=>T = "int"
 |.ref p=>(T = "list" /\∃xs,iA K H p xs)\/(T = "tuple" /\∃o,K.lookup p=some o/\o.cls=.type "tuple" /\o.dict=none)\/
   (T = "dict" /\((∃kvs,H p=some (.dK kvs))\/∃kvs,H p=some (.dT kvs)))\/(T = "set" /\∃S n,H p=some (.set S n))
 |_=>False
theorem TF{T:String}{x:V}{v:Value}(I:Inv X U Z H s)(r:RelV x v)(ty:Vf X.K T x H) :
  s.TypeIs v T/\∀a,v=.ref a->∃ob,s.heap.get? a=some ob/\ob.dict=none:=by
 cases x with
 |str z=>obtain⟨t,rfl⟩:=r;cases (show T = "str" from ty);exact⟨typeIs_str s z t,fun _ e=>nomatch e⟩
 |int i=>obtain⟨t,rfl⟩:=r;cases (show T = "int" from ty);exact⟨L6 s i t,fun _ e=>nomatch e⟩
 |ref p=>
  cases r;rcases ty with⟨rfl,h,g⟩|⟨rfl,o,b,hc,hd⟩|⟨rfl,b⟩|⟨rfl,S,n,b⟩
  ·obtain⟨f,_,pl,_⟩:=I.list g;refine⟨pl.isList.typeIs,fun a e=>?_⟩;cases e;obtain⟨o,n,e,c,hd,_⟩:=pl;exact⟨o,e,hd⟩
  ·refine⟨⟨o,I.kIn p o b,hc⟩,fun a e=>?_⟩;cases e;exact⟨o,I.kIn _ o b,hd⟩
  ·have z:∃o,s.heap.get? p=some o/\o.ExactDict:=by
    rcases b with⟨d,b⟩|⟨d,b⟩
    ·obtain⟨_,_,_,_,o,_,_,e,ex,_⟩:=I.hok p _ b;exact⟨o,e,ex⟩
    ·obtain⟨_,_,_,_,o,_,_,e,ex,_⟩:=I.hok p _ b;exact⟨o,e,ex⟩
   obtain⟨o,e,ex⟩:=z;refine⟨⟨o,e,ex.1⟩,fun a e2=>?_⟩;cases e2;exact⟨o,e,ex.2.1⟩
  ·obtain⟨o,_,_,_,e,ex,_⟩:=I.hok p _ b;refine⟨⟨o,e,ex.1⟩,fun a e2=>?_⟩;cases e2;exact⟨o,e,ex.2.1⟩
 |_=>exact False.elim ty
def Vr(K:Z4)(T:String)(r:V->List V->Hp->VK->Prop)(to:TE):TE:=fun Z H Q=>to Z H fun x H1=>Vf K T x H1/\r x [] H1 Q
def tBM(K:Z4)(T:String)(r:V->List V->Hp->VK->Prop)(to:TE)(t:TA):TE:=fun Z H Q=>to Z H fun x H1=>Vf K T x H1/\t Z H1 fun xs H2=>r x xs H2 Q
variable{o:Expr}{to:TE}{t:TA}{T:String}{r:V->List V->Hp->VK->Prop}
theorem VH(e:PlainAttrs T)(slot:Slot T name id)(c:typeOf (.builtin id)=pure (.type "method_descriptor"))(g:A1 X id r)(f:PE X o to)
  (b:attributeBase o name X.env (eval o X.env)=eval o X.env:=by rfl) (a:(apos.endLine==cpos.line)=true:=by rfl):PE X (.Call (.Attribute o name apos) [] [] cpos) (Vr X.K T r to):=by
 intro U s Z H Q I h;refine wpAny_Call_method0_late b a (eL (f U s Z H _ I h) fun v d ⟨x,H1,I1,r1,ty,q1⟩=>?_);obtain⟨j,i⟩:=TF I1 r1 ty;exact⟨T,id,e,slot,c,j,i,Dd rfl (PySem.evalArgs_none (g U d Z H1 x [] v [] Q I1 r1 .nil q1))⟩
theorem Gn(l:PlainAttrs T)(slot:Slot T name id)(f:typeOf (.builtin id)=pure (.type "method_descriptor"))(p:A1 X id r)(n:PE X o to)(q:PA X (e::es) t)
  (c:attributeBase o name X.env (eval o X.env)=eval o X.env:=by rfl)
  (d:((backTo cpos (starEach (e::es) X.env)).all (fun x=>!x.1)&&(backToKw cpos (keywordEach [] X.env)).all (fun x=>x.1.isSome)
   &&decide ((e::es).length+([]:List Keyword).length+(if([]:List Keyword).isEmpty then 0 else 1)<30))=true:=by rfl)
  (b:(apos.endLine==cpos.line)=true:=by rfl) (m:starEach (e::es) X.env=(false,eval e X.env)::starEach es X.env:=by rfl) (a:(backTo cpos (starEach es X.env)).any (·.1)=false:=by rfl) :
  PE X (.Call (.Attribute o name apos) (e::es) [] cpos) (tBM X.K T r to t):=by
 intro U s Z H Q I h;refine wpAny_Call_method_late c d b rfl (eL (n U s Z H _ I h) fun v k ⟨x,H1,I1,r1,ty,q1⟩=>?_);obtain⟨w,u⟩:=TF I1 r1 ty;refine⟨T,id,l,slot,f,w,u,?_⟩;have g:=q cpos U k Z H1 _ I1 q1;rw[m]at g ⊢;refine Dd (by show(false || (backTo cpos (starEach es X.env)).any (·.1))=false;rw[a]<;>rfl) (B7 ?_);exact eL g fun i j ⟨vs,H2,I2,r2,q2⟩=>p U j Z H2 x vs v i Q I2 r1 r2 q2
end
def Za(X:Cx)(id:String)(r:V->List V->Hp->VK->Prop):Prop:=
 ∀(U:List (Addr×Obj)) (s:Shared) (Z:St) (H:Hp) (x:V) (xs:List V) (v:Value) (us:List Value) (Q:VK),Inv X U Z H s->RelV x v->bD xs us->r x xs H Q->
  wpAny (model X.prog X.w) X.A (call (.builtin id) (v::us)) (EP X U Z Q) X.xe s
theorem bD.one:∀{x:V} {us:List Value},bD [x] us->∃u,us=[u]/\RelV x u
 |_,_,.cons r .nil=>⟨_,rfl,r⟩
theorem bD.two:∀{x y:V} {us:List Value},bD [x,y] us->∃u v,us=[u,v]/\RelV x u/\RelV y v
 |_,_,_,.cons r (.cons q .nil)=>⟨_,_,rfl,r,q⟩
theorem bD.zero:∀{us:List Value},bD [] us->us=[]
 |_,.nil=>rfl
theorem bD.dropLast(h:bD xs us):bD xs.dropLast us.dropLast:=by
 induction h with
 |nil=>exact .nil
 |cons r t a=>
  cases t with
  |nil=>exact .nil|cons q b=>exact .cons r a
theorem bD.rep(h:bD xs us):∀k:Nat,bD (List.replicate k xs).flatten (List.replicate k us).flatten
 |0=>.nil
 |k+1=>by rw[U1,U1,Q6,Q6];exact bD.append h (bD.rep h k)
theorem LD(l:List α):l.eraseIdx (l.length-1)=l.dropLast:=by
 induction l with
 |nil=>rfl
 |cons a r c=>
  cases r with
  |nil=>rfl
  |cons b r=>
   have e:(a::b::r).length-1=((b::r).length-1)+1:=(by have f:(a::b::r).length=r.length+2:=rfl;have d:(b::r).length=r.length+1:=rfl;lia);rw[e,List.eraseIdx_cons_succ,c]
   all_goals rfl
theorem foldl_rep(a:List Value):∀(k:Nat) (acc:List Value),
  List.foldl (fun c b=>c++b) acc.toArray (List.replicate k a.toArray)=(acc++(List.replicate k a).flatten).toArray
 |0,acc=>by simp
 |k+1,acc=>by have e:acc.toArray++a.toArray=(acc++a).toArray:=(by simp);have e2:(acc++a)++(List.replicate k a).flatten=acc++(List.replicate (k+1) a).flatten:=(by rw[U1,Q6,P2]);rw[<-e2,<-foldl_rep a k (acc++a),<-e,U1,A8]
variable{b:Addr}
section
variable{l:Addr}{zs:List V}
theorem Inv.lset{a its':List Value}{f:Array Value->Array Value}{b:Nat}(I:Inv X U Z H s)(i:H l=some (.lst xs))(e:s.heap.get? l=some {cls:=.type "list",data:=.seq a.toArray n})(hf:f a.toArray=its'.toArray)(d:bD ys its')(c:ys.length<=sizeLine) :
  Inv X U Z (cL H l (.lst ys)) {s with heap:=s.heap.update l (Obj.mapSeq f),toks:=b}:=by
 have q:=PySem.IsL.update e f;rw[hf]at q;refine I.write (x:=l) (e:=l) (by rw[i];exact trivial) (.inl rfl) (fun j u h g=>(S4 s.heap (Obj.mapSeq f) (Y8 h)).trans g) ⟨_,q⟩ ?_;exact⟨c,its',_,d,q⟩
theorem Inv.lnew{its:List Value}{t':Nat}(I:Inv X U Z H s)(b:bD ys its)(a:ys.length<=sizeLine) :
  Inv X U Z (cL H s.heap.objs.size (.lst ys)) {s with heap:=s.heap.push {cls:=.type "list",data:=.seq its.toArray},toks:=t'}:=
 I.laid (fun _ _ q=>Z3 _ q) (Z5 _) ⟨a,its,0,b,X9 _ rfl⟩
theorem Inv.fresh(I:Inv X U Z H s):H s.heap.objs.size=none:=I.hok.fresh (Z5 _)
theorem Inv.lstM(I:Inv X U Z H s)(b:H l=some (.lst xs)):xs.length<=sizeLine/\∃(a:List Value) (n:Nat),bD xs a/\xs.length=a.length/\s.heap.get? l=some {cls:=.type "list",data:=.seq a.toArray n}:=by obtain⟨z,a,n,r,e⟩:=I.hok l _ b;exact⟨z,a,n,r,r.length,e⟩
theorem GO(h:n<=sizeLine):Builtin.List.listTooLong n=false:=by unfold Builtin.List.listTooLong;exact decide_eq_false (by lia)
end
def Be:V->List V->Hp->VK->Prop:=fun x vs H Q=>∃l xs y,x=.ref l/\vs=[y]/\H l=some (.lst xs)/\xs.length<sizeLine/\Q .non (cL H l (.lst (xs++[y])))
theorem AQ:Za X "list.append" Be:=by intro U s Z H x i v j Q I c d h;obtain⟨l,g,y,rfl,rfl,b,k,q⟩:=h;cases c;obtain⟨u,rfl,f⟩:=d.one;obtain⟨z,a,n,r,m,e⟩:=I.lstM b;refine R9 F.slot_list_append ⟨_,e,rfl⟩ F.entry_list_append (F.args_list_append_2 _ _) (PySem.list_append l a.toArray n u (by rw[Y7];lia)) ⟨e,?_⟩;refine⟨.non,_,I.lset (its':=a++[u]) b e (by simp) (r.append (.cons f .nil)) ?_,rfl,q⟩;rw[W3,zc];lia
def Wn:V->List V->Hp->VK->Prop:=fun x vs H Q=>∃l xs y,x=.ref l/\vs=[]/\H l=some (.lst xs)/\xs[xs.length-1]? = some y/\Q y (cL H l (.lst xs.dropLast))
theorem WD:Za X "list.pop" Wn:=by
 intro U s Z H x p v t Q I f g h;obtain⟨l,o,y,rfl,rfl,d,j,q⟩:=h;cases f;have c:=g.zero;subst c;obtain⟨z,a,n,r,m,e⟩:=I.lstM d;obtain⟨u,k,i⟩:=r.get j;have b:a.toArray[a.toArray.size-1]? = some u:=by show a.toArray[a.length-1]? = some u;rw[<-T5,<-m];exact k
 refine R9 F.slot_list_pop ⟨_,e,rfl⟩ F.entry_list_pop (F.args_list_pop_1 _) (MeetsSeq.list_pop_last l a.toArray n u b (by rw[Y7];lia)) ⟨e,?_⟩;refine⟨y,_,I.lset (its':=a.dropLast) d e ?_ r.dropLast ?_,i,q⟩
 ·show a.toArray.eraseIdxIfInBounds (a.toArray.size-1)=a.dropLast.toArray;rw[Y7,List.eraseIdxIfInBounds_toArray,LD]
 ·rw[List.length_dropLast];lia
def Pf:R2:=fun x y H Q=>∃l b xs zs,x=.ref l/\y=.ref b/\H l=some (.lst xs)/\H b=some (.lst zs)/\xs.length+zs.length<=sizeLine/\∀p,H p=none->Q (.ref p) (cL H p (.lst (xs++zs)))
theorem Je:mQ X (binaryOp .Add) Pf:=by
 intro U s Z H x y v u Q I f d h;obtain⟨l,b,t,o,rfl,rfl,j,k,w,q⟩:=h;cases f;cases d;obtain⟨z,c,n,r,A,e⟩:=I.lstM j;obtain⟨p,a,n2,g,i,e2⟩:=I.lstM k;refine PySem.P.add_list e e2 ?_ (by rw[Y7,Y7];lia);have m:c.toArray++a.toArray=(c++a).toArray:=by simp
 rw[m];exact⟨.ref _,_,I.lnew (t':=s.toks) (r.append g) (by rw[W3];lia),rfl,q _ I.fresh⟩
def Ox:R2:=fun x y H Q=>∃l k xs,x=.ref l/\y=.int k/\H l=some (.lst xs)/\-(2 ^ 63)<=k/\k<2 ^ 63/\xs.length*k.toNat<=sizeLine/\
 ∀p,H p=none->Q (.ref p) (cL H p (.lst (List.replicate k.toNat xs).flatten))
theorem CV(a:List α)(k:Nat):(List.replicate k a).flatten.length=k*a.length:=by
 induction k with
 |zero=>simp|succ k b=>rw[U1,Q6,W3,b,z9,GS]
theorem VM:mQ X (binaryOp .Mult) Ox:=by
 intro U s Z H x y v u Q I C A h;obtain⟨l,k,L,rfl,rfl,E,J,G,p,q⟩:=h;cases C;obtain⟨t,rfl⟩:=A;obtain⟨z,b,n,r,D,e⟩:=I.lstM E;have f:b.toArray.size*k.toNat<=sizeLine:=by rw[Y7,<-D];exact p
 have i:¬b.toArray.size*k.toNat>(2 ^ 63-1) / 8:=(by have:(sizeLine:Nat)<=(2 ^ 63-1) / 8:=(by decide);lia);have g:¬(!Builtin.List.listFitsIndex k)=true:=(by rw[fitsIndex_both J G];exact W6);have c:¬Builtin.List.listTooLong (b.toArray.size*k.toNat)=true:=(by rw[GO f];exact W6);have d:List.foldl (fun o j=>o++j) #[] (List.replicate (if b.toArray.isEmpty=true then 0 else k.toNat) b.toArray)=(List.replicate k.toNat b).flatten.toArray:=by
  have K:∀m:Nat,List.foldl (fun o j=>o++j) #[] (List.replicate m b.toArray)=(List.replicate m b).flatten.toArray:=fun m=>(by have:=foldl_rep b m [];rw[J2]at this;exact this);rw[K];cases b with
  |nil=>simp|cons a M=>rw[Z6 (by simp)]
 refine wpAny_binaryOp_repeat_ref (T:="list") (U:="int") (by decide) ⟨_,e,rfl⟩ (fun w=>L6 w k t) noFill_list_mul F.fills_int_mul G2 repeat_list F.slot_int_index.lookup
  (R9 G2 (L6 s k t) F.entry_int_rmul (F.args_int_rmul_2 _ _) (int___rmul___int_list k t l b.toArray n)
   ⟨e,rfl,⟨_,e,rfl⟩,R9 F.slot_list_mul ⟨_,e,rfl⟩ F.entry_list_mul (F.args_list_mul_2 _ _) (AutoListH.list___mul___list_int_3 l b.toArray n k t g i c) ⟨e,?_⟩⟩)
 rw[d];exact⟨.ref _,_,I.lnew (t':=s.toks) (r.rep k.toNat) (by rw[CV,L8];exact p),rfl,q _ I.fresh⟩
variable{prog:Program}{w:World}{A:Around}{E:Value->Shared->Prop}
end L2
namespace Att
open PySem PySem.W PySem.Calls PyProof.Rows
variable{h:Heap}
theorem vT{P:Params}:∀(ns:List Int) (c:List Value),WellAll P h c (ns.map WData.int)->IntsAre c ns:=by
 intro ns
 induction ns with
 |nil=>intro c w;rw[R1]at w;cases w;exact .nil
 |cons n ns d=>
  intro c w;rw[Y4]at w;cases w with
  |cons a b=>cases a;exact .cons _ _ (d _ b)
variable{n:Nat}
theorem OV{l:OpenLaw}(u:l.most=some n){P:Params}{args:List WData}{b:List Value}(c:l.row.toRowW.claim.pre args=true)(j:WellAll P h b args) :
  ∃a m ns,b=[Value.ref a]/\args=[WData.list (ns.map WData.int)]/\h.get? a=some {cls:=.type "list",data:=.seq m.toArray}/\IntsAre m ns/\ns.length<=n:=by
 have k:WShape.hasAll [] args [.list .int]=true:=(pre_splitW c).1;have hc:l.pre.holds [] {args:=args}=true:=(pre_splitW c).2;obtain⟨d,r,rfl,x,w⟩:=hasAllW_cons k;obtain rfl:=hasAllW_nil w;obtain⟨y,rfl,v⟩:=hasW_list x;obtain⟨ns,rfl⟩:=items_int v;have e:ns.length<=n:=by
  unfold OpenLaw.pre at hc;have i:(WTm.not (.lt (.lit (.int (n:Int))) (.len (.arg 0)))).holds [] {args:=[.list (ns.map .int)]}=true:=(by have i:=(holds_andW hc).1;rw[u]at i;exact i);have g:=condW_of i (w_not (w_lt w_lit (w_len_list (w_arg rfl))));rw[Y9]at g;refine Nat.le_of_not_lt fun q=>?_;have s:(n:Int)<((ns.length:Nat):Int):=by lia
  first
   |(rw[decide_eq_true s]at g;exact absurd g (by decide))
   |(simp at g;lia)
 cases j with
 |cons p o=>
  cases o;cases p with
  |list t f=>exact⟨_,_,ns,rfl,rfl,t,vT ns _ f,e⟩
theorem PQ(l:OpenLaw)(args:List WData):l.row.toRowW.claim.post args (.bool true) args=true:=
 postW_of (r:=l.row.toRowW) (X:=(true==true))
  (show WShape.has [] (.bool true) .bool=true by first|rfl|decide|simp[WShape.has,WShape.arms,WShape.armsAll])
  (show(WTm.eq .res (.lit (.bool true))).value [] {args:=args,res:=some (.bool true),after:=args}=some (.bool (true==true))from w_eq_bool (w_res rfl) w_lit) rfl
theorem IM{l:OpenLaw}{q:Program}{c:List Str}{H:(Str->Option Value)->Heap->Prop}{F:World->Heap->Prop}{d:DefRec}(M:l.most=some n)(y:d.params.defaults=[]) (p:∀(w:World) (s₀ b:Shared) (mg u:Str->Option Value) (m:Addr) (o:Obj) (pm t g:Value) (a:Addr) (h:List Value) (ns:List Int),
   Ground q c [] H w s₀ mg u b.heap->F w b.heap->
   b.heap.get? m=some o->o.data=.func (docDef d.name d.params d.body d.scope pm t g)->b.heap.CodeRec t d.name->mg d.name=some (.ref m)->
   b.heap.get? a=some {cls:=.type "list",data:=.seq h.toArray}->IntsAre h ns->ns.length<=n->b.gens=#[]->
   codeAny (model l.prog w) callerA (.call (.ref m) ⟨[.ref a],[]⟩) (fun r s=>r=.ok (.ret (.bool true))/\OldK b.heap s.heap/\s.os=b.os/\AllBare s.gens) b) :
  WalkO q c H F l.row.toRowW d [] (fun f h=>PySem.call f h):=by
 intro w s₀ b mg u G W m o pm t g V I L hd z D x Q E A as i C J v P;obtain rfl:V=.none:=Dflts.none D y;obtain rfl:I=.none:=Dflts.noKw D;obtain⟨a,h,ns,rfl,rfl,j,e,k⟩:=OV M i v;refine enter_call (N0 (p w s₀ b mg u m o pm t g a h ns G W L (fd_plain hd) z x j e k Q) fun r s K=>?_);obtain⟨rfl,T,S,R⟩:=K;exact⟨.inl ⟨.bool true,.bool true,[],rfl,fun _=>rfl,.bool true,PQ l _,fun _=>⟨List.Pairwise.nil,fun _ N=>(nomatch N)⟩⟩,T,S,R⟩
variable{prog:Program}{w:World}{A:Around}{E:Value->Shared->Prop}{s:Shared}
section
variable{K:Frag}
end
end Att
namespace L2
open PySem PySem.Spec PyProof.Rows
theorem AF:∀{a:List Value} {ns:List Int},IntsAre a ns->bD (ns.map V.int) a
 |_,_,.nil=>.nil|_,_,.cons n t h=>.cons ⟨t,rfl⟩ (AF h)
abbrev kM:ZN:=fun _ _ _ _ _ _=>False
structure kB(K:Z4)(x qual:Str)(st:Stmt)(f:Addr)(fd:V1):Prop where
 ex:∃(oc:Value) (od:Option Addr) (kV doc pm:Value) (an:Option Addr) (cdv ct:Value) (osl:Array (Option Value)),
  fd=P8 x qual (mE st) (gS st) (aO st) .none kV doc pm an cdv ct/\K.lookup f=some ⟨oc,od,.func fd,osl⟩/\H0 K cdv qual=true
 kp:N3 K (.ref f)=true
variable{P:Program}{w:World}{K:Z4}{mg:Str->Option Value}{x qual:Str}{st:Stmt}{fd:V1}{N ps:List Str}{sp:Sp}{pm cdv:Value}
section
variable{base:Heap}
theorem kB.ok{f:Addr}{k:Nat}(F:kB K x qual st f fd)(S:aY N ps (aO st))(len:∀a H Q E,sp a H Q E->a.length=ps.length) (b:∀(cdv:Value) (A:Around) (outer:List Env) (s:Shared) (H:Hp) (a:List V) (Q:VK) (E:XK),hU k (A.deeper (envOfC qual (aO st) s.heap.objs.size f cdv))->sp a H Q E->
   ∃t,LY (nL kM P w K mg base N qual (aO st) f cdv A outer s H E).nox (gS st) t/\t {nx:=fun _ l=>Q .non l,rt:=Q} (start N a) H):uZ P w K mg base kM (k+1) f fd ps sp:=by
 obtain⟨n,m,o,j,pm,p,cdv,ct,e,rfl,g,d⟩:=F.ex;refine Gv g d S len fun A outer s H a Q E i c=>?_;obtain⟨t,h,q⟩:=b cdv A outer s H a Q E i c;exact⟨t,h.nox,q⟩
theorem kB.binds{f:Addr}(F:kB K x qual st f fd)(h:∀(b a pm:Value) (c:Option Addr) (cdv ct:Value) (us:List Value),us.length=ps.length->bindArgs (P8 x qual (mE st) (gS st) (aO st) .none b a pm c cdv ct) ⟨us,[]⟩=pure (ps.zip us)):Binds K fd ps []:=by obtain⟨i,g,b,a,pm,c,cdv,ct,d,rfl,j,e⟩:=F.ex;exact .all (h b a pm c cdv ct)
theorem XE{f:Addr}{d:Value}{b an:Option Addr}{a:Array (Option Value)}{kV doc ct:Value}(l:K.lookup f=some ⟨d,b,.func (P8 x qual (mE st) (gS st) (aO st) .none kV doc pm an cdv ct),a⟩)(c:H0 K cdv qual=true)(k:N3 K (.ref f)=true):kB K x qual st f (P8 x qual (mE st) (gS st) (aO st) .none kV doc pm an cdv ct):=⟨⟨d,b,kV,doc,pm,an,cdv,ct,a,rfl,l,c⟩,k⟩
end
variable{X:Cx}{pos:Pos}
theorem pv(i:Nat)(c:X.N[i]? = some x:=by rfl)(b:SA X.env.scope x:=by first|exact Or.inl rfl|exact Or.inr (Or.inl rfl)|exact Or.inr (Or.inr rfl))(hd:(x==("__debug__" : Str))=false:=by decide)(a:(x==("__classdict__" : Str))=false:=by decide):PE X (.Name x pos) (Hq i):=iU c b hd a
def bR(H H':Hp):Prop:=∀b o,H b=some o->H' b=some o
theorem bR.refl(H:Hp):bR H H:=fun _ _ h=>h
variable{H H1 H2:Hp}
theorem bR.trans(a:bR H H1)(b:bR H1 H2):bR H H2:=fun c o h=>b c o (a c o h)
variable{H':Hp}
theorem bR.free(e:bR H H'){l:Addr}(h:H' l=Option.none):H l=Option.none:=by
 cases q:H l with
 |none=>rfl
 |some o=>rw[e l o q]at h;cases h
variable{a:Addr}{xs:List V}
theorem bR.seq(e:bR H H')(h:iA K H a xs):iA K H' a xs:=by
 rcases h with(h|⟨o,h⟩)|h
 ·exact .inl (.inl (e _ _ h))
 ·exact .inl (.inr ⟨o,e _ _ h⟩)
 ·exact .inr h
end L2
namespace PF
open PySem PySem.Spec L2
open PyProof.Rows hiding St
inductive DK where
 |k (ks:List fW)|t (ks:List (List Int))
noncomputable def Nl(z:List Int):Int:=reduceHash (Builtin.Tuple.tupleHashOf (z.map hashInt))
def Af(a:Addr)(ks:List (List Int))(bs:List Addr)(vs:List V)(h:Heap):Prop:=
 (a==sysModules)=false/\∃(xs:List (List Int×Addr×Value)) (o:Obj) (es:Array DictEntry) (ep:Nat),xs.map (·.1)=ks/\xs.map (·.2.1)=bs/\bD vs (xs.map (·.2.2))/\
  h.get? a=some o/\o.ExactDict/\o.data=.dict es ep/\es.toList=xs.map (fun x=>⟨Nl x.1,.ref x.2.1,x.2.2⟩)/\ks.Nodup/\ks.length<=sizeLine
def zL(a:Addr)(ks:List (List Int))(bs:List Addr)(vs:List V):HO:=.ext (Af a ks bs vs)
def zB(K:Z4)(F H:Hp)(a:Addr):DK->List V->Prop
 |.k ks,vs=>∃kvs,H a=some (.dK kvs)/\kvs.map (·.1)=ks/\kvs.map (·.2)=vs|.t ks,vs=>∃bs,H a=some (zL a ks bs vs)/\Paired (fun z b=>cA K F b (z.map V.int)) ks bs
variable{K:Z4}{H H':Hp}{a:Addr}{xs:List V}
theorem cA.same(e:bR H H')(h:cA K H a xs):cA K H' a xs:=by
 rcases h with(h|⟨o,h⟩)|h
 ·exact .inl (.inl (e _ _ h))
 ·exact .inl (.inr ⟨o,e _ _ h⟩)
 ·exact .inr h
variable{F':Hp}{vs:List V}
theorem zB.mono{F:Hp}{ks:DK}(ff:bR F F')(hh:∀u,H a=some u->H' a=some u)(h:zB K F H a ks vs):zB K F' H' a ks vs:=by
 cases ks with
 |k ks=>obtain⟨b,d,c⟩:=h;exact⟨b,hh _ d,c⟩|t ks=>obtain⟨bs,d,c⟩:=h;exact⟨bs,hh _ d,Paired.mapP c fun _ _ z=>cA.same ff z⟩
inductive D where
 |non|bl (b:Bool)|int (i:Int)|str (x:Str)|tup (l:List D)|lst (l:List D)|scr (l:List Int)|dic (ks:DK) (l:List D)
mutual
def jS(K:Z4)(H:Hp):D->V->Prop
 |.non,v=>v=.non|.bl b,v=>v=.bl b|.int i,v=>v=.int i|.str x,v=>v=.str x|.tup l,v=>∃a vs,v=.ref a/\cA K H a vs/\aX K H l vs|.lst l,v=>∃a vs,v=.ref a/\H a=some (.lst vs)/\aX K H l vs|.scr l,v=>∃a,v=.ref a/\iA K H a (l.map V.int)|.dic ks l,v=>∃a vs,v=.ref a/\zB K H H a ks vs/\aX K H l vs
def aX(K:Z4)(H:Hp):List D->List V->Prop
 |[],vs=>vs=[]|d::l,vs=>∃v r,vs=v::r/\jS K H d v/\aX K H l r
end
mutual
def dU:D->Bool
 |.lst _=>false|.scr _=>false|.dic _ _=>false|.tup l=>iI l|.non=>true|.bl _=>true|.int _=>true|.str _=>true
def iI:List D->Bool
 |[]=>true|d::l=>dU d&&iI l
end
variable{v:V}
mutual
theorem jS.mono(e:bR H H'):∀{d:D} {v:V},jS K H d v->jS K H' d v
 |.non,_,h=>h|.bl _,_,h=>h|.int _,_,h=>h|.str _,_,h=>h
 |.tup l,v,h=>by obtain⟨a,vs,q1,q,r⟩:=h;exact⟨a,vs,q1,cA.same e q,aX.mono e r⟩
 |.lst l,v,h=>by obtain⟨a,vs,q1,q,r⟩:=h;exact⟨a,vs,q1,e a _ q,aX.mono e r⟩
 |.scr l,v,h=>by obtain⟨a,q1,q⟩:=h;exact⟨a,q1,e.seq q⟩
 |.dic ks l,v,h=>by obtain⟨a,vs,q1,q,r⟩:=h;exact⟨a,vs,q1,q.mono e (fun u z=>e _ _ z),aX.mono e r⟩
theorem aX.mono(e:bR H H'):∀{l:List D} {vs:List V},aX K H l vs->aX K H' l vs
 |[],_,h=>h
 |d::l,vs,h=>by obtain⟨v,r,q1,q,t⟩:=h;exact⟨v,r,q1,jS.mono e q,aX.mono e t⟩
end
mutual
theorem jS.impT(hT:∀a vs,cA K H a vs->cA K H' a vs):∀{d:D} {v:V},dU d=true->jS K H d v->jS K H' d v
 |.non,_,_,h=>h|.bl _,_,_,h=>h|.int _,_,_,h=>h|.str _,_,_,h=>h
 |.tup l,v,n,h=>by obtain⟨a,vs,e,q,r⟩:=h;exact⟨a,vs,e,hT a vs q,aX.impT hT (by simpa [dU]using n) r⟩
 |.lst l,v,n,h=>by simp[dU]at n
 |.scr l,v,n,h=>by simp[dU]at n
 |.dic ks l,v,n,h=>by simp[dU]at n
theorem aX.impT(hT:∀a vs,cA K H a vs->cA K H' a vs):∀{l:List D} {vs:List V},iI l=true->aX K H l vs->aX K H' l vs
 |[],_,_,h=>h
 |d::l,vs,n,h=>by obtain⟨v,r,e,q,t⟩:=h;simp[iI]at n;exact⟨v,r,e,jS.impT hT n.1 q,aX.impT hT n.2 t⟩
end
theorem aX.length:∀{l:List D} {vs:List V},aX K H l vs->l.length=vs.length
 |[],_,h=>by have a:_=[]:=h;subst a;rfl
 |d::l,_,h=>by obtain⟨v,r,rfl,_,t⟩:=h;simp[aX.length t]
theorem aX.get:∀{l:List D} {vs:List V} {i:Nat} {d:D},aX K H l vs->l[i]? = some d->∃v,vs[i]? = some v/\jS K H d v
 |[],_,_,_,_,e=>by simp at e
 |d::l,_,0,_,h,e=>by obtain⟨v,r,rfl,q,t⟩:=h;simp at e;subst e;exact⟨v,rfl,q⟩
 |d::l,_,i+1,_,h,e=>by obtain⟨v,r,rfl,q,t⟩:=h;obtain⟨u,b,a⟩:=aX.get t (i:=i) (by simpa using e);exact⟨u,by simpa using b,a⟩
theorem aX.append:∀{l b:List D} {vs a:List V},aX K H l vs->aX K H b a->aX K H (l++b) (vs++a)
 |[],_,_,_,h,h'=>by have e:_=[]:=h;subst e;exact h'
 |d::l,_,_,_,h,h'=>by obtain⟨v,r,rfl,q,t⟩:=h;exact⟨v,_,rfl,q,aX.append t h'⟩
theorem aX.nil:aX K H [] []:=rfl
theorem aX.cons{d:D}{l:List D}(q:jS K H d v)(t:aX K H l vs):aX K H (d::l) (v::vs):=⟨v,vs,rfl,q,t⟩
theorem aX.one{d:D}(q:jS K H d v):aX K H [d] [v]:=.cons q .nil
theorem aX.take:∀{l:List D} {vs:List V} (n:Nat),aX K H l vs->aX K H (l.take n) (vs.take n)
 |_,_,0,_=>rfl|[],_,n+1,h=>by have e:_=[]:=h;subst e;rfl
 |d::l,_,n+1,h=>by obtain⟨v,r,rfl,q,t⟩:=h;exact⟨v,_,rfl,q,aX.take n t⟩
theorem aX.drop:∀{l:List D} {vs:List V} (n:Nat),aX K H l vs->aX K H (l.drop n) (vs.drop n)
 |_,_,0,h=>by simpa using h
 |[],_,n+1,h=>by have e:_=[]:=h;subst e;rfl
 |d::l,_,n+1,h=>by obtain⟨v,r,rfl,q,t⟩:=h;simpa using aX.drop n t
theorem aX.set{d:D}(q:jS K H d v):∀{l:List D} {vs:List V} (n:Nat),aX K H l vs->aX K H (l.set n d) (vs.set n v)
 |[],_,_,h=>by have e:_=[]:=h;subst e;rfl
 |_::l,_,0,h=>by obtain⟨a,r,rfl,_,t⟩:=h;exact⟨v,r,rfl,q,t⟩
 |d'::l,_,n+1,h=>by obtain⟨a,r,rfl,b,t⟩:=h;exact⟨a,_,rfl,b,aX.set q n t⟩
theorem aX.rep{l:List D}(h:aX K H l vs):∀k:Nat,aX K H (List.replicate k l).flatten (List.replicate k vs).flatten
 |0=>rfl
 |k+1=>by rw[U1,U1,Q6,Q6];exact aX.append h (aX.rep h k)
theorem aX.dropLast:∀{l:List D} {vs:List V},aX K H l vs->aX K H l.dropLast vs.dropLast:=fun{l vs} h=>by rw[D3,D3,h.length];exact h.take _
inductive MO where
 |lst (xs:List V)|dK (kvs:List (fW×V))|ex (φ:Heap->Prop)
noncomputable def MO.ho:MO->HO
 |.lst xs=>.lst xs|.dK kvs=>.dK kvs|.ex φ=>.ext φ
theorem zB.mo{F:Hp}{ks:DK}(h:zB K F H a ks vs):∃m:MO,H a=some m.ho/\∀xs,m.ho≠.lst xs:=by
 cases ks with
 |k ks=>obtain⟨b,c,_⟩:=h;exact⟨.dK b,c,fun _=>HO.noConfusion⟩|t ks=>obtain⟨bs,c,_⟩:=h;exact⟨.ex _,c,fun _=>HO.noConfusion⟩
structure bZ(F H F' H':Hp):Prop where
 ff:bR F F'
 hh:bR H H'
 fh:bR F' H'
 new:∀a (xs:MO),H a=some xs.ho->F a=none->F' a=none
theorem bZ.refl{F:Hp}(h:bR F H):bZ F H F H:=⟨bR.refl _,bR.refl _,h,fun _ _ _ e=>e⟩
variable{H1 H2:Hp}
theorem bZ.trans{F g e:Hp}(a:bZ F H g H1)(b:bZ g H1 e H2):bZ F H e H2:=
 ⟨a.ff.trans b.ff,a.hh.trans b.hh,b.fh,fun c d h f=>b.new c d (a.hh _ _ h) (a.new c d h f)⟩
variable{o:HO}
theorem bG{p:Addr}(h:H p=none):bR H (cL H p o):=fun b u q=>by rw[aJ (aV q h)];exact q
theorem PH{F:Hp}{p:Addr}(fh:bR F H):bR (cL F p o) (cL H p o):=fun b u q=>by
 by_cases e:b=p
 ·subst e;rw[aM]at q ⊢;exact q
 ·rw[aJ e]at q ⊢;exact fh b u q
theorem eN{F:Hp}{p:Addr}(fh:bR F H)(b:H p=none):bZ F H (cL F p o) (cL H p o):=
 ⟨bG (fh.free b),bG b,PH fh,fun a c h f=>by rw[aJ (aV h b)];exact f⟩
theorem kI{F:Hp}{p:Addr}(fh:bR F H)(a:H p=none):bZ F H F (cL H p o):=
 ⟨bR.refl _,bG a,fh.trans (bG a),fun _ _ _ f=>f⟩
abbrev M(α:Type):=Option (Except Addr α)
noncomputable def mb{α β:Type}(x:M α)(f:α->M β):M β:=match x with
 |none=>none|some (.error c)=>some (.error c)|some (.ok a)=>f a
inductive VR where
 |ok (d:D)|bor (l:List D)|bod (ks:DK) (l:List D)
inductive Slot where
 |val (d:D)|own (l:List D)|owd (ks:DK) (l:List D)
abbrev DS:=List (Option Slot)
noncomputable def fS:VR->D
 |.ok d=>d|.bor l=>.lst l|.bod ks l=>.dic ks l
def jY:Addr:=199
abbrev QK:Str:="factors.<locals>.<lambda>"
def LO(F:Hp):Prop:=F jY=some (.lam 140 33 QK)
theorem LO.mono{F:Hp}(h:LO F)(e:bR F F'):LO F':=e _ _ h
structure cV(K:Z4)(B O F H:Hp)(Z:St)(S:DS):Prop where
 ext:bZ B O F H
 len:S.length=Z.length
 val:∀(i:Nat) (d:D),S[i]? = some (some (Slot.val d))->∃v,Z[i]? = some (some v)/\jS K F d v
 own:∀(i:Nat) (l:List D),S[i]? = some (some (Slot.own l))->∃a vs,Z[i]? = some (some (V.ref a))/\O a=none/\F a=none/\H a=some (.lst vs)/\aX K F l vs
 sep:∀(i j:Nat) (l l':List D) (a:Addr),i≠j->S[i]? = some (some (Slot.own l))->S[j]? = some (some (Slot.own l'))->Z[i]? = some (some (V.ref a))->Z[j]? = some (some (V.ref a))->False
 owd:∀(i:Nat) (ks:DK) (l:List D),S[i]? = some (some (Slot.owd ks l))->∃a vs,Z[i]? = some (some (V.ref a))/\O a=none/\F a=none/\zB K F H a ks vs/\aX K F l vs
 sepd:∀(i j:Nat) (ks ks':DK) (l l':List D) (a:Addr),i≠j->S[i]? = some (some (Slot.owd ks l))->S[j]? = some (some (Slot.owd ks' l'))->Z[i]? = some (some (V.ref a))->Z[j]? = some (some (V.ref a))->False
 lo:LO F
variable{B O:Hp}{Z:St}{α:Type}{i j:Nat}
section
variable{F:Hp}{S:DS}
theorem cV.step(s:cV K B O F H Z S)(e:bZ F H F' H'):cV K B O F' H' Z S where
 ext:=s.ext.trans e
 len:=s.len
 val:=fun i d h=>let ⟨v,a,b⟩:=s.val i d h;⟨v,a,b.mono e.ff⟩
 own:=fun i l h=>let ⟨a,f,n,k,j,c,g⟩:=s.own i l h;⟨a,f,n,k,e.new a (.lst f) c j,e.hh _ _ c,g.mono e.ff⟩
 sep:=s.sep
 owd:=fun i ks l h=>let ⟨a,f,n,k,j,c,g⟩:=s.owd i ks l h;let ⟨m,z,_⟩:=c.mo;⟨a,f,n,k,e.new a m z j,c.mono e.ff (fun u z=>e.hh _ _ z),g.mono e.ff⟩
 sepd:=s.sepd
 lo:=s.lo.mono e.ff
theorem aN{l:List (Option α)}{x y:α}(h:(l.set i (some x))[j]? = some (some y)):(i=j/\i<l.length/\x=y)\/(i≠j/\l[j]? = some (some y)):=by
 by_cases e:i=j
 ·subst e;rw[List.getElem?_set_self']at h;cases q:l[i]? with
  |none=>rw[q]at h;simp at h
  |some z=>
   rw[q]at h;simp at h;have:i<l.length:=by
    rcases W7 i l.length with a|a
    ·exact a
    ·rw[O1 a]at q;cases q
   exact .inl ⟨rfl,this,h⟩
 ·rw[X4 e]at h;exact .inr ⟨e,h⟩
theorem iD{l:List α}{x:α}(h:i<l.length):(l.set i x)[i]? = some x:=by simp[h]
theorem cV.setVal(s:cV K B O F H Z S){d:D}(r:jS K F d v)(i:Nat):cV K B O F H (Z.set i (some v)) (S.set i (some (.val d))) where
 ext:=s.ext
 len:=by rw[SZ,SZ];exact s.len
 val:=fun j u h=>by
  rcases aN h with⟨rfl,q,e⟩|⟨ne,h⟩
  ·injection e with e;subst e;exact⟨v,iD (by rw[<-s.len];exact q),r⟩
  ·obtain⟨t,a,b⟩:=s.val j u h;exact⟨t,by rw[X4 ne];exact a,b⟩
 own:=fun j l h=>by
  rcases aN h with⟨rfl,q,e⟩|⟨ne,h⟩
  ·cases e
  ·obtain⟨a,n,f,c⟩:=s.own j l h;exact⟨a,n,by rw[X4 ne];exact f,c⟩
 sep:=fun j k l o a ne f c m g=>by
  rcases aN f with⟨rfl,_,e⟩|⟨n1,f⟩
  ·cases e
  ·rcases aN c with⟨rfl,_,e⟩|⟨n2,c⟩
   ·cases e
   ·rw[X4 n1]at m;rw[X4 n2]at g;exact s.sep j k l o a ne f c m g
 owd:=fun j ks l h=>by
  rcases aN h with⟨rfl,q,e⟩|⟨ne,h⟩
  ·cases e
  ·obtain⟨a,n,f,c⟩:=s.owd j ks l h;exact⟨a,n,by rw[X4 ne];exact f,c⟩
 sepd:=fun j k ks p l o a ne f c m g=>by
  rcases aN f with⟨rfl,_,e⟩|⟨n1,f⟩
  ·cases e
  ·rcases aN c with⟨rfl,_,e⟩|⟨n2,c⟩
   ·cases e
   ·rw[X4 n1]at m;rw[X4 n2]at g;exact s.sepd j k ks p l o a ne f c m g
 lo:=s.lo
theorem cV.setOwn(s:cV K B O F H Z S)(e:bZ F H F' H'){l:List D}(E:H a=none)(hf:F' a=none)(hh:H' a=some (.lst vs))(r:aX K F' l vs)(i:Nat) :
  cV K B O F' H' (Z.set i (some (.ref a))) (S.set i (some (.own l))) where
 ext:=s.ext.trans e
 len:=by rw[SZ,SZ];exact s.len
 val:=fun j J h=>by
  rcases aN h with⟨rfl,o,q⟩|⟨ne,h⟩
  ·cases q
  ·obtain⟨G,L,b⟩:=s.val j J h;exact⟨G,by rw[X4 ne];exact L,b.mono e.ff⟩
 own:=fun j x h=>by
  rcases aN h with⟨rfl,o,q⟩|⟨ne,h⟩
  ·injection q with q;subst q;exact⟨a,vs,iD (by rw[<-s.len];exact o),s.ext.hh.free E,hf,hh,r⟩
  ·obtain⟨b,t,f,d,n,g,I⟩:=(s.step e).own j x h;exact⟨b,t,by rw[X4 ne];exact f,d,n,g,I⟩
 sep:=fun j k v u b ne f d n g=>by
  have p:∀(m:Nat) (l:List D),S[m]? = some (some (Slot.own l))->Z[m]? = some (some (V.ref a))->False:=fun m l q z=>(by obtain⟨c,t,C,_,_,A,_⟩:=s.own m l q;rw[z]at C;have w:V.ref a=V.ref c:=(by simpa using C);injection w with w;subst w;rw[E]at A;cases A);rcases aN f with⟨rfl,o,_⟩|⟨n1,f⟩
  ·rw[iD (by rw[<-s.len];exact o)]at n;rcases aN d with⟨rfl,_,_⟩|⟨n2,d⟩
   ·exact ne rfl
   ·rw[X4 n2]at g;have z:V.ref a=V.ref b:=(by simpa using n);injection z with z;subst z;exact p k u d g
  ·rw[X4 n1]at n;rcases aN d with⟨rfl,o,_⟩|⟨n2,d⟩
   ·rw[iD (by rw[<-s.len];exact o)]at g;have z:V.ref a=V.ref b:=(by simpa using g);injection z with z;subst z;exact p j v f n
   ·rw[X4 n2]at g;exact s.sep j k v u b ne f d n g
 owd:=fun j ks x h=>by
  rcases aN h with⟨rfl,o,q⟩|⟨ne,h⟩
  ·cases q
  ·obtain⟨b,t,f,d⟩:=(s.step e).owd j ks x h;exact⟨b,t,by rw[X4 ne];exact f,d⟩
 sepd:=fun j k ks y v u b ne f d n g=>by
  rcases aN f with⟨rfl,_,q⟩|⟨n1,f⟩
  ·cases q
  ·rcases aN d with⟨rfl,_,q⟩|⟨n2,d⟩
   ·cases q
   ·rw[X4 n1]at n;rw[X4 n2]at g;exact s.sepd j k ks y v u b ne f d n g
 lo:=s.lo.mono e.ff
theorem cV.setOwd(s:cV K B O F H Z S)(e:bZ F H F' H'){ks:DK}{l:List D}(I:H a=none)(hf:F' a=none)(hh:zB K F' H' a ks vs)(r:aX K F' l vs)(i:Nat) :
  cV K B O F' H' (Z.set i (some (.ref a))) (S.set i (some (.owd ks l))) where
 ext:=s.ext.trans e
 len:=by rw[SZ,SZ];exact s.len
 val:=fun j M h=>by
  rcases aN h with⟨rfl,o,q⟩|⟨ne,h⟩
  ·cases q
  ·obtain⟨L,N,b⟩:=s.val j M h;exact⟨L,by rw[X4 ne];exact N,b.mono e.ff⟩
 own:=fun j A h=>by
  rcases aN h with⟨rfl,o,q⟩|⟨ne,h⟩
  ·cases q
  ·obtain⟨b,v,f,d⟩:=(s.step e).own j A h;exact⟨b,v,by rw[X4 ne];exact f,d⟩
 sep:=fun j k x w b ne f d n g=>by
  rcases aN f with⟨rfl,_,q⟩|⟨n1,f⟩
  ·cases q
  ·rcases aN d with⟨rfl,_,q⟩|⟨n2,d⟩
   ·cases q
   ·rw[X4 n1]at n;rw[X4 n2]at g;exact s.sep j k x w b ne f d n g
 owd:=fun j C A h=>by
  rcases aN h with⟨rfl,o,q⟩|⟨ne,h⟩
  ·injection q with q1 q2;subst q1 q2;exact⟨a,vs,iD (by rw[<-s.len];exact o),s.ext.hh.free I,hf,hh,r⟩
  ·obtain⟨b,v,f,d⟩:=(s.step e).owd j C A h;exact⟨b,v,by rw[X4 ne];exact f,d⟩
 sepd:=fun j k u t x w b ne f d n g=>by
  have p:∀(m:Nat) (ks:DK) (l:List D),S[m]? = some (some (Slot.owd ks l))->Z[m]? = some (some (V.ref a))->False:=fun m ks l q z=>(by obtain⟨c,v,G,_,_,J,_⟩:=s.owd m ks l q;rw[z]at G;have y:V.ref a=V.ref c:=(by simpa using G);injection y with y;subst y;obtain⟨m,E,_⟩:=J.mo;rw[I]at E;cases E);rcases aN f with⟨rfl,o,_⟩|⟨n1,f⟩
  ·rw[iD (by rw[<-s.len];exact o)]at n;rcases aN d with⟨rfl,_,_⟩|⟨n2,d⟩
   ·exact ne rfl
   ·rw[X4 n2]at g;have z:V.ref a=V.ref b:=(by simpa using n);injection z with z;subst z;exact p k t w d g
  ·rw[X4 n1]at n;rcases aN d with⟨rfl,o,_⟩|⟨n2,d⟩
   ·rw[iD (by rw[<-s.len];exact o)]at g;have z:V.ref a=V.ref b:=(by simpa using g);injection z with z;subst z;exact p j u x f n
   ·rw[X4 n2]at g;exact s.sepd j k u t x w b ne f d n g
 lo:=s.lo.mono e.ff
theorem cV.mutd(s:cV K B O F H Z S){ks v:DK}{l J:List D}{o:List V}{m:MO}(h:S[i]? = some (some (Slot.owd ks l)))(ha:Z[i]? = some (some (V.ref a)))(X:zB K F (cL H a m.ho) a v o)(r:aX K F J o) :
  cV K B O F (cL H a m.ho) Z (S.set i (some (.owd v J))):=by
 obtain⟨C,vs,A,N,M,h4,h5⟩:=s.owd i ks l h;have:C=a:=(by rw[ha]at A;simpa using A.symm);subst this;refine⟨⟨s.ext.ff,fun b u q=>?_,fun b u q=>?_,s.ext.new⟩,by rw[SZ];exact s.len,fun j d q=>?_,fun j m q=>?_,fun j k t x b ne c f p g=>?_,fun j w m q=>?_,fun j k W L t x b ne c f p g=>?_,s.lo⟩
 ·rw[aJ (aV q N)];exact s.ext.hh b u q
 ·rw[aJ (aV q M)];exact s.ext.fh b u q
 ·rcases aN q with⟨rfl,_,e⟩|⟨ne,q⟩
  ·cases e
  ·exact s.val j d q
 ·rcases aN q with⟨rfl,_,e⟩|⟨ne,q⟩
  ·cases e
  ·obtain⟨b,E,c,f,p,g,G⟩:=s.own j m q;have I:b≠C:=by
    rintro rfl;obtain⟨m',z,y⟩:=h4.mo;rw[z]at g;exact y _ (Z2 g)
   exact⟨b,E,c,f,p,by rw[aJ I];exact g,G⟩
 ·rcases aN c with⟨rfl,_,e⟩|⟨_,c⟩
  ·cases e
  ·rcases aN f with⟨rfl,_,e⟩|⟨_,f⟩
   ·cases e
   ·exact s.sep j k t x b ne c f p g
 ·rcases aN q with⟨rfl,_,e⟩|⟨ne,q⟩
  ·injection e with e1 e2;subst e1 e2;exact⟨C,o,A,N,M,X,r⟩
  ·obtain⟨b,E,c,f,p,g,G⟩:=s.owd j w m q;have I:b≠C:=(by rintro rfl;exact s.sepd i j ks w l m b ne h q A c);exact⟨b,E,c,f,p,g.mono (bR.refl _) (fun u z=>by rw[aJ I];exact z),G⟩
 ·have n:∀(m:Nat) (w:DK) (t:List D),(S.set i (some (Slot.owd v J)))[m]? = some (some (Slot.owd w t))->∃L x,S[m]? = some (some (Slot.owd L x)):=fun m w t z=>by
   rcases aN z with⟨rfl,_,_⟩|⟨_,z⟩
   ·exact⟨ks,l,h⟩
   ·exact⟨w,t,z⟩
  obtain⟨T,Q,c⟩:=n j W t c;obtain⟨R,P,f⟩:=n k L x f;exact s.sepd j k T R Q P b ne c f p g
theorem cV.mut(s:cV K B O F H Z S){l G:List D}{o:List V}(h:S[i]? = some (some (Slot.own l)))(R:Z[i]? = some (some (V.ref a)))(r:aX K F G o) :
  cV K B O F (cL H a (.lst o)) Z (S.set i (some (.own G))):=by
 obtain⟨x,W,w,J,I,T,h5⟩:=s.own i l h;have:x=a:=(by rw[R]at w;simpa using w.symm);subst this;refine⟨⟨s.ext.ff,fun b u q=>?_,fun b u q=>?_,s.ext.new⟩,by rw[SZ];exact s.len,fun j d q=>?_,fun j m q=>?_,fun j k t v b ne c f p g=>?_,fun j N m q=>?_,fun j k Q P t v b ne c f p g=>?_,s.lo⟩
 ·rw[aJ (aV q J)];exact s.ext.hh b u q
 ·rw[aJ (aV q I)];exact s.ext.fh b u q
 ·rcases aN q with⟨rfl,_,e⟩|⟨ne,q⟩
  ·cases e
  ·exact s.val j d q
 ·rcases aN q with⟨rfl,_,e⟩|⟨ne,q⟩
  ·injection e with e;subst e;exact⟨x,o,w,J,I,aM,r⟩
  ·obtain⟨b,A,c,f,p,g,C⟩:=s.own j m q;have E:b≠x:=(by rintro rfl;exact s.sep i j l m b ne h q w c);exact⟨b,A,c,f,p,by rw[aJ E];exact g,C⟩
 ·have n:∀(m:Nat) (t:List D),(S.set i (some (Slot.own G)))[m]? = some (some (Slot.own t))->∃v,S[m]? = some (some (Slot.own v)):=fun m t z=>by
   rcases aN z with⟨rfl,_,_⟩|⟨_,z⟩
   ·exact⟨l,h⟩
   ·exact⟨t,z⟩
  obtain⟨M,c⟩:=n j t c;obtain⟨L,f⟩:=n k v f;exact s.sep j k M L b ne c f p g
 ·rcases aN q with⟨rfl,_,e⟩|⟨ne,q⟩
  ·cases e
  ·obtain⟨b,A,c,f,p,g,C⟩:=s.owd j N m q;have E:b≠x:=by
    rintro rfl;obtain⟨X,z,y⟩:=g.mo;rw[T]at z;exact y _ (Z2 z).symm
   exact⟨b,A,c,f,p,g.mono (bR.refl _) (fun u z=>by rw[aJ E];exact z),C⟩
 ·rcases aN c with⟨rfl,_,e⟩|⟨_,c⟩
  ·cases e
  ·rcases aN f with⟨rfl,_,e⟩|⟨_,f⟩
   ·cases e
   ·exact s.sepd j k Q P t v b ne c f p g
end
section
variable(K:Z4)(B O:Hp)(Y:Addr->Hp->Prop)
def RR(F H:Hp):VR->V->Prop
 |.ok d,v=>jS K F d v|.bor l,v=>∃a vs,v=.ref a/\O a=none/\F a=none/\H a=some (.lst vs)/\aX K F l vs|.bod ks l,v=>∃a vs,v=.ref a/\O a=none/\F a=none/\zB K F H a ks vs/\aX K F l vs
def dD(F H:Hp)(Q:VK):M VR->Prop
 |none=>False|some (.error c)=>∀H',bR H H'->Y c H'|some (.ok r)=>∀v F' H',bZ F H F' H'->RR K O F' H' r v->Q v H'
def tE(f:DS->M VR):TE:=fun Z H Q=>∃F S,cV K B O F H Z S/\dD K O Y F H Q (f S)
def vQ(F H:Hp)(Q:VK):M (List D)->Prop
 |none=>False|some (.error c)=>∀H',bR H H'->Y c H'|some (.ok l)=>∀a vs F' H',bZ F H F' H'->H a=none->F' a=none->H' a=some (.lst vs)->aX K F' l vs->Q (.ref a) H'
def tF(f:DS->M (List D)):TE:=fun Z H Q=>∃F S,cV K B O F H Z S/\vQ K Y F H Q (f S)
def rA(F H:Hp)(Q:Bool->Hp->Prop):M Bool->Prop
 |none=>False|some (.error c)=>∀H',bR H H'->Y c H'|some (.ok b)=>∀F' H',bZ F H F' H'->Q b H'
def tT(f:DS->M Bool):TT:=fun Z H Q=>∃F S,cV K B O F H Z S/\rA Y F H Q (f S)
def JG(F H:Hp):List VR->List V->Prop
 |[],vs=>vs=[]|r::l,vs=>∃v t,vs=v::t/\RR K O F H r v/\JG F H l t
def nZ(F H:Hp)(Q:List V->Hp->Prop):M (List VR)->Prop
 |none=>False|some (.error c)=>∀H',bR H H'->Y c H'|some (.ok rs)=>∀vs F' H',bZ F H F' H'->JG K O F' H' rs vs->Q vs H'
def tA(f:DS->M (List VR)):TA:=fun Z H Q=>∃F S,cV K B O F H Z S/\nZ K O Y F H Q (f S)
inductive Fl where
 |next (S:DS)|ret (d:D)|brk (S:DS)|cont (S:DS)|ex (c:Addr)
def kZ(Dn:Ends):Option Fl->Prop
 |none=>False|some (.next S)=>∀Z F H,cV K B O F H Z S->Dn.nx Z H|some (.brk S)=>∀Z F H,cV K B O F H Z S->Dn.bk Z H|some (.cont S)=>∀Z F H,cV K B O F H Z S->Dn.ct Z H|some (.ret d)=>∀v F H,bZ B O F H->jS K F d v->Dn.rt v H|some (.ex c)=>∀H,bR O H->Y c H
def tS(f:DS->Option Fl):TS:=fun Dn Z H=>∃F S,cV K B O F H Z S/\kZ K B O Y Dn (f S)
end
structure DE(X:Cx)(B O:Hp)(Y:Addr->Hp->Prop)(e:Expr)(f:DS->M VR):Prop where
 mk::
 h:PE X e (tE X.K B O Y f)
structure DF(X:Cx)(B O:Hp)(Y:Addr->Hp->Prop)(e:Expr)(f:DS->M (List D)):Prop where
 mk::
 h:PE X e (tF X.K B O Y f)
structure DT(X:Cx)(B O:Hp)(Y:Addr->Hp->Prop)(e:Expr)(f:DS->M Bool):Prop where
 mk::
 h:PT X e (tT X.K B O Y f)
structure DW(X:Cx)(B O:Hp)(Y:Addr->Hp->Prop)(e:Expr)(f:DS->M Bool):Prop where
 mk::
 h:PW X e (tT X.K B O Y f)
structure DA(X:Cx)(B O:Hp)(Y:Addr->Hp->Prop)(es:List Expr)(f:DS->M (List VR)):Prop where
 mk::
 h:PA X es (tA X.K B O Y f)
structure zO(X:Cx)(B O:Hp)(Y:Addr->Hp->Prop)(st:Stmt)(f:DS->Option Fl):Prop where
 mk::
 h:PS X st (tS X.K B O Y f)
structure OK(X:Cx)(B O:Hp)(Y:Addr->Hp->Prop)(st:List Stmt)(f:DS->Option Fl):Prop where
 mk::
 h:LY X st (tS X.K B O Y f)
variable{Y:Addr->Hp->Prop}{Q1:VK}{β:Type}
section
variable{F:Hp}{Q:VK}
theorem RR.step{r:VR}(e:bZ F H F' H')(h:RR K O F H r v):RR K O F' H' r v:=by
 cases r with
 |ok d=>exact jS.mono e.ff h
 |bor l=>obtain⟨a,c,j,i,g,b,f⟩:=h;exact⟨a,c,j,i,e.new a (.lst c) b g,e.hh _ _ b,f.mono e.ff⟩
 |bod ks l=>obtain⟨a,c,j,i,g,b,f⟩:=h;obtain⟨m,z,_⟩:=b.mo;exact⟨a,c,j,i,e.new a m z g,b.mono e.ff (fun u z=>e.hh _ _ z),f.mono e.ff⟩
theorem dD.step{x:M VR}(e:bZ F H F' H')(h:dD K O Y F H Q x):dD K O Y F' H' Q x:=by
 match x,h with
 |some (.error c),h=>exact fun a s=>h a (e.hh.trans s)
 |some (.ok r),h=>exact fun v b a e2 q=>h v b a (e.trans e2) q
theorem vQ.step{x:M (List D)}(e:bZ F H F' H')(h:vQ K Y F H Q x):vQ K Y F' H' Q x:=by
 match x,h with
 |some (.error c),h=>exact fun b s=>h b (e.hh.trans s)
 |some (.ok l),h=>exact fun a d k b e2 j i g f=>h a d k b (e.trans e2) (e.hh.free j) i g f
theorem rA.step{x:M Bool}{Q:Bool->Hp->Prop}(e:bZ F H F' H')(h:rA Y F H Q x):rA Y F' H' Q x:=by
 match x,h with
 |some (.error c),h=>exact fun a s=>h a (e.hh.trans s)
 |some (.ok b),h=>exact fun d a e2=>h d a (e.trans e2)
theorem nZ.step{x:M (List VR)}{Q:List V->Hp->Prop}(e:bZ F H F' H')(h:nZ K O Y F H Q x):nZ K O Y F' H' Q x:=by
 match x,h with
 |some (.error c),h=>exact fun a s=>h a (e.hh.trans s)
 |some (.ok r),h=>exact fun v b a e2 q=>h v b a (e.trans e2) q
theorem dD.bind{x:M VR}{k:VR->M β}{G:Hp->Hp->M β->Prop}(gs:∀{F H F' H':Hp} {z:M β},bZ F H F' H'->G F H z->G F' H' z)(d:∀F H,G F H none->False)(f:∀F H c,G F H (some (.error c))->∀H',bR H H'->Y c H')(h:G F H (mb x k))(b:∀r v a H1,bZ F H a H1->RR K O a H1 r v->G a H1 (k r)->Q1 v H1):dD K O Y F H Q1 x:=by
 match x,h with
 |none,h=>exact d _ _ h|some (.error c),h=>exact f _ _ c h|some (.ok r),h=>exact fun v a H1 e q=>b r v a H1 e q (gs e h)
theorem dD.mb{x:M VR}{k:VR->M VR}(h:dD K O Y F H Q (mb x k))(b:∀r v a H1,bZ F H a H1->RR K O a H1 r v->dD K O Y a H1 Q (k r)->Q1 v H1):dD K O Y F H Q1 x:=
 dD.bind (G:=fun F H z=>dD K O Y F H Q z) (fun e h=>h.step e) (fun _ _ h=>h) (fun _ _ _ h=>h) h b
theorem dD.mbT{x:M VR}{k:VR->M Bool}{Q:Bool->Hp->Prop}(h:rA Y F H Q (PF.mb x k))(b:∀r v a H1,bZ F H a H1->RR K O a H1 r v->rA Y a H1 Q (k r)->Q1 v H1):dD K O Y F H Q1 x:=
 dD.bind (G:=fun F H z=>rA Y F H Q z) (fun e h=>h.step e) (fun _ _ h=>h) (fun _ _ _ h=>h) h b
theorem dD.mbA{x:M VR}{k:VR->M (List VR)}{Q:List V->Hp->Prop}(h:nZ K O Y F H Q (PF.mb x k))(b:∀r v a H1,bZ F H a H1->RR K O a H1 r v->nZ K O Y a H1 Q (k r)->Q1 v H1):dD K O Y F H Q1 x:=
 dD.bind (G:=fun F H z=>nZ K O Y F H Q z) (fun e h=>h.step e) (fun _ _ h=>h) (fun _ _ _ h=>h) h b
theorem dD.mbF{x:M VR}{k:VR->M (List D)}(h:vQ K Y F H Q (PF.mb x k))(b:∀r v a H1,bZ F H a H1->RR K O a H1 r v->vQ K Y a H1 Q (k r)->Q1 v H1):dD K O Y F H Q1 x:=
 dD.bind (G:=fun F H z=>vQ K Y F H Q z) (fun e h=>h.step e) (fun _ _ h=>h) (fun _ _ _ h=>h) h b
theorem nZ.bind{x:M (List VR)}{b:List V->Hp->Prop}{k:List VR->M β}{G:Hp->Hp->M β->Prop}(gs:∀{F H F' H':Hp} {z:M β},bZ F H F' H'->G F H z->G F' H' z)(f:∀F H,G F H none->False)(g:∀F H c,G F H (some (.error c))->∀H',bR H H'->Y c H')(h:G F H (mb x k))(d:∀r v a H1,bZ F H a H1->JG K O a H1 r v->G a H1 (k r)->b v H1):nZ K O Y F H b x:=by
 match x,h with
 |none,h=>exact f _ _ h|some (.error c),h=>exact g _ _ c h|some (.ok r),h=>exact fun v a H1 e q=>d r v a H1 e q (gs e h)
theorem rA.bind{x:M Bool}{d:Bool->Hp->Prop}{k:Bool->M β}{G:Hp->Hp->M β->Prop}(gs:∀{F H F' H':Hp} {z:M β},bZ F H F' H'->G F H z->G F' H' z)(g:∀F H,G F H none->False)(i:∀F H c,G F H (some (.error c))->∀H',bR H H'->Y c H')(h:G F H (mb x k))(f:∀b a H1,bZ F H a H1->G a H1 (k b)->d b H1):rA Y F H d x:=by
 match x,h with
 |none,h=>exact g _ _ h|some (.error c),h=>exact i _ _ c h|some (.ok b),h=>exact fun a H1 e=>f b a H1 e (gs e h)
def RV(K:Z4)(F H:Hp):D->V->Prop
 |.lst l,v=>∃a vs,v=.ref a/\H a=some (.lst vs)/\aX K F l vs|.dic ks l,v=>∃a vs,v=.ref a/\zB K F H a ks vs/\aX K F l vs|d,v=>jS K F d v
theorem RR.rv{r:VR}(fh:bR F H)(h:RR K O F H r v):RV K F H (fS r) v:=by
 cases r with
 |bor l=>obtain⟨a,b,c,f,e,i,g⟩:=h;exact⟨a,b,c,i,g⟩
 |bod ks l=>obtain⟨a,b,c,f,e,i,g⟩:=h;exact⟨a,b,c,i,g⟩
 |ok d=>
  cases d with
  |lst l=>obtain⟨a,b,c,f,e⟩:=h;exact⟨a,b,c,fh _ _ f,e⟩
  |dic ks l=>obtain⟨a,b,c,f,e⟩:=h;exact⟨a,b,c,f.mono (bR.refl _) (fun u z=>fh _ _ z),e⟩
  |_=>exact h
theorem RR.rep{r:VR}(fh:bR F H)(h:RR K O F H r v):jS K H (fS r) v:=by
 cases r with
 |bor l=>obtain⟨a,b,f,i,g,e,c⟩:=h;exact⟨a,b,f,e,c.mono fh⟩
 |bod ks l=>obtain⟨a,b,f,i,g,e,c⟩:=h;exact⟨a,b,f,e.mono fh (fun _ z=>z),c.mono fh⟩
 |ok d=>exact jS.mono fh h
end
variable{X:Cx}{pos:Pos}{x:Str}{e:Expr}
noncomputable def aC(i:Nat):DS->M VR:=fun S=>match S[i]? with
 |some (some (.val d))=>some (.ok (.ok d))|some (some (.own l))=>some (.ok (.bor l))|some (some (.owd ks l))=>some (.ok (.bod ks l))|_=>none
theorem Ag{Q:VK}(h:tE K B O Y (aC i) Z H Q):Hq i Z H Q:=by
 obtain⟨F,S,st,o⟩:=h;unfold aC at o;cases q:S[i]? with
 |none=>rw[q]at o;exact False.elim o
 |some z=>
  cases z with
  |none=>rw[q]at o;exact False.elim o
  |some m=>
   cases m with
   |val d=>rw[q]at o;obtain⟨v,e,r⟩:=st.val i d q;exact⟨v,e,o v F H (bZ.refl st.ext.fh) r⟩
   |own l=>rw[q]at o;obtain⟨a,b,k,j,g,f,c⟩:=st.own i l q;exact⟨_,k,o _ F H (bZ.refl st.ext.fh) ⟨a,b,rfl,j,g,f,c⟩⟩
   |owd ks l=>rw[q]at o;obtain⟨a,b,k,j,g,f,c⟩:=st.owd i ks l q;exact⟨_,k,o _ F H (bZ.refl st.ext.fh) ⟨a,b,rfl,j,g,f,c⟩⟩
theorem aA(i:Nat)(c:X.N[i]? = some x:=by rfl)(b:SA X.env.scope x:=by first|exact Or.inl rfl|exact Or.inr (Or.inl rfl)|exact Or.inr (Or.inr rfl))(hd:(x==("__debug__" : Str))=false:=by decide)(a:(x==("__classdict__" : Str))=false:=by decide):DE X B O Y (.Name x pos) (aC i):=
 .mk fun U s Z H Q I h=>iU c b hd a U s Z H Q I (Ag h)
def dC(d:D):DS->M VR:=fun _=>some (.ok (.ok d))
theorem pX{d:D}(h:PE X e (tC v))(r:∀F,jS X.K F d v):DE X B O Y e (dC d):=
 .mk fun U s Z H Q I ⟨F,S,st,o⟩=>h U s Z H Q I (o v F H (bZ.refl st.ext.fh) (r F))
theorem aG{i j}:DE X B O Y (.Constant (.int i) j pos) (dC (.int i)):=pX VE fun _=>rfl
theorem pY{b j}:DE X B O Y (.Constant (.bool b) j pos) (dC (.bl b)):=pX Po fun _=>rfl
theorem DX{j}:DE X B O Y (.Constant .none j pos) (dC .non):=pX xI fun _=>rfl
theorem Kj{x j}:DE X B O Y (.Constant (.str x) j pos) (dC (.str x)):=pX Iw fun _=>rfl
def mP(f:DS->M (List D)):DS->M VR:=fun S=>mb (f S) fun l=>some (.ok (.ok (.lst l)))
theorem Nv{f:DS->M (List D)}{Q:VK}(h:tE K B O Y (mP f) Z H Q):tF K B O Y f Z H Q:=by
 obtain⟨F,S,st,o⟩:=h;refine⟨F,S,st,?_⟩;unfold mP at o;cases q:f S with
 |none=>rw[q]at o;exact False.elim o
 |some z=>
  cases z with
  |error c=>rw[q]at o;exact o
  |ok l=>
   rw[q]at o;intro a d p n e k hf hh r;refine o (.ref a) (cL p a (.lst d)) n ⟨e.ff.trans (bG hf),e.hh,fun b u z=>?_,fun b j g m=>?_⟩ ⟨a,d,rfl,aM,r.mono (bG hf)⟩
   ·by_cases i:b=a
    ·subst i;rw[aM]at z;rw[hh];exact z
    ·rw[aJ i]at z;exact e.fh b u z
   ·rw[aJ (aV g k)];exact e.new b j g m
theorem eJ{f:DS->M (List D)}(h:DF X B O Y e f):DE X B O Y e (mP f):=.mk fun U s Z H Q I q=>h.h U s Z H Q I (Nv q)
noncomputable def vr(d:Option D):M VR:=match d with
 |some d=>some (.ok (.ok d))|none=>none
noncomputable def aF(g:D->D->Option D)(fa fb:DS->M VR):DS->M VR:=fun S=>mb (fa S) fun r1=>mb (fb S) fun r2=>vr (g (fS r1) (fS r2))
def zN(K:Z4)(r:R2)(g:D->D->Option D):Prop:=∀(F H:Hp) (d1 d2 d:D) (v1 v2:V) (Q:VK),bR F H->RV K F H d1 v1->RV K F H d2 v2->g d1 d2=some d->(∀v F' H',bZ F H F' H'->jS K F' d v->Q v H')->r v1 v2 H Q
variable{c:Expr}{fa fb fc f:DS->M VR}{r r':R2}{op:CmpOp}
section
variable{a b:Expr}
theorem mI{g:D->D->Option D}{Q:VK}(m:zN K r g)(h:tE K B O Y (aF g fa fb) Z H Q):Fw r (tE K B O Y fa) (tE K B O Y fb) Z H Q:=by
 obtain⟨F,S,st,o⟩:=h;refine⟨F,S,st,dD.mb o fun i c s u e1 k l=>?_⟩;refine⟨s,S,st.step e1,dD.mb l fun f b q n e2 j a=>?_⟩;cases z:g (fS i) (fS f)with
 |none=>rw[z]at a;exact False.elim a
 |some d=>rw[z]at a;exact m q n _ _ d c b Q e2.fh (RR.rv e2.fh (RR.step e2 k)) (RR.rv e2.fh j) z fun v t p e r=>a v t p e r
theorem yO{c:Operator}{g:D->D->Option D}(d:mQ X (binaryOp c) r)(e:zN X.K r g)(i:DE X B O Y a fa)(f:DE X B O Y b fb):DE X B O Y (.BinOp a c b pos) (aF g fa fb):=
 .mk fun U s Z H Q I h=>Gk d i.h f.h U s Z H Q I (mI e h)
theorem EA{g:D->D->Option D}(c:mQ X (compareOp op) r)(e:zN X.K r g)(i:DE X B O Y a fa)(f:DE X B O Y b fb)(d:behindInMarks op b=false):DE X B O Y (.Compare a [op] [b] pos) (aF g fa fb):=
 .mk fun U s Z H Q I h=>MX c i.h f.h d U s Z H Q I (mI e h)
noncomputable def eW(f:DS->M VR):DS->M Bool:=fun S=>mb (f S) fun r=>match r with
 |.ok (.bl b)=>some (.ok b)|_=>none
theorem pJ{Q:Bool->Hp->Prop}(h:tT K B O Y (eW f) Z H Q):tE K B O Y f Z H (fun x H'=>∃k,x=.bl k/\Q k H'):=by
 obtain⟨F,S,st,o⟩:=h;refine⟨F,S,st,dD.mbT (K:=K) (O:=O) o fun r v g c e q a=>?_⟩;cases r with
 |bor l=>exact False.elim a|bod ks l=>exact False.elim a
 |ok d=>
  cases d with
  |bl b=>exact⟨b,q,a g c (bZ.refl e.fh)⟩|_=>exact False.elim a
theorem yM{g:D->D->Option D}(c:mQ X (compareOp op) r)(e:zN X.K r g)(i:DE X B O Y a fa)(f:DE X B O Y b fb)(d:behindInMarks op b=false):DT X B O Y (.Compare a [op] [b] pos) (eW (aF g fa fb)):=
 .mk fun U s Z H Q I h=>CG c i.h f.h d U s Z H Q I (mI e (pJ h))
theorem lF(h:DE X B O Y e f)(he:∀a,isTrue e X.env a=(do let v <-a;standAt e.pos;holding [v] (truthy v)):=by intro _;rfl):DT X B O Y e (eW f):=
 .mk fun U s Z H Q I q=>Ii h.h he U s Z H Q I (pJ q)
noncomputable def yS(g g':D->D->Option D)(fa fb fc:DS->M VR):DS->M VR:=fun S=>mb (fa S) fun r1=>mb (fb S) fun r2=>match g (fS r1) (fS r2)with
 |some (.bl true)=>mb (fc S) fun r3=>vr (g' (fS r2) (fS r3))
 |some (.bl false)=>some (.ok (.ok (.bl false)))|_=>none
theorem OP{g n:D->D->Option D}{Q:VK}(u:zN K r g)(m:zN K r' n)(h:tE K B O Y (yS g n fa fb fc) Z H Q) :
  TU r r' (tE K B O Y fa) (tE K B O Y fb) (tE K B O Y fc) Z H Q:=by
 obtain⟨F,S,st,o⟩:=h;refine⟨F,S,st,dD.mb o fun G q P T e1 t J=>?_⟩;refine⟨P,S,st.step e1,dD.mb J fun s i A x e2 l a=>?_⟩;have j:=(st.step e1).step e2
 match z:g (fS G) (fS s),a with
 |some (.bl true),a=>
  refine u A x _ _ _ q i _ e2.fh (RR.rv e2.fh (RR.step e2 t)) (RR.rv e2.fh l) z fun v p w b k=>⟨true,k,?_⟩;rw[Z8 rfl];refine⟨p,S,j.step b,dD.mb (dD.step b a) fun E C N L f I c=>?_⟩;cases y:n (fS s) (fS E)with
  |none=>rw[y]at c;exact False.elim c
  |some d=>rw[y]at c;exact m N L _ _ d i C Q f.fh (RR.rv f.fh (RR.step f (RR.step b l))) (RR.rv f.fh I) y fun v R M e r=>c v R M e r
 |some (.bl false),a=>refine u A x _ _ _ q i _ e2.fh (RR.rv e2.fh (RR.step e2 t)) (RR.rv e2.fh l) z fun v p w b k=>⟨false,k,?_⟩;rw[Z6 W6];exact a (.bl false) p w b rfl
theorem XZ{d:CmpOp}{g i:D->D->Option D}(j:mQ X (compareOp op) r)(e:mQ X (compareOp d) r')(l:zN X.K r g)(f:zN X.K r' i)(n:DE X B O Y a fa)(m:DE X B O Y b fb)(hc:DE X B O Y c fc)(k:lastMarks [op,d] [b,c]=false:=by with_unfolding_all rfl):DE X B O Y (.Compare a [op,d] [b,c] pos) (yS g i fa fb fc):=
 .mk fun U s Z H Q I h=>VG j e n.h m.h hc.h k U s Z H Q I (OP l f h)
end
def SU(K:Z4)(r:V->Hp->VK->Prop)(g:D->Option D):Prop:=∀(F H:Hp) (d1 d:D) (v1:V) (Q:VK),bR F H->RV K F H d1 v1->g d1=some d->(∀v F' H',bZ F H F' H'->jS K F' d v->Q v H')->r v1 H Q
def cY(g:D->Option D)(fa:DS->M VR):DS->M VR:=fun S=>mb (fa S) fun r1=>vr (g (fS r1))
variable{id:String}
section
variable{a b:Expr}
theorem wW{r:V->Hp->VK->Prop}{g:D->Option D}{Q:VK}(i:SU K r g)(h:tE K B O Y (cY g fa) Z H Q):tE K B O Y fa Z H (fun x H1=>r x H1 Q):=by
 obtain⟨F,S,st,o⟩:=h;refine⟨F,S,st,dD.mb o fun c b k H1 e1 f a=>?_⟩;cases z:g (fS c)with
 |none=>rw[z]at a;exact False.elim a
 |some d=>rw[z]at a;exact i k H1 _ d b Q e1.fh (RR.rv e1.fh f) z fun v l j e r=>a v l j e r
theorem Rh{b:UnaryOp}{r:V->Hp->VK->Prop}{g:D->Option D}(c:Ux X (unaryOp b) r)(d:SU X.K r g)(e:DE X B O Y a fa):DE X B O Y (.UnaryOp b a pos) (cY g fa):=
 .mk fun U s Z H Q I h=>Pk c e.h U s Z H Q I (wW d h)
theorem TV{r:List V->Hp->VK->Prop}{g:D->Option D}{Q:VK}(a:SU K (fun x H Q=>r [x] H Q) g)(h:tE K B O Y (cY g fa) Z H Q):Vq r (TR (tE K B O Y fa) TN) Z H Q:=wW a h
theorem Rl{p:Pos}{r:List V->Hp->VK->Prop}{g:D->Option D}(hc:iB X (.builtin id) r)(i:SU X.K (fun x H Q=>r [x] H Q) g)(b:Gl X x)(f:X.mg x=none)(d:bootBuiltins x=some (.builtin id))(j:DE X B O Y a fa)(e:x≠ "__name__" :=by decide)(c:(x==("__debug__" : Str))=false:=by decide)(he:starEach [a] X.env=(false,eval a X.env)::starEach [] X.env:=by rfl):DE X B O Y (.Call (.Name x p) [a] [] pos) (cY g fa):=
 .mk fun U s Z H Q I h=>mS hc b f d (cH j.h eM he) e c he rfl U s Z H Q I (TV i h)
theorem Gx{T:String}{p:Pos}{r:List V->Hp->VK->Prop}{g:D->Option D}(hc:iB X (.type T) r)(i:SU X.K (fun x H Q=>r [x] H Q) g)(b:Gl X x)(f:X.mg x=none)(d:bootBuiltins x=some (.type T))(j:DE X B O Y a fa)(e:x≠ "__name__" :=by decide)(c:(x==("__debug__" : Str))=false:=by decide)(he:starEach [a] X.env=(false,eval a X.env)::starEach [] X.env:=by rfl):DE X B O Y (.Call (.Name x p) [a] [] pos) (cY g fa):=
 .mk fun U s Z H Q I h=>kP hc b f d (cH j.h eM he) e c he rfl U s Z H Q I (TV i h)
noncomputable def pZ(f:DS->M Bool):DS->M Bool:=fun S=>mb (f S) fun b=>some (.ok (!b))
theorem lH{f:DS->M Bool}(h:DT X B O Y a f):DT X B O Y (.UnaryOp .Not a pos) (pZ f):=.mk fun U s Z H Q I q=>by refine Ij h.h U s Z H Q I ?_;obtain⟨F,S,st,o⟩:=q;exact⟨F,S,st,rA.bind (G:=fun F H z=>rA Y F H Q z) (fun e h=>h.step e) (fun _ _ h=>h) (fun _ _ _ h=>h) o fun b g d e c=>c g d (bZ.refl e.fh)⟩
noncomputable def YD(f:DS->M VR):DS->M VR:=fun S=>mb (f S) fun r=>match r with
 |.ok (.bl b)=>some (.ok (.ok (.bl (!b))))|_=>none
theorem Kk(h:DE X B O Y a f):DE X B O Y (.UnaryOp .Not a pos) (YD f):=.mk fun U s Z H Q I q=>by
 refine KE h.h U s Z H Q I ?_;obtain⟨F,S,st,o⟩:=q;refine⟨F,S,st,dD.mb o fun r v i g e q c=>?_⟩;cases r with
 |bor l=>exact False.elim c|bod ks l=>exact False.elim c
 |ok d=>
  cases d with
  |bl b=>exact⟨b,q,c (.bl (!b)) i g (bZ.refl e.fh) rfl⟩|_=>exact False.elim c
noncomputable def EF(f g:DS->M Bool):DS->M Bool:=fun S=>mb (f S) fun b=>if b=true then g S else some (.ok false)
noncomputable def LN(f g:DS->M Bool):DS->M Bool:=fun S=>mb (f S) fun b=>if b=true then some (.ok true)else g S
variable{rest:List Expr}
theorem tJ{f:DS->M Bool}(h:DT X B O Y a f):DW X B O Y (.BoolOp .And [a] pos) f:=⟨Bf h.h⟩
theorem rV{f:DS->M Bool}(h:DT X B O Y a f):DW X B O Y (.BoolOp .Or [a] pos) f:=⟨Ie h.h⟩
theorem yL{f g:DS->M Bool}(h:DT X B O Y a f)(j:DW X B O Y (.BoolOp .And (b::rest) pos) g):DW X B O Y (.BoolOp .And (a::b::rest) pos) (EF f g):=.mk fun i U s Z H Q I q=>by
 refine Ig h.h j.h i U s Z H Q I ?_;obtain⟨F,S,st,o⟩:=q;refine⟨F,S,st,rA.bind (G:=fun F H z=>rA Y F H Q z) (fun e h=>h.step e) (fun _ _ h=>h) (fun _ _ _ h=>h) o fun b d k e c=>?_⟩;cases b with
 |true=>rw[Z8 rfl]at c ⊢;exact⟨d,S,st.step e,c⟩|false=>rw[Z6 W6]at c ⊢;exact c d k (bZ.refl e.fh)
theorem rG{f g:DS->M Bool}(h:DT X B O Y a f)(j:DW X B O Y (.BoolOp .Or (b::rest) pos) g):DW X B O Y (.BoolOp .Or (a::b::rest) pos) (LN f g):=.mk fun i U s Z H Q I q=>by
 refine Pg h.h j.h i U s Z H Q I ?_;obtain⟨F,S,st,o⟩:=q;refine⟨F,S,st,rA.bind (G:=fun F H z=>rA Y F H Q z) (fun e h=>h.step e) (fun _ _ h=>h) (fun _ _ _ h=>h) o fun b d k e c=>?_⟩;cases b with
 |true=>rw[Z8 rfl]at c ⊢;exact c d k (bZ.refl e.fh)|false=>rw[Z6 W6]at c ⊢;exact⟨d,S,st.step e,c⟩
theorem vU{f:DS->M Bool}(h:DW X B O Y e f):DT X B O Y e f:=⟨h.h.pt⟩
noncomputable def qC(f g:DS->M VR):DS->M VR:=fun S=>mb (f S) fun r=>match r with
 |.ok (.bl true)=>g S|.ok (.bl false)=>some (.ok (.ok (.bl false)))|_=>none
noncomputable def Eb(f g:DS->M VR):DS->M VR:=fun S=>mb (f S) fun r=>match r with
 |.ok (.bl true)=>some (.ok (.ok (.bl true)))|.ok (.bl false)=>g S|_=>none
theorem rX{op}(h:DE X B O Y a f):DE X B O Y (.BoolOp op [a] pos) f:=⟨KD h.h⟩
theorem uV{g:DS->M VR}(h:DE X B O Y a f)(j:DE X B O Y (.BoolOp .And (b::rest) pos) g):DE X B O Y (.BoolOp .And (a::b::rest) pos) (qC f g):=.mk fun U s Z H Q I q=>by
 refine CJ h.h j.h U s Z H Q I ?_;obtain⟨F,S,st,o⟩:=q;refine⟨F,S,st,dD.mb o fun r v i k e q c=>?_⟩;cases r with
 |bor l=>exact False.elim c|bod ks l=>exact False.elim c
 |ok d=>
  cases d with
  |bl b=>
   cases b with
   |true=>exact⟨true,q,by rw[Z8 rfl];exact⟨i,S,st.step e,c⟩⟩|false=>exact⟨false,q,by rw[Z6 W6];exact c (.bl false) i k (bZ.refl e.fh) rfl⟩
  |_=>exact False.elim c
theorem Gy{g:DS->M VR}(h:DE X B O Y a f)(j:DE X B O Y (.BoolOp .Or (b::rest) pos) g):DE X B O Y (.BoolOp .Or (a::b::rest) pos) (Eb f g):=.mk fun U s Z H Q I q=>by
 refine Pn h.h j.h U s Z H Q I ?_;obtain⟨F,S,st,o⟩:=q;refine⟨F,S,st,dD.mb o fun r v i k e q c=>?_⟩;cases r with
 |bor l=>exact False.elim c|bod ks l=>exact False.elim c
 |ok d=>
  cases d with
  |bl b=>
   cases b with
   |true=>exact⟨true,q,by rw[Z8 rfl];exact c (.bl true) i k (bZ.refl e.fh) rfl⟩|false=>exact⟨false,q,by rw[Z6 W6];exact⟨i,S,st.step e,c⟩⟩
  |_=>exact False.elim c
end
variable{es:List Expr}{env:Env}{n:Nat}{CX:ZN}{m:List D->M D}
section
variable{fs:DS->M (List VR)}
def aL:DS->M (List VR):=fun _=>some (.ok [])
noncomputable def aD(f:DS->M VR)(fs:DS->M (List VR)):DS->M (List VR):=fun S=>mb (f S) fun r=>mb (fs S) fun rs=>some (.ok (r::rs))
theorem aI:DA X B O Y [] aL:=.mk fun p U s Z H Q I ⟨F,S,st,o⟩=>eM p U s Z H Q I (o [] F H (bZ.refl st.ext.fh) rfl)
theorem TQ{Q:List V->Hp->Prop}(h:tA K B O Y (aD f fs) Z H Q):TR (tE K B O Y f) (tA K B O Y fs) Z H Q:=by obtain⟨F,S,st,o⟩:=h;refine⟨F,S,st,dD.mbA o fun r v k m e1 c g=>?_⟩;refine⟨k,S,st.step e1,nZ.bind (G:=fun F H z=>nZ K O Y F H Q z) (fun e h=>h.step e) (fun _ _ h=>h) (fun _ _ _ h=>h) g fun l a j i e2 b d=>?_⟩;exact d (v::a) j i (bZ.refl e2.fh) ⟨v,a,rfl,RR.step e2 c,b⟩
def rK:Expr->Bool
 |.Starred _ _=>false|_=>true
theorem dY(h:rK e=true):starEach (e::es) env=(false,eval e env)::starEach es env:=by cases e<;>first|rfl|cases h
theorem aB(c:DE X B O Y e f)(b:DA X B O Y es fs)(a:rK e=true:=by rfl):DA X B O Y (e::es) (aD f fs):=
 .mk fun p U s Z H Q I h=>cH c.h b.h (dY a) p U s Z H Q I (TQ h)
noncomputable def datas:List VR->Option (List D)
 |[]=>some []|.ok d::r=>(datas r).map (d::·)|.bor _::_=>none|.bod _ _::_=>none
theorem JG.datas{F:Hp}:∀{rs:List VR} {vs:List V} {ds:List D},JG K O F H rs vs->PF.datas rs=some ds->aX K F ds vs
 |[],_,ds,h,e=>by have a:([]:List D)=ds:=Z2 e;subst a;exact h
 |.ok d::r,_,ds,h,e=>by
  obtain⟨v,t,rfl,q,h⟩:=h;unfold PF.datas at e;cases z:PF.datas r with
  |none=>rw[z]at e;cases e
  |some l=>rw[z]at e;have a:d::l=ds:=Z2 e;subst a;exact⟨v,t,rfl,q,JG.datas h z⟩
 |.bor _::_,_,ds,_,e=>by cases e
 |.bod _ _::_,_,ds,_,e=>by cases e
def big:Nat:=100000
theorem jD(h:n<=big):n<=sizeLine:=W2 h (by rw[W9];decide)
noncomputable def dS(fs:DS->M (List VR)):DS->M VR:=fun S=>mb (fs S) fun rs=>match datas rs with
 |some ds=>if ds.length<=big then some (.ok (.ok (.tup ds)))else none
 |none=>none
noncomputable def qA(fs:DS->M (List VR)):DS->M (List D):=fun S=>mb (fs S) fun rs=>match datas rs with
 |some ds=>if ds.length<=big then some (.ok ds)else none
 |none=>none
theorem cR{x1}(h:DA X B O Y es fs):DE X B O Y (.Tuple es x1 pos) (dS fs):=.mk fun U s Z H Q I q=>by
 refine VA h.h U s Z H Q I ?_;obtain⟨F,S,st,o⟩:=q;refine⟨F,S,st,nZ.bind (G:=fun F H z=>dD X.K O Y F H Q z) (fun e h=>h.step e) (fun _ _ h=>h) (fun _ _ _ h=>h) o fun g f l k e1 i a=>?_⟩;cases z:datas g with
 |none=>simp only[z]at a;exact False.elim a
 |some j=>
  simp only[z]at a;have c:=JG.datas i z;by_cases b:j.length<=big
  ·rw[Z8 b]at a;refine⟨by rw[<-c.length];exact jD b,fun p d=>?_⟩;have hf:=e1.fh.free d;exact a (.ref p) _ _ (eN e1.fh d) ⟨p,f,rfl,cA.of aM,c.mono (bG hf)⟩
  ·rw[Z6 b]at a;exact False.elim a
theorem gZ(h:DA X B O Y es fs):DF X B O Y (.List es pos) (qA fs):=.mk fun U s Z H Q I q=>by
 refine VD h.h U s Z H Q I ?_;obtain⟨F,S,st,o⟩:=q;refine⟨F,S,st,nZ.bind (G:=fun F H z=>vQ X.K Y F H Q z) (fun e h=>h.step e) (fun _ _ h=>h) (fun _ _ _ h=>h) o fun g f k l e1 i a=>?_⟩;cases z:datas g with
 |none=>simp only[z]at a;exact False.elim a
 |some j=>
  simp only[z]at a;have d:=JG.datas i z;by_cases b:j.length<=big
  ·rw[Z8 b]at a;refine⟨by rw[<-d.length];exact jD b,fun p c=>?_⟩;exact a p f k _ (kI e1.fh c) c (e1.fh.free c) aM d
  ·rw[Z6 b]at a;exact False.elim a
def SS(K:Z4)(n:Nat)(m:List D->M D):Sp:=fun vs H Q E=>∃F ds,bR F H/\LO F/\aX K F ds vs/\ds.length=n/\match m ds with
 |none=>False|some (.error c)=>∀H',bR H H'->E (.ref c) none H'|some (.ok d)=>∀v F' H',bZ F H F' H'->jS K F' d v->Q v H'
def Ex(Y:Addr->Hp->Prop):XK:=fun c _ H'=>∃a,c=.ref a/\Y a H'
structure nQ(P:Program)(w:World)(K:Z4)(mg:Str->Option Value)(base:Heap)(CX:ZN)(k:Nat)(x:Str)(n:Nat)(m:List D->M D):Prop where
 ex:∃(f:Addr) (fd:V1) (ps:List Str),mg x=some (.ref f)/\N3 K (.ref f)=true/\Binds K fd ps []/\ps.length=n/\uZ P w K mg base CX k f fd ps (SS K n m)
def mW:VR->Bool
 |.bor _=>true|.bod _ _=>true|.ok _=>false
noncomputable def aR(n:Nat)(m:List D->M D)(fs:DS->M (List VR)):DS->M VR:=fun S=>mb (fs S) fun rs=>if rs.length=n then mb (m (rs.map fS)) fun d=>if rs.any mW=true/\dU d=false then none else some (.ok (.ok d))else none
theorem JG.rep{F:Hp}(fh:bR F H):∀{rs:List VR} {vs:List V},JG K O F H rs vs->aX K H (rs.map fS) vs
 |[],_,h=>h|r::rs,_,h=>let ⟨v,t,e,q,h⟩:=h;⟨v,t,e,RR.rep fh q,JG.rep fh h⟩
theorem JG.repF{F:Hp}:∀{rs:List VR} {vs:List V},JG K O F H rs vs->rs.any mW=false->aX K F (rs.map fS) vs
 |[],_,h,_=>h|.ok d::rs,_,h,nb=>let ⟨v,t,e,q,h⟩:=h;⟨v,t,e,q,JG.repF h (by simpa [mW]using nb)⟩|.bor l::rs,_,h,nb=>by simp[mW]at nb
 |.bod ks l::rs,_,h,nb=>by simp[mW]at nb
noncomputable def IK(F H F':Hp):Hp:=fun b=>match H b with
 |some (.lst _)=>F b|some (.dK _)=>F b|some (.ext _)=>F b|_=>F' b
theorem mF(F H c:Hp)(b:Addr):((∃u,H b=some u/\((∃m:MO,u=m.ho)))/\IK F H c b=F b)\/((∀u,H b=some u->∀m:MO,u≠m.ho)/\IK F H c b=c b):=by
 unfold IK;cases z:H b with
 |none=>exact .inr ⟨fun u e=>by(cases e),rfl⟩
 |some u=>
  cases u with
  |lst a=>exact .inl ⟨⟨_,rfl,.lst a,rfl⟩,rfl⟩|dK a=>exact .inl ⟨⟨_,rfl,.dK a,rfl⟩,rfl⟩|ext a=>exact .inl ⟨⟨_,rfl,.ex a,rfl⟩,rfl⟩|_=>exact .inr ⟨fun u e=>by cases e;intro m;cases m<;>exact HO.noConfusion,rfl⟩
theorem bZ.back{F:Hp}{d:D}(fh:bR F H)(e:bZ H H F' H')(r:jS K F' d v)(hd:dU d=true):∃c,bZ F H c H'/\jS K c d v:=by
 refine⟨IK F H F',⟨fun b o q=>?_,e.hh,fun b o q=>?_,fun b g j k=>?_⟩,?_⟩
 ·rcases mF F H F' b with⟨_,z⟩|⟨_,z⟩
  ·rw[z];exact q
  ·rw[z];exact e.ff b _ (fh b o q)
 ·rcases mF F H F' b with⟨_,z⟩|⟨_,z⟩
  ·rw[z]at q;exact e.hh b o (fh b o q)
  ·rw[z]at q;exact e.fh b o q
 ·rcases mF F H F' b with⟨_,z⟩|⟨f,z⟩
  ·rw[z];exact k
  ·exact absurd rfl (f _ j g)
 ·refine jS.impT (fun a l h=>?_) hd r;have keep:∀o:HO,(∀m:MO,o≠m.ho)->F' a=some o->IK F H F' a=some o:=fun o i q=>by
   rcases mF F H F' a with⟨⟨u,f,hh⟩,z⟩|⟨_,z⟩
   ·have:=e.ff a _ f;rw[q]at this;have:=Z2 this;subst this;obtain⟨m,hh⟩:=hh;exact absurd hh (i m)
   ·rw[z];exact q
  rcases h with(h|⟨o,h⟩)|h
  ·exact .inl (.inl (keep _ (fun m=>by cases m<;>exact HO.noConfusion) h))
  ·exact .inl (.inr ⟨o,keep _ (fun m=>by cases m<;>exact HO.noConfusion) h⟩)
  ·exact .inr h
theorem Dz{k:Nat}{p:Pos}(Fn:nQ X.prog X.w X.K X.mg X.base CX k x n m)(P:hU k X.A)(V:Gl X x)(N:uY CX X (Ex Y))(W:DA X B O Y (e::es) fs)(C:(x==("__debug__" : Str))=false:=by decide)(he:starEach (e::es) X.env=(false,eval e X.env)::starEach es X.env:=by rfl)(A:(backTo pos (starEach es X.env)).any (·.1)=false:=by rfl) :
  DE X B O Y (.Call (.Name x p) (e::es) [] pos) (aR n m fs):=.mk fun U s Z H Q I q=>by
 obtain⟨f,fd,ps,R,T,t,hl,G⟩:=Fn.ex;refine Bt G P V R T t .nil N W.h C he A U s Z H Q I ?_;obtain⟨F,S,st,o⟩:=q;refine⟨F,S,st,nZ.bind (G:=fun F H z=>dD X.K O Y F H Q z) (fun e h=>h.step e) (fun _ _ h=>h) (fun _ _ _ h=>h) o fun b L D u e1 J a=>?_⟩;show SS X.K n m (L++[]) u Q (Ex Y);rw[Pv];by_cases l:b.length=n
 ·rw[Z8 l]at a;by_cases t:b.any mW=true
  ·refine⟨u,b.map fS,bR.refl _,(st.step e1).lo.mono e1.fh,JG.rep e1.fh J,by rw[Y9];exact l,?_⟩;cases z:m (b.map fS)with
   |none=>rw[z]at a;exact a
   |some y=>
    rw[z]at a;cases y with
    |error c=>exact fun i h=>⟨c,rfl,a i h⟩
    |ok d=>
     intro v K i e r;have g:dD X.K O Y D u Q (if b.any mW=true/\dU d=false then none else some (.ok (.ok d))):=a;cases w:dU d with
     |false=>rw[Z8 ⟨t,w⟩]at g;exact False.elim g
     |true=>rw[Z6 (by rw[w];simp)]at g;obtain⟨E,e',M⟩:=bZ.back e1.fh e r w;exact g v E i e' M
  ·have j:b.any mW=false:=(by simpa using t);refine⟨D,b.map fS,e1.fh,(st.step e1).lo,JG.repF J j,by rw[Y9];exact l,?_⟩;cases z:m (b.map fS)with
   |none=>rw[z]at a;exact a
   |some y=>
    rw[z]at a;cases y with
    |error c=>exact fun i h=>⟨c,rfl,a i h⟩
    |ok d=>intro v K i e r;have g:dD X.K O Y D u Q (if b.any mW=true/\dU d=false then none else some (.ok (.ok d))):=a;rw[Z6 (by rw[j];simp)]at g;exact g v K i e r
 ·rw[Z6 l]at a;exact False.elim a
end
variable{st:Stmt}{Dn:Ends}{pos' apos cpos p2:Pos}{ix:Expr}
section
variable{rest:List Stmt}
def dP:DS->Option Fl:=fun S=>some (.next S)
def aU(g h:DS->Option Fl):DS->Option Fl:=fun S=>match g S with
 |some (.next S')=>h S'|x=>x
theorem cX:OK X B O Y [] dP:=.mk fun U s Z H a I ⟨F,S,st,o⟩=>MT U s Z H a I (o Z F H st)
theorem aE{g h:DS->Option Fl}(f:zO X B O Y st g)(e:OK X B O Y rest h):OK X B O Y (st::rest) (aU g h):=.mk fun U s Z H i I q=>by
 refine GB f.h e.h U s Z H i I ?_;obtain⟨F,S,b,o⟩:=q;refine⟨F,S,b,?_⟩;unfold aU at o;cases z:g S with
 |none=>rw[z]at o;exact False.elim o
 |some y=>
  rw[z]at o;cases y with
  |next a=>exact fun σ' F' H' sk'=>⟨F',a,sk',o⟩
  |ret d=>exact o|brk a=>exact o|cont a=>exact o|ex c=>exact o
theorem aK{g:DS->Option Fl}(a:zO X B O Y st g):OK X B O Y [st] g:=⟨MS a.h⟩
noncomputable def eZ(x:M VR)(k:VR->Option Fl):Option Fl:=match x with
 |none=>none|some (.error c)=>some (.ex c)|some (.ok r)=>k r
theorem iH{F:Hp}{S:DS}{x:M VR}{k:VR->Option Fl}{Q:VK}(b:cV K B O F H Z S)(o:kZ K B O Y Dn (eZ x k))(h:∀r v a H1,bZ F H a H1->RR K O a H1 r v->kZ K B O Y Dn (k r)->Q v H1):dD K O Y F H Q x:=by
 match x,o with
 |some (.error c),o=>exact fun d s=>o d (b.ext.hh.trans s)
 |some (.ok r),o=>exact fun v a H1 e q=>h r v a H1 e q o
noncomputable def bN(i:Nat)(f:DS->M VR):DS->Option Fl:=fun S=>eZ (f S) fun r=>match r with
 |.ok d=>some (.next (S.set i (some (.val d))))|_=>none
theorem bA(i:Nat)(j:X.N.Nodup)(he:DE X B O Y e f)(hi:X.N[i]? = some x:=by rfl)(g:Loc X.env.scope x:=by first|exact Or.inl rfl|exact Or.inr rfl)(h:swapsWith e (some (.Name x pos')) pos.line X.env=pure false:=by rfl)(hf:X.fn x=true\/X.env.scope.names.lookup x=some .local:=by first|exact .inl rfl|exact .inr rfl|assumption):zO X B O Y (.Assign [.Name x pos'] e pos) (bN i f):=.mk fun U s Z H n I q=>by
 refine rM j hi g he.h h hf U s Z H n I ?_;obtain⟨F,S,a,o⟩:=q;refine⟨F,S,a,iH a o fun r v m k e1 c b=>?_⟩;cases r with
 |bor l=>exact False.elim b|bod ks l=>exact False.elim b|ok d=>exact b _ m k ((a.step e1).setVal c i)
noncomputable def yQ(i:Nat)(f:DS->M (List D)):DS->Option Fl:=fun S=>match f S with
 |none=>none|some (.error c)=>some (.ex c)|some (.ok l)=>some (.next (S.set i (some (.own l))))
theorem pV(i:Nat){f:DS->M (List D)}(h:X.N.Nodup)(he:DF X B O Y e f)(hi:X.N[i]? = some x:=by rfl)(d:Loc X.env.scope x:=by first|exact Or.inl rfl|exact Or.inr rfl)(g:swapsWith e (some (.Name x pos')) pos.line X.env=pure false:=by rfl)(hf:X.fn x=true\/X.env.scope.names.lookup x=some .local:=by first|exact .inl rfl|exact .inr rfl|assumption):zO X B O Y (.Assign [.Name x pos'] e pos) (yQ i f):=.mk fun U s Z H u I q=>by
 refine rM h hi d he.h g hf U s Z H u I ?_;obtain⟨F,S,b,o⟩:=q;refine⟨F,S,b,?_⟩;unfold yQ at o;cases z:f S with
 |none=>rw[z]at o;exact False.elim o
 |some y=>
  rw[z]at o;cases y with
  |error c=>exact fun r s=>o r (b.ext.hh.trans s)
  |ok l=>exact fun a v t p e1 n m k j=>o _ t p (b.setOwn e1 n m k j i)
noncomputable def qB(c:DS->M Bool)(g h:DS->Option Fl):DS->Option Fl:=fun S=>match c S with
 |none=>none|some (.error c)=>some (.ex c)|some (.ok b)=>if b=true then g S else h S
theorem Bu{F:Hp}{S:DS}{x:M Bool}{k:Bool->Option Fl}{Q:Bool->Hp->Prop}(d:cV K B O F H Z S)(o:kZ K B O Y Dn (match x with|none=>none|some (.error c)=>some (.ex c)|some (.ok b)=>k b))(h:∀b a H1,bZ F H a H1->kZ K B O Y Dn (k b)->Q b H1):rA Y F H Q x:=by
 match x,o with
 |some (.error c),o=>exact fun f s=>o f (d.ext.hh.trans s)
 |some (.ok r),o=>exact fun a H1 e=>h r a H1 e o
theorem fU{a b:List Stmt}{t:DS->M Bool}{g h:DS->Option Fl}(hc:DT X B O Y c t)(l:OK X B O Y a g)(j:OK X B O Y b h):zO X B O Y (.If c a b pos) (qB t g h):=.mk fun U s Z H m I q=>by
 refine Ph hc.h l.h j.h U s Z H m I ?_;obtain⟨F,S,d,o⟩:=q;refine⟨F,S,d,Bu (k:=fun b=>if b=true then g S else h S) d o fun b i n e f=>?_⟩;cases b with
 |true=>rw[Z8 rfl]at f ⊢;exact⟨i,S,d.step e,f⟩|false=>rw[Z6 W6]at f ⊢;exact⟨i,S,d.step e,f⟩
def cB(f:DS->M VR):DS->Option Fl:=fun S=>eZ (f S) fun r=>some (.ret (fS r))
theorem bB(he:DE X B O Y e f):zO X B O Y (.Return (some e) pos) (cB f):=.mk fun U s Z H E I q=>by
 refine UT he.h U s Z H E I ?_;obtain⟨F,S,n,o⟩:=q;refine⟨F,S,n,iH n o fun r v C A e1 p t=>?_⟩;have ex:=n.ext.trans e1;cases r with
 |ok d=>exact t v C A ex p
 |bor l=>
  obtain⟨a,i,rfl,x,c,j,w⟩:=p;refine t (.ref a) (cL C a (.lst i)) A ⟨ex.ff.trans (bG c),ex.hh,fun b u z=>?_,fun b k g y=>?_⟩ ⟨a,i,rfl,aM,w.mono (bG c)⟩
  ·by_cases h:b=a
   ·subst h;rw[aM]at z;rw[j];exact z
   ·rw[aJ h]at z;exact ex.fh b u z
  ·rw[aJ (aV g x)];exact ex.new b k g y
 |bod ks l=>
  obtain⟨a,i,rfl,x,c,j,w⟩:=p;obtain⟨m,D,_⟩:=j.mo;refine t (.ref a) (cL C a m.ho) A ⟨ex.ff.trans (bG c),ex.hh,fun b u z=>?_,fun b k g y=>?_⟩ ⟨a,i,rfl,j.mono (bG c) (fun u z=>by rw[D]at z;rw[aM];exact z),w.mono (bG c)⟩
  ·by_cases h:b=a
   ·subst h;rw[aM]at z;rw[D];exact z
   ·rw[aJ h]at z;exact ex.fh b u z
  ·rw[aJ (aV g x)];exact ex.new b k g y
noncomputable def wJ(i:Nat)(f:DS->M VR):DS->Option Fl:=fun S=>match S[i]? with
 |some (some (.own l))=>eZ (f S) fun r=>match r with
  |.ok d=>if l.length<big then some (.next (S.set i (some (.own (l++[d])))))else none
  |_=>none
 |_=>none
theorem RE(i:Nat){p:Pos}(he:DE X B O Y e f)(P:X.N[i]? = some x:=by rfl)(N:SA X.env.scope x:=by first|exact Or.inl rfl|exact Or.inr (Or.inl rfl)|exact Or.inr (Or.inr rfl))(hd:(x==("__debug__" : Str))=false:=by decide)(y:(x==("__classdict__" : Str))=false:=by decide)(c:attributeBase (.Name x p) "append" X.env (eval (.Name x p) X.env)=eval (.Name x p) X.env:=by rfl)(h:((backTo cpos (starEach [e] X.env)).all (fun x=>!x.1)&&(backToKw cpos (keywordEach [] X.env)).all (fun x=>x.1.isSome)&&decide (([e]:List Expr).length+([]:List Keyword).length+(if([]:List Keyword).isEmpty then 0 else 1)<30))=true:=by rfl)(b:(apos.endLine==cpos.line)=true:=by rfl)(A:starEach [e] X.env=(false,eval e X.env)::starEach [] X.env:=by rfl)(w:swapsWith (.Call (.Attribute (.Name x p) "append" apos) [e] [] cpos) none pos.line X.env=pure false:=by rfl) :
  zO X B O Y (.Expr (.Call (.Attribute (.Name x p) "append" apos) [e] [] cpos) pos) (wJ i f):=.mk fun U s Z H G I q=>by
 refine CH (Gn K8 PySem.F.slot_list_append PySem.F.type_list_append AQ (iU P N hd y) (cH he.h eM A) c h b A rfl) w U s Z H G I ?_;obtain⟨F,S,j,o⟩:=q;unfold wJ at o;have t:∃l,S[i]? = some (some (Slot.own l)):=by
  cases z:S[i]? with
  |none=>rw[z]at o;exact False.elim o
  |some J=>
   cases J with
   |none=>rw[z]at o;exact False.elim o
   |some L=>
    cases L with
    |val d=>rw[z]at o;exact False.elim o|owd ks l=>rw[z]at o;exact False.elim o|own l=>exact⟨l,rfl⟩
 ·obtain⟨l,z⟩:=t;rw[z]at o;obtain⟨a,K,C,h2,h3,Q,W⟩:=j.own i l z;refine⟨.ref a,C,.inl ⟨rfl,K,iA.of Q⟩,F,S,j,iH j o fun r v V H1 e1 M n=>?_⟩;cases r with
  |bor l=>exact False.elim n|bod ks l=>exact False.elim n
  |ok d=>
   have k:kZ X.K B O Y G (if l.length<big then some (.next (S.set i (some (.own (l++[d])))))else none):=n;by_cases u:l.length<big
   ·rw[Z8 u]at k;have g:=j.step e1;obtain⟨E,m,g1,g2,g3,R,D⟩:=g.own i l z;have T:E=a:=(by rw[C]at g1;simpa using g1.symm);subst T;refine⟨E,m,v,rfl,rfl,R,X8 (by rw[<-D.length];exact u) (jD (Z5 _)),?_⟩;exact k Z V _ (g.mut z g1 (D.append (.one M)))
   ·rw[Z6 u]at k;exact False.elim k
noncomputable def mO(i:Nat)(g f:DS->M VR):DS->Option Fl:=fun S=>match S[i]? with
 |some (some (.own l))=>eZ (f S) fun r=>match r with
  |.ok d=>eZ (g S) fun r2=>match r2 with
   |.ok (.int k)=>match FE l.length k with
    |some j=>some (.next (S.set i (some (.own (l.set j d)))))|none=>none
   |_=>none
  |_=>none
 |_=>none
theorem lI(i:Nat){p:Pos}{g:DS->M VR}(w:DE X B O Y ix g)(he:DE X B O Y e f)(R:X.N[i]? = some x:=by rfl)(N:SA X.env.scope x:=by first|exact Or.inl rfl|exact Or.inr (Or.inl rfl)|exact Or.inr (Or.inr rfl))(hd:(x==("__debug__" : Str))=false:=by decide)(A:(x==("__classdict__" : Str))=false:=by decide) (Q:∀v,assign (.Subscript (.Name x p) ix p2) X.env v=(do
   let ov <-holding [v] (eval (.Name x p) X.env)
   let iv <-holding [v,ov] (eval ix X.env)
   standAt p2
   holding [v,ov,iv] (setItem ov iv v)
   release [v,ov,iv] []):=by intro _;rfl) (P:swapsWithSole [.Subscript (.Name x p) ix p2] e pos.line X.env=pure false:=by rfl) (hw:swappedStores [.Subscript (.Name x p) ix p2] e X.env=pure none:=by rfl) (m:(assignEach [.Subscript (.Name x p) ix p2] X.env).map (·.2)=[assign (.Subscript (.Name x p) ix p2) X.env]:=by rfl) :
  zO X B O Y (.Assign [.Subscript (.Name x p) ix p2] e pos) (mO i g f):=.mk fun U s Z H Dn I q=>by
 refine Il he.h (Iv (iU R N hd A) w.h UC Q) P hw m U s Z H Dn I ?_;obtain⟨F,S,t,o⟩:=q;unfold mO at o;cases z:S[i]? with
 |none=>rw[z]at o;exact False.elim o
 |some E=>
  cases E with
  |none=>rw[z]at o;exact False.elim o
  |some G=>
   cases G with
   |val d=>rw[z]at o;exact False.elim o|owd ks l=>rw[z]at o;exact False.elim o
   |own l=>
    rw[z]at o;refine⟨F,S,t,iH t o fun r v F1 H1 e1 L u=>?_⟩;cases r with
    |bor l=>exact False.elim u|bod ks l=>exact False.elim u
    |ok d=>
     have b:=t.step e1;obtain⟨a,vs,m,h2,h3,h4,h5⟩:=b.own i l z;refine⟨.ref a,m,F1,S,b,iH b u fun J v2 F2 H2 e2 K c=>?_⟩;cases J with
     |bor l=>exact False.elim c|bod ks l=>exact False.elim c
     |ok W=>
      cases W with
      |int k=>
       cases y:FE l.length k with
       |none=>simp only[y]at c;exact False.elim c
       |some j=>simp only[y]at c;have h:=b.step e2;obtain⟨D,n,g1,g2,g3,T,C⟩:=h.own i l z;have V:D=a:=(by rw[m]at g1;simpa using g1.symm);subst V;refine⟨D,n,k,j,rfl,K,T,by rw[<-C.length];exact y,?_⟩;exact c Z F2 _ (h.mut z g1 (aX.set (jS.mono e2.ff L) j C))
      |_=>exact False.elim c
end
structure jF(K:Z4)(J:It)(Fb:Hp)(ds:List D):Prop where
 go:∀(i:Nat) (F H:Hp),i<ds.length->bR Fb F->bR F H->J.go i H
 yld:∀(i:Nat) (F H:Hp) (x:V) (H':Hp),bR Fb F->bR F H->J.yld i H x H'->∀d,ds[i]? = some d->∃F',bZ F H F' H'/\jS K F' d x
 stop:∀(i:Nat) (F H:Hp),ds.length<=i->bR Fb F->bR F H->J.stop i H
section
variable(K:Z4)(B O:Hp)(Y:Addr->Hp->Prop)
def mU(F H:Hp)(R:It->Hp->Prop):M (List D)->Prop
 |none=>False|some (.error c)=>∀H',bR H H'->Y c H'|some (.ok ds)=>∀J F' H',bZ F H F' H'->jF K J F' ds->R J H'
def tI(f:DS->M (List D)):TI:=fun Z H R=>∃F S,cV K B O F H Z S/\mU K Y F H R (f S)
def tG(set:D->DS->Option DS):TG:=fun v Z H Q=>∃F S d,cV K B O F H Z S/\jS K F d v/\match set d S with
 |none=>False|some S'=>∀σ' F' H',bZ F H F' H'->cV K B O F' H' σ' S'->Q σ' H'
def tGs(set:List D->DS->Option DS):Ha:=fun vs Z H Q=>∃F S ds,cV K B O F H Z S/\aX K F ds vs/\match set ds S with
 |none=>False|some S'=>∀σ' F' H',bZ F H F' H'->cV K B O F' H' σ' S'->Q σ' H'
end
structure DI(X:Cx)(B O:Hp)(Y:Addr->Hp->Prop)(tg it:Expr)(f:DS->M (List D)):Prop where
 mk::
 h:PI X tg it (tI X.K B O Y f)
structure DG(X:Cx)(B O:Hp)(tg:Expr)(set:D->DS->Option DS):Prop where
 mk::
 h:PG X tg (tG X.K B O set)
structure Va(X:Cx)(B O:Hp)(ts:List Expr)(set:List D->DS->Option DS):Prop where
 mk::
 h:Sq X ts (tGs X.K B O set)
variable{tg:Expr}{tl:TE}{Fb:Hp}{ds:List D}
def aQ(i:Nat):D->DS->Option DS:=fun d S=>some (S.set i (some (.val d)))
theorem dM(i:Nat)(c:X.N.Nodup)(hi:X.N[i]? = some x:=by rfl)(b:Loc X.env.scope x:=by first|exact Or.inl rfl|exact Or.inr rfl)(hf:X.fn x=true\/X.env.scope.names.lookup x=some .local:=by first|exact .inl rfl|exact .inr rfl|assumption):DG X B O (.Name x pos) (aQ i):=.mk fun U s Z H v u Q I r h=>by refine MW c hi b hf U s Z H v u Q I r ?_;obtain⟨F,S,d,a,q,o⟩:=h;exact o _ F H (bZ.refl a.ext.fh) (a.setVal q i)
def gL:List D->DS->Option DS:=fun ds S=>match ds with
 |[]=>some S|_::_=>none
def bE(s:D->DS->Option DS)(r:List D->DS->Option DS):List D->DS->Option DS:=fun ds S=>match ds with
 |[]=>none
 |d::ds=>match s d S with
  |none=>none|some S'=>r ds S'
theorem gI:Va X B O [] gL:=.mk fun U s Z H c e Q I r h=>by
 refine Bp U s Z H c e Q I r ?_;obtain⟨F,S,b,a,q,o⟩:=h;cases b with
 |nil=>exact⟨q,o Z F H (bZ.refl a.ext.fh) a⟩|cons d b=>exact False.elim o
theorem bO(i:Nat){p:Pos}{b:List D->DS->Option DS}(m:X.N.Nodup)(n:Va X B O es b)(hi:X.N[i]? = some x:=by rfl)(k:Loc X.env.scope x:=by first|exact Or.inl rfl|exact Or.inr rfl)(hf:X.fn x=true\/X.env.scope.names.lookup x=some .local:=by first|exact .inl rfl|exact .inr rfl|assumption)(l:(assignEach (.Name x p::es) X.env).map (·.2)=assign (.Name x p) X.env::(assignEach es X.env).map (·.2):=by rfl):Va X B O (.Name x p::es) (bE (aQ i) b):=.mk fun U s Z H c e Q I r h=>by
 refine UZ (MW m hi k hf) n.h l U s Z H c e Q I r ?_;obtain⟨F,S,a,f,q,o⟩:=h;cases a with
 |nil=>exact False.elim o
 |cons d a=>obtain⟨v,t,rfl,j,g⟩:=q;exact⟨v,t,rfl,F,_,a,f.setVal j i,g,o⟩
noncomputable def gK(n:Nat)(s:List D->DS->Option DS):D->DS->Option DS:=fun d S=>match d with
 |.tup l=>if l.length=n then s l S else none
 |_=>none
theorem jA{k:Nat}{c:List D->DS->Option DS}(hc:X.calm=true)(h:Va X B O es c)(m:(assignEach es X.env).length=n:=by rfl)(e:(assignEach es X.env).findIdx? (·.1)=none:=by rfl) :
  DG X B O (.Tuple es k pos) (gK n c):=.mk fun U s Z H v u Q I r q=>by
 refine Iu hc h.h m e U s Z H v u Q I r ?_;obtain⟨F,S,d,g,q,o⟩:=q;cases d with
 |non=>exact False.elim o|bl _=>exact False.elim o|int _=>exact False.elim o|str _=>exact False.elim o|lst _=>exact False.elim o|scr _=>exact False.elim o|dic _ _=>exact False.elim o
 |tup l=>
  obtain⟨a,j,rfl,ht,i⟩:=q;have b:(match (if l.length=n then c l S else none)with|none=>False|some p=>∀σ' F' H',bZ F H F' H'->cV X.K B O F' H' σ' p->Q σ' H'):=o;by_cases f:l.length=n
  ·rw[Z8 f]at b;exact⟨a,j,rfl,cA.same g.ext.fh ht,by rw[<-i.length];exact f,F,S,l,g,i,b⟩
  ·rw[Z6 f]at b;exact False.elim b
def Xy(K:Z4)(tl:TE):TI:=fun Z H R=>tl Z H fun x H1=>∃a,x=.ref a/\(((∃xs,iA K H1 a xs)/\R (Ze K a) H1)\/((∃xs,cA K H1 a xs)/\R (Zd K a) H1))
theorem Ip{l:Expr}(n:PE X l tl):PI X tg l (Xy X.K tl):=by
 intro U s Z H R I h;refine eL (n U s Z H _ I h) fun v c ⟨x,H1,I1,r1,f⟩=>?_;obtain⟨a,e,f⟩:=f;subst e;cases r1;rcases f with⟨⟨j,g⟩,q⟩|⟨⟨j,g⟩,q⟩
 ·obtain⟨d,k,p,m⟩:=I1.list g;refine wpAny_pyIter_list p.isList ?_;refine⟨c.heap.objs.size,[c.heap.objs.size],_,_,H1,rfl,I1.kept (t':=c.toks) fun b o e=>Z3 _ e,ON a _,⟨_,X9 _ rfl,rfl,rfl⟩,fun b i=>?_,q⟩;have e:b=c.heap.objs.size:=(by simpa using i);subst e;exact I1.fpOk (Z5 _) (I1.hok.fresh (Z5 _))
 ·obtain⟨d,k,p,m⟩:=I1.tuple g;refine KF (show c.heap.IsTuple a d.toArray from p) ?_;refine⟨c.heap.objs.size,[c.heap.objs.size],_,_,H1,rfl,I1.kept (t':=c.toks) fun b o e=>Z3 _ e,JJ a _,⟨_,X9 _ rfl,rfl,rfl⟩,fun b i=>?_,q⟩;have e:b=c.heap.objs.size:=(by simpa using i);subst e;exact I1.fpOk (Z5 _) (I1.hok.fresh (Z5 _))
noncomputable def items:VR->Option (List D)
 |.ok (.tup l)=>some l|.ok (.lst l)=>some l|.ok (.scr l)=>some (l.map .int)|_=>none
noncomputable def iQ(f:DS->M VR):DS->M (List D):=fun S=>mb (f S) fun r=>match items r with
 |some l=>some (.ok l)|none=>none
theorem jF.ofL(h:iA K Fb a vs)(r:aX K Fb ds vs):jF K (Ze K a) Fb ds where
 go:=fun i F H hi e1 e2=>⟨vs,vs[i]'(by rw[<-r.length];exact hi),(e1.trans e2).seq h,by simp[<-r.length,hi]⟩
 yld:=fun i F H x f e1 e2 y d hd=>by obtain⟨e,y⟩:=y;subst e;obtain⟨v,c,b⟩:=r.get hd;have:=y vs ((e1.trans e2).seq h);rw[c]at this;cases this;exact⟨F,bZ.refl e2,b.mono e1⟩
 stop:=fun i F H hi e1 e2=>⟨vs,(e1.trans e2).seq h,by rw[<-r.length];exact hi⟩
theorem jF.ofT(h:cA K Fb a vs)(r:aX K Fb ds vs):jF K (Zd K a) Fb ds where
 go:=fun i F H hi e1 e2=>⟨vs,vs[i]'(by rw[<-r.length];exact hi),cA.same (e1.trans e2) h,by simp[<-r.length,hi]⟩
 yld:=fun i F H x f e1 e2 y d hd=>by obtain⟨e,y⟩:=y;subst e;obtain⟨v,c,b⟩:=r.get hd;have:=y vs (cA.same (e1.trans e2) h);rw[c]at this;cases this;exact⟨F,bZ.refl e2,b.mono e1⟩
 stop:=fun i F H hi e1 e2=>⟨vs,cA.same (e1.trans e2) h,by rw[<-r.length];exact hi⟩
theorem kN:∀l:List Int,aX K H (l.map D.int) (l.map V.int)
 |[]=>rfl|i::l=>⟨_,_,rfl,rfl,kN l⟩
theorem kA(h:DE X B O Y e f):DI X B O Y tg e (iQ f):=.mk fun U s Z H R I q=>by
 refine Ip h.h U s Z H R I ?_;obtain⟨F,S,p,o⟩:=q;refine⟨F,S,p,dD.bind (G:=fun F H z=>mU X.K Y F H R z) (fun{F H F' H' z} e h=>?_) (fun _ _ h=>h) (fun _ _ _ h=>h) o fun r v n m e1 j b=>?_⟩
 ·match z,h with
  |some (.error c),h=>exact fun k s=>h k (e.hh.trans s)
  |some (.ok r),h=>exact fun v t k e2 q=>h v t k (e.trans e2) q
 ·cases r with
  |bor l=>exact False.elim b|bod ks l=>exact False.elim b
  |ok d=>
   cases d with
   |tup l=>obtain⟨a,g,rfl,ht,i⟩:=j;exact⟨a,rfl,.inr ⟨⟨g,cA.same e1.fh ht⟩,b _ n m (bZ.refl e1.fh) (jF.ofT ht i)⟩⟩
   |lst l=>obtain⟨a,g,rfl,ht,i⟩:=j;exact⟨a,rfl,.inl ⟨⟨g,iA.of (e1.fh _ _ ht)⟩,b _ n m (bZ.refl e1.fh) (jF.ofL (iA.of ht) i)⟩⟩
   |scr l=>obtain⟨a,rfl,ht⟩:=j;exact⟨a,rfl,.inl ⟨⟨_,e1.fh.seq ht⟩,b _ n m (bZ.refl e1.fh) (jF.ofL ht (kN l))⟩⟩
   |_=>exact False.elim b
noncomputable def bY(lo hi:Int):List D:=(List.range (hi-lo).toNat).map fun k=>.int (lo+(k:Nat))
theorem jF.range(lo hi:Int):jF K (Lo lo (hi-lo).toNat) Fb (bY lo hi) where
 go:=fun i F H a e1 e2=>by show i<(hi-lo).toNat;unfold bY at a;rw[Y9,U7]at a;exact a
 yld:=fun i F H x h e1 e2 y d hd=>by
  obtain⟨e,y⟩:=y;subst e y;unfold bY at hd;rw[W8]at hd;cases z:(List.range (hi-lo).toNat)[i]? with
  |none=>rw[z]at hd;cases hd
  |some k=>rw[z]at hd;have f:i=k:=(by have:=List.getElem?_eq_some_iff.mp z;obtain⟨g,c⟩:=this;simpa using c);subst f;have b:D.int (lo+(i:Nat))=d:=Z2 hd;subst b;exact⟨F,bZ.refl e2,rfl⟩
 stop:=fun i F H a e1 e2=>by show(hi-lo).toNat<=i;unfold bY at a;rw[Y9,U7]at a;exact a
noncomputable def zM(j:Int):Bool:=decide (-1000000000<=j)&&decide (j<=1000000000)
theorem nX{j:Int}(h:zM j=true):-(2 ^ 62)<=j/\j<2 ^ 62:=by unfold zM at h;rw[X6]at h;have b:=of_decide_eq_true h.1;have a:=of_decide_eq_true h.2;omega
noncomputable def jK(fs:DS->M (List VR)):DS->M (List D):=fun S=>mb (fs S) fun rs=>match rs with
 |[.ok (.int j)]=>if zM j=true then some (.ok (bY 0 j))else none
 |_=>none
noncomputable def kL(fs:DS->M (List VR)):DS->M (List D):=fun S=>mb (fs S) fun rs=>match rs with
 |[.ok (.int i),.ok (.int j)]=>if zM i=true/\zM j=true then some (.ok (bY i j))else none
 |_=>none
theorem mU.step{F:Hp}{R:It->Hp->Prop}{z:M (List D)}(e:bZ F H F' H')(h:mU K Y F H R z):mU K Y F' H' R z:=by
 match z,h with
 |some (.error c),h=>exact fun a s=>h a (e.hh.trans s)
 |some (.ok r),h=>exact fun v b a e2 q=>h v b a (e.trans e2) q
theorem iZ{a:Expr}{p:Pos}{m:DS->M (List VR)}(D:Gl X "range")(C:X.mg "range" = none)(h:DA X B O Y [a] m)(A:starEach [a] X.env=[(false,eval a X.env)]:=by rfl):DI X B O Y tg (.Call (.Name "range" p) [a] [] pos) (jK m):=.mk fun U s Z H R I q=>by
 refine PY D C h.h A U s Z H R I ?_;obtain⟨F,S,u,o⟩:=q;refine⟨F,S,u,nZ.bind (G:=fun F H z=>mU X.K Y F H R z) (fun e h=>h.step e) (fun _ _ h=>h) (fun _ _ _ h=>h) o fun f E r n e1 y c=>?_⟩;have i:∃j,f=[.ok (.int j)]:=by
  cases f with
  |nil=>exact False.elim c
  |cons w f=>
   cases w with
   |bor l=>exact False.elim c|bod ks l=>exact False.elim c
   |ok d=>
    cases d with
    |int j=>
     cases f with
     |nil=>exact⟨j,rfl⟩|cons J f=>exact False.elim c
    |_=>exact False.elim c
 ·obtain⟨j,rfl⟩:=i;obtain⟨v,t,rfl,x,rfl⟩:=y;obtain rfl:v=.int j:=x;have g:mU X.K Y r n R (if zM j=true then some (.ok (bY 0 j))else none):=c;by_cases k:zM j=true
  ·rw[Z8 k]at g;have b:=nX k;have:=g (Lo 0 (j-0).toNat) r n (bZ.refl e1.fh) (jF.range 0 j);rw[Int.sub_zero]at this;exact⟨j,rfl,b.1,b.2,this⟩
  ·rw[Z6 k]at g;exact False.elim g
theorem uT{a b:Expr}{p:Pos}{r:DS->M (List VR)}(Q:Gl X "range")(P:X.mg "range" = none)(h:DA X B O Y [a,b] r)(N:starEach [a,b] X.env=[(false,eval a X.env),(false,eval b X.env)]:=by rfl)(n:starEach [b] X.env=[(false,eval b X.env)]:=by rfl) :
  DI X B O Y tg (.Call (.Name "range" p) [a,b] [] pos) (kL r):=.mk fun U s Z H R I q=>by
 refine PX Q P h.h N n U s Z H R I ?_;obtain⟨F,S,C,o⟩:=q;refine⟨F,S,C,nZ.bind (G:=fun F H z=>mU X.K Y F H R z) (fun e h=>h.step e) (fun _ _ h=>h) (fun _ _ _ h=>h) o fun f V y x e1 L c=>?_⟩;have m:∃i j,f=[.ok (.int i),.ok (.int j)]:=by
  cases f with
  |nil=>exact False.elim c
  |cons E f=>
   cases E with
   |bor l=>exact False.elim c|bod ks l=>exact False.elim c
   |ok d=>
    cases d with
    |int i=>
     cases f with
     |nil=>exact False.elim c
     |cons D f=>
      cases D with
      |bor l=>exact False.elim c|bod ks l=>exact False.elim c
      |ok T=>
       cases T with
       |int j=>
        cases f with
        |nil=>exact⟨i,j,rfl⟩|cons r3 f=>exact False.elim c
       |_=>exact False.elim c
    |_=>exact False.elim c
 ·obtain⟨i,j,rfl⟩:=m;obtain⟨v,t,rfl,K,A,W,rfl,J,rfl⟩:=L;obtain rfl:v=.int i:=K;obtain rfl:A=.int j:=J;have g:mU X.K Y y x R (if zM i=true/\zM j=true then some (.ok (bY i j))else none):=c;by_cases k:zM i=true/\zM j=true
  ·rw[Z8 k]at g;have w:=nX k.1;have u:=nX k.2;exact⟨i,j,rfl,⟨w.1,w.2,u.1,u.2⟩,g (Lo i (j-i).toNat) y x (bZ.refl e1.fh) (jF.range i j)⟩
  ·rw[Z6 k]at g;exact False.elim g
noncomputable def eR(set:D->DS->Option DS)(g:DS->Option Fl):List D->DS->Option Fl
 |[],S=>some (.next S)
 |d::r,S=>match set d S with
  |none=>none
  |some S1=>match g S1 with
   |some (.next S2)=>eR set g r S2|some (.cont S2)=>eR set g r S2|some (.brk S2)=>some (.next S2)|x=>x
noncomputable def lJ(f:DS->M (List D))(set:D->DS->Option DS)(g:DS->Option Fl):DS->Option Fl:=fun S=>match f S with
 |none=>none|some (.error c)=>some (.ex c)|some (.ok ds)=>eR set g ds S
noncomputable def eG(c:DS->M Bool)(g:DS->Option Fl):Nat->DS->Option Fl
 |0,_=>none
 |n+1,S=>match c S with
  |none=>none|some (.error e)=>some (.ex e)|some (.ok false)=>some (.next S)
  |some (.ok true)=>match g S with
   |some (.next S2)=>eG c g n S2|some (.cont S2)=>eG c g n S2|some (.brk S2)=>some (.next S2)|x=>x
section
variable{F1 F:Hp}{S:DS}
theorem cV.base(s:cV K B O F H Z S):cV K F O F H Z S:=⟨⟨bR.refl _,s.ext.hh,s.ext.fh,fun _ _ _ e=>e⟩,s.len,s.val,s.own,s.sep,s.owd,s.sepd,s.lo⟩
theorem bZ.rebase(e:bZ B O F1 H1)(s:bZ F1 O F H):bZ B O F H:=⟨e.ff.trans s.ff,s.hh,s.fh,fun a b h f=>s.new a b h (e.new a b h f)⟩
theorem cV.rebase(e:bZ B O F1 H1)(s:cV K F1 O F H Z S):cV K B O F H Z S:=⟨e.rebase s.ext,s.len,s.val,s.own,s.sep,s.owd,s.sepd,s.lo⟩
theorem kZ.rebase{x:Option Fl}(e:bZ B O F1 H1)(o:kZ K B O Y Dn x):kZ K F1 O Y Dn x:=by
 match x,o with
 |some (.next S),o=>exact fun Z F H s=>o Z F H (s.rebase e)
 |some (.brk S),o=>exact fun Z F H s=>o Z F H (s.rebase e)
 |some (.cont S),o=>exact fun Z F H s=>o Z F H (s.rebase e)
 |some (.ret d),o=>exact fun v F H s r=>o v F H (e.rebase s) r
 |some (.ex c),o=>exact o
end
variable{iter:Expr}{body:List Stmt}
theorem gC{f:DS->M (List D)}{set:D->DS->Option DS}{g:DS->Option Fl}(P:PassesOwn (model X.prog X.w) X.A X.env X.xe)(hc:X.calm=true)(hi:DI X B O Y tg iter f)(R:∀B,DG X B O tg set)(T:∀B,OK X B O Y body g)(N:∀x,foldedSetIterable iter X.env x=pure x:=by intro _;rfl):zO X B O Y (.For tg iter body [] pos) (lJ f set g):=.mk fun U s Z H l I q=>by
 obtain⟨F,S,A,o⟩:=q;have a0:∀a,PS X (.For tg iter body [] pos) (Nu (tI X.K B O Y f) (tG X.K a O set) (tS X.K a O Y g)):=fun a=>UV P hc hi.h (R a).h (T a).h N;refine UV (g:=fun v Z H Q=>∃a,tG X.K a O set v Z H Q) (tb:=fun l Z H=>∃a,tS X.K a O Y g l Z H) P hc hi.h (fun U s Z H v u Q I r ⟨a,h⟩=>(R a).h U s Z H v u Q I r h) (fun U s Z H l I ⟨a,h⟩=>(T a).h U s Z H l I h) N U s Z H l I ?_;refine⟨F,S,A,?_⟩;unfold lJ at o;cases z:f S with
 |none=>rw[z]at o;exact False.elim o
 |some y=>
  rw[z]at o;cases y with
  |error c=>exact fun k s=>o k (A.ext.hh.trans s)
  |ok b=>
   intro J a H1 e E;have ex:=A.ext.trans e;have o1:kZ X.K a O Y l (eR set g b S):=kZ.rebase ex o;refine⟨fun i m σ' k=>m=b.length-i/\i<=b.length/\∃t w,cV X.K a O t k σ' w/\kZ X.K a O Y l (eR set g (b.drop i) w),⟨b.length,by simp,Y3 _,a,S,(A.step e).base,by simpa using o1⟩,?_⟩;rintro i m σ' k ⟨rfl,hi',t,w,sk',o'⟩;by_cases j:i<b.length
   ·have hd:b.drop i=b[i]::b.drop (i+1):=O2 j;rw[hd]at o';refine .inr ⟨E.go i t k j sk'.ext.ff sk'.ext.fh,fun σ2 C=>∃G p,cV X.K a O G C σ2 p/\kZ X.K a O Y l (eR set g (b.drop (i+1)) p),fun σ2 C n=>⟨b.length-(i+1),by omega,rfl,j,n⟩,fun x C y=>?_⟩;obtain⟨G,e2,W⟩:=E.yld i t k x C sk'.ext.ff sk'.ext.fh y b[i] (Y1 j);refine⟨a,G,w,b[i],sk'.step e2,W,?_⟩;unfold eR at o';cases L:set b[i] w with
    |none=>rw[L]at o';exact o'
    |some V=>
     rw[L]at o';intro σ3 F3 H3 _ sk3;refine⟨a,F3,V,sk3,?_⟩;simp only at o';cases K:g V with
     |none=>rw[K]at o';exact o'
     |some fl=>
      rw[K]at o';cases fl with
      |next p=>exact fun σ4 F4 H4 sk4=>⟨F4,p,sk4,o'⟩
      |cont p=>exact fun σ4 F4 H4 sk4=>⟨F4,p,sk4,o'⟩
      |brk p=>exact fun σ4 F4 H4 sk4=>o' σ4 F4 H4 sk4
      |ret d=>exact o'|ex c=>exact o'
   ·have ei:i=b.length:=(by omega);subst ei;rw[B2]at o';exact .inl ⟨E.stop _ t k (Z5 _) sk'.ext.ff sk'.ext.fh,o' σ' t k sk'⟩
theorem nB(n:Nat){t:DS->M Bool}{g:DS->Option Fl}(p:PassesOwn (model X.prog X.w) X.A X.env X.xe)(hc:DT X B O Y c t)(r:OK X B O Y body g):zO X B O Y (.While c body [] pos) (eG t g n):=.mk fun U s Z H i I q=>by
 obtain⟨F,S,l,o⟩:=q;refine US p hc.h r.h U s Z H i I ?_;refine⟨fun m σ' a=>∃h e,cV X.K B O h a σ' e/\kZ X.K B O Y i (eG t g m e),⟨n,F,S,l,o⟩,?_⟩;rintro m σ1 H1 ⟨F1,S1,sk1,o1⟩;cases m with
 |zero=>exact False.elim o1
 |succ m=>
  refine⟨F1,S1,sk1,?_⟩;unfold eG at o1;cases z:t S1 with
  |none=>rw[z]at o1;exact False.elim o1
  |some y=>
   rw[z]at o1;cases y with
   |error c=>exact fun a s=>o1 a (sk1.ext.hh.trans s)
   |ok b=>
    intro k v e2;cases b with
    |false=>rw[Z6 W6];exact o1 _ k v (sk1.step e2)
    |true=>
     rw[Z8 rfl];refine⟨fun σ' a=>∃h e,cV X.K B O h a σ' e/\kZ X.K B O Y i (eG t g m e),fun σ' a w=>⟨m,M4 _,w⟩,k,S1,sk1.step e2,?_⟩;simp only at o1;cases j:g S1 with
     |none=>rw[j]at o1;exact o1
     |some u=>
      rw[j]at o1;cases u with
      |next f=>exact fun σ4 F4 H4 sk4=>⟨F4,f,sk4,o1⟩
      |cont f=>exact fun σ4 F4 H4 sk4=>⟨F4,f,sk4,o1⟩
      |brk f=>exact fun σ4 F4 H4 sk4=>o1 σ4 F4 H4 sk4
      |ret d=>exact o1|ex c=>exact o1
noncomputable def iT(N:List Str)(ds:List D):DS:=ds.map (fun d=>some (Slot.val d))++List.replicate (N.length-ds.length) none
noncomputable def fin:Option Fl->M D
 |some (.next _)=>some (.ok .non)|some (.ret d)=>some (.ok d)|some (.ex c)=>some (.error c)|_=>none
variable{N:List Str}
theorem wX{F:Hp}(fh:bR F H)(lo:LO F)(r:aX K F ds vs):cV K F H F H (L2.start N vs) (iT N ds):=by
 have o:=r.length;have b:∀(i:Nat) (f:Slot),(iT N ds)[i]? = some (some f)->∃d,ds[i]? = some d/\f=.val d:=fun i f h=>by
  unfold iT at h;by_cases hi:i<ds.length
  ·rw[Re (by simpa using hi),W8]at h;cases z:ds[i]? with
   |none=>rw[z]at h;cases h
   |some d=>rw[z]at h;have:some (Slot.val d)=some f:=Z2 h;exact⟨d,rfl,(Z2 this).symm⟩
  ·rw[R0 (by simpa using hi),K7]at h;split at h<;>cases h
 refine⟨bZ.refl fh,?_,fun i d h=>?_,fun i l h=>?_,fun i j l m a ne c t s p=>?_,fun i ks l h=>?_,fun i j ks n l m a ne c t s p=>?_,lo⟩
 ·unfold iT L2.start;rw[W3,W3,Y9,Y9,R7,R7,o]
 ·obtain⟨g,e,q⟩:=b i _ h;injection q with q;subst q;obtain⟨v,e2,k⟩:=r.get e;refine⟨v,?_,k⟩;unfold L2.start;have hi:i<vs.length:=by
   rcases W7 i vs.length with c|c
   ·exact c
   ·rw[O1 c]at e2;cases e2
  rw[Re (by simpa using hi),W8,e2];rfl
 ·obtain⟨g,e,q⟩:=b i _ h;cases q
 ·obtain⟨g,e,q⟩:=b i _ c;cases q
 ·obtain⟨g,e,q⟩:=b i _ h;cases q
 ·obtain⟨g,e,q⟩:=b i _ c;cases q
theorem BZ{Q:VK}{E:XK}(h:SS K n m vs H Q E):vs.length=n:=by obtain⟨F,a,_,_,r,l,_⟩:=h;rw[<-r.length];exact l
abbrev ZQ:Addr->Hp->Prop:=fun _ _=>False
variable{P:Program}{w:World}{mg:Str->Option Value}{qual:Str}{fd:V1}{ps:List Str}
theorem kB.d{base:Heap}{f:Addr}{k:Nat}{g:DS->Option Fl}(F:kB K x qual st f fd)(L:aY N ps (aO st))(G:∀(a:Value) (A:Around) (outer:List Env) (s:Shared) (H:Hp) (E:XK),hU k (A.deeper (envOfC qual (aO st) s.heap.objs.size f a))->∀B O:Hp,OK (nL kM P w K mg base N qual (aO st) f a A outer s H E).nox B O ZQ (gS st) g)(C:∀ds r,ds.length=ps.length->m ds=some r->∃d,r=.ok d/\fin (g (iT N ds))=some (.ok d)):uZ P w K mg base kM (k+1) f fd ps (SS K ps.length m):=by
 refine F.ok L (fun p H Q E h=>BZ h) fun a A outer s H p Q E u h=>?_;obtain⟨n,ds,fh,lo,r,l,o⟩:=h;refine⟨_,(G a A outer s H E u n H).h,n,iT N ds,wX fh lo r,?_⟩;cases z:m ds with
 |none=>rw[z]at o;exact False.elim o
 |some y=>
  rw[z]at o;obtain⟨d,rfl,e⟩:=C ds y l z;cases q:g (iT N ds)with
  |none=>rw[q]at e;cases e
  |some I=>
   rw[q]at e;cases I with
   |next S=>have b:D.non=d:=(by injection e with e;injection e);subst b;exact fun σ' j i sk=>o .non j i sk.ext rfl
   |ret J=>have b:J=d:=(by injection e with e;injection e);subst b;exact fun v j i ex t=>o v j i ex t
   |brk S=>cases e|cont S=>cases e|ex c=>injection e with e;cases e
theorem kB.fnd{base:Heap}{k:Nat}{f:Addr}(a:mg x=some (.ref f))(b:N3 K (.ref f)=true)(c:Binds K fd ps [])(G:uZ P w K mg base CX k f fd ps (SS K ps.length m)) :
  nQ P w K mg base CX k x ps.length m:=⟨f,fd,ps,a,b,c,rfl,G⟩
noncomputable def jP(cells:List (Str×Addr)):List (Str×NameKind)->List (Str×Addr)->List (Str×Addr)
 |[],acc=>acc
 |(n,k)::r,acc=>if(k==NameKind.free)=true then(match cells.lookup n with
  |some c=>jP cells r ((n,c)::acc)|none=>jP cells r acc)else jP cells r acc
theorem nN(a:List (Str×Addr)):∀(ns:List (Str×NameKind)) (acc:List (Str×Addr)),(∀p∈acc,a.lookup p.1=some p.2)->∀p∈jP a ns acc,a.lookup p.1=some p.2
 |[],acc,h=>h
 |(n,k)::r,acc,h=>by
  unfold jP;split
  ·split
   ·rename_i c e;exact nN a r _ fun p b=>by
     rcases G4.mp b with rfl|b
     ·exact e
     ·exact h p b
   ·exact nN a r acc h
  ·exact nN a r acc h
theorem qS(a:List (Str×Addr)):∀(ns:List (Str×NameKind)) (acc:List (Str×Addr)) (p:Str×Addr),p∈acc->p∈jP a ns acc
 |[],acc,p,h=>h
 |(n,k)::r,acc,p,h=>by
  unfold jP;split
  ·split
   ·exact qS a r _ p (X5 _ h)
   ·exact qS a r acc p h
  ·exact qS a r acc p h
theorem qR(a:List (Str×Addr)):∀(ns:List (Str×NameKind)) (acc:List (Str×Addr)) (x:Str) (c:Addr),(x,NameKind.free)∈ns->a.lookup x=some c->(x,c)∈jP a ns acc
 |[],_,_,_,h,_=>by simp at h
 |(n,k)::r,acc,x,c,h,e=>by
  unfold jP;rcases G4.mp h with q|q
  ·cases q;rw[Z8 (by decide),e];exact qS a r _ _ X7
  ·split
   ·split
    ·exact qR a r _ x c q e
    ·exact qR a r _ x c q e
   ·exact qR a r _ x c q e
variable{scope:Scope}
theorem zZ(h:∀x∈scope.names,x.2=.free->∃c,env.cells.lookup x.1=some c):closureFor scope env=pure (jP env.cells scope.names []):=by
 have go:∀(ns:List (Str×NameKind)) (a:List (Str×Addr)),(∀x∈ns,x.2=.free->∃c,env.cells.lookup x.1=some c)->
   (forIn ns a (fun(x:Str×NameKind) (r:List (Str×Addr))=>(do
    if(x.2==NameKind.free)=true then
     let c <-cellOf env x.1
     pure (ForInStep.yield ((x.1,c)::r))
    else pure (ForInStep.yield r):Sem (ForInStep (List (Str×Addr))))))=(pure (jP env.cells ns a):Sem (List (Str×Addr))):=by
  intro ns
  induction ns with
  |nil=>intro a _;rfl
  |cons x r g=>
   intro a d;obtain⟨n,k⟩:=x;rw[T1];unfold jP;by_cases f:(k==NameKind.free)=true
   ·obtain⟨c,e⟩:=d (n,k) X7 (by simpa using f);have i:env.cells.lookup n=some c:=e;simp only[f,V0,i,cellOf,pure_bind];exact g _ fun y b=>d y (X5 _ b)
   ·simp only[f,Y5,pure_bind];exact g _ fun y b=>d y (X5 _ b)
 have:=go scope.names [] h;unfold closureFor;simp only[bind_pure];exact this
theorem zW{cells l:List (Str×Addr)}(h:∀p∈l,cells.lookup p.1=some p.2):∀{x:Str} {c:Addr},(x,c)∈l->l.lookup x=some c:=by
 induction l with
 |nil=>intro x c q;simp at q
 |cons p l b=>
  intro x c q;obtain⟨n,d⟩:=p;rw[List.lookup_cons];by_cases e:(x==n)=true
  ·rw[e];have i:x=n:=(by simpa using e);subst i;have g:cells.lookup x=some d:=h (x,d) X7;have a:=h (x,c) q;rw[g]at a;exact a
  ·have j:(x==n)=false:=(by simpa using e);rw[j];rcases G4.mp q with z|z
   ·injection z with z1 z2;exact absurd (by simp[z1]) e
   ·exact b (fun p f=>h p (X5 _ f)) z
def lS(X:Cx)(scope:Scope):List Nat->List Str->Prop
 |[],[]=>True|j::js,x::xs=>X.N[j]? = some x/\(X.env.kindOf x=some .cell\/X.env.kindOf x=some .free)/\(x,NameKind.free)∈scope.names/\((relabel scope X.env).names.lookup x=some .cell\/(relabel scope X.env).names.lookup x=some .free)/\lS X scope js xs|_,_=>False
noncomputable def jO(X:Cx)(N':List Str)(scope:Scope)(C:Addr)(s:Shared)(H:Hp)(ex:List Addr):Cx:=
 {X with N:=N',s₀:=s,H₀:=H,env:=compEnvC scope (jP X.env.cells scope.names []) C X.env,outer:=X.stack,stack:=X.stack,ex:=ex,fn:=fun _=>false,pn:=[],xe:=fun _ _=>False}
variable{prog:Program}{A:Around}{s:Shared}{elt:Expr}{ifs:List Expr}
section
variable{R:Result->Shared->Prop}
theorem IF{a:Expr}{g d:Value}(I:Nat->Shared->Prop) (e:∀n s,I n s->wpAny (model prog w) A (pyNext g) (fun r j=>match r with
   |none=>R (.ok .next) j
   |some v=>wpAny (model prog w) A (letOwnedTupleGo a g v) (fun _ f=>wpAny (model prog w) A (assign a env v) (fun _ p=>
     wpAny (model prog w) A (forIn ifs true fun c r=>if r=true then do let ok <-isTrue c env (eval c env);pure (ForInStep.yield ok)else pure (ForInStep.yield r)) (fun ok i=>
      if ok=true then wpAny (model prog w) A (eval elt env) (fun x o=>wpAny (model prog w) A (call (.builtin "list.append") [d,x]) (fun _ l=>∃m,m<n/\I m l) (fun _ _=>False) o) (fun _ _=>False) i
      else ∃m,m<n/\I m i) (fun _ _=>False) p) (fun _ _=>False) f) (fun _ _=>False) j) (fun _ _=>False) s) (n:Nat) (h:I n s):codeAny (model prog w) A (.compLoop (.ListComp elt [⟨a,iter,ifs,0⟩] scope pos) 0 g d env) R s:=by
 refine codeAny_loop rfl I (fun n s C=>?_) n h;show wpAny _ A ((compTurn (.ListComp elt [⟨a,iter,ifs,0⟩] scope pos) 0 g d env).onRaise (fun x=>do noteFrame x env;theTreesLotGoes x)) _ _ s;refine wpAny_noted ?_;rw[compTurn_list];refine Z9 (GM (Z9 (W0 (e n s C) (fun r j t=>?_) fun _ _ b=>b.elim)));cases r with
 |none=>exact Z7 t
 |some v=>
  refine Z9 (W0 t (fun _ f k=>Z9 (W0 k (fun _ p z=>Z9 (W0 z (fun ok i q=>?_) fun _ _ b=>b.elim)) fun _ _ b=>b.elim)) fun _ _ b=>b.elim);cases ok with
  |false=>exact Z7 ⟨rfl,q⟩
  |true=>exact Z9 (Z9 (W0 q (fun x o y=>Z9 (W0 y (fun _ l u=>Z7 (Z7 ⟨rfl,u⟩)) fun _ _ b=>b.elim)) fun _ _ b=>b.elim))
end
noncomputable def AA{α:Type}(nt:Nat)(caps:List Nat)(l:List (Option α)):List (Option α):=List.replicate nt none++caps.map fun j=>(l[j]?).join
variable{nt:Nat}{caps:List Nat}
theorem gU{l:List (Option α)}{v:α}(h:(AA nt caps l)[i]? = some (some v)):∃k j,i=nt+k/\caps[k]? = some j/\l[j]? = some (some v):=by
 unfold AA at h;by_cases hi:i<nt
 ·rw[Re (by simpa using hi),K7]at h;split at h<;>cases h
 ·rw[R0 (by simpa using hi),R7,W8]at h;cases z:caps[i-nt]? with
  |none=>rw[z]at h;cases h
  |some j=>
   rw[z]at h;have a:(l[j]?).join=some v:=Z2 h;refine⟨i-nt,j,by omega,z,?_⟩;cases y:l[j]? with
   |none=>rw[y]at a;cases a
   |some o=>rw[y]at a;cases o with
    |none=>cases a
    |some u=>have:u=v:=Z2 a;rw[this]
theorem lS.get:∀{caps:List Nat} {a:List Str} {k j:Nat},lS X scope caps a->caps[k]? = some j->
  ∃x,a[k]? = some x/\X.N[j]? = some x/\(X.env.kindOf x=some .cell\/X.env.kindOf x=some .free)/\(x,NameKind.free)∈scope.names/\((relabel scope X.env).names.lookup x=some .cell\/(relabel scope X.env).names.lookup x=some .free)
 |[],[],_,_,_,e=>by simp at e
 |[],_::_,_,_,h,_=>h.elim|_::_,[],_,_,h,_=>h.elim
 |j::js,x::xs,0,i,h,e=>by obtain⟨f,d,c,b,_⟩:=h;simp at e;subst e;exact⟨x,rfl,f,d,c,b⟩
 |j::js,x::xs,k+1,i,h,e=>by obtain⟨_,_,_,_,h⟩:=h;obtain⟨y,q⟩:=lS.get h (k:=k) (by simpa using e);exact⟨y,by simpa using q.1,q.2⟩
theorem lS.length:∀{caps:List Nat} {a:List Str},lS X scope caps a->caps.length=a.length
 |[],[],_=>rfl|[],_::_,h=>h.elim|_::_,[],h=>h.elim|j::js,x::xs,h=>by simp[lS.length h.2.2.2.2]
variable{U:List (Addr×Obj)}{h':Heap}
section
variable{N':List Str}{ex:List Addr}
theorem nM{c:Addr}(h:(jP X.env.cells scope.names []).lookup x=some c):X.env.cells.lookup x=some c:=
 nN X.env.cells scope.names [] (fun p a=>by simp at a) (x,c) (P3 h)
theorem OB{c:Addr}(h:(x,NameKind.free)∈scope.names)(e:X.env.cells.lookup x=some c):(jP X.env.cells scope.names []).lookup x=some c:=
 zW (cells:=X.env.cells) (nN X.env.cells scope.names [] (fun p a=>by simp at a)) (qR X.env.cells scope.names [] x c h e)
theorem YH(I:Inv X U Z H s)(v:scope.kind=.function)(g:∀y∈scope.names,y.2≠.cell)(f:∀y∈scope.names,y.2=.free->X.env.kindOf y.1=some .cell\/X.env.kindOf y.1=some .free)
  (a:∀b∈ex,qH X U H b) (q:∀b∈ex,∃o,s.heap.get? b=some o):(jO X N' scope s.heap.objs.size s H ex).Ok where
 mod:=I.ok.mod
 kind:=v
 glob:=I.ok.glob
 blt:=I.ok.blt
 above:=Z5 _
 inj:=fun x y c A w=>I.ok.inj x y c (nM A) (nM w)
 has:=fun x u=>by
  have p:(relabel scope X.env).names.lookup x=some .cell\/(relabel scope X.env).names.lookup x=some .free:=u;have j:(x,NameKind.free)∈scope.names:=by
   have d:∀l,(l=NameKind.cell\/l=NameKind.free)->(relabel scope X.env).names.lookup x=some l->(x,NameKind.free)∈scope.names:=fun l t e=>by
    have m:=P3 e;unfold relabel at m;obtain⟨⟨n,k⟩,r,e2⟩:=List.mem_map.mp m;by_cases c:(k==NameKind.free&&X.env.scope.kind==.function&&X.env.kindOf n==some .cell)=true
    ·simp only[c,V0]at e2;injection e2 with e3 e4;subst e3;rw[X6,X6]at c;have:k=NameKind.free:=(by simpa using c.1.1);rw[<-this];exact r
    ·simp only[c,Y5]at e2;injection e2 with e3 e4;subst e3 e4;rcases t with z|z
     ·exact absurd z (g _ r)
     ·rw[<-z];exact r
   rcases p with e|e
   ·exact d _ (.inl rfl) e
   ·exact d _ (.inr rfl) e
  obtain⟨c,e⟩:=I.ok.has x (f _ j rfl);exact⟨c,OB j e⟩
 cab:=fun x c h=>by cases (show false=true from h)
 hd:=I.ok.hd
 frames:=I.ok.frames
 stk:=.inl rfl
 exf:=fun b i=>by obtain⟨o,e⟩:=q b i;exact⟨Y6 (Z1 e),fun x c h=>(a b i).2.2.2.2.1 x c (nM h)⟩
 bs:=I.bs
 bsz:=W2 I.ok.bsz I.sz
 noex:=fun b o e i=>by
  rcases(a b i).2.2.2.1 with z|z
  ·exact I.ok.noex b o e z
  ·exact absurd (X8 (Z1 (I.ok.bs b o e).1) z) (U3 _)
 exfs:=fun b i z=>by
  rcases G4.mp (I.stkSub b z)with e|e
  ·exact(a b i).2.1 e
  ·exact(a b i).2.2.1 e
 funs:=I.stack
 frf:=I.stkFree
theorem Ej{t w:List Str}{m:Str->Option Value}{tk:Nat}(I:Inv X U Z H s)(S:scope.kind=.function)(f:∀y∈scope.names,y.2≠.cell)(d:∀y∈scope.names,y.2=.free->X.env.kindOf y.1=some .cell\/X.env.kindOf y.1=some .free)(D:∀b∈ex,qH X U H b)(C:∀b∈ex,∃o,s.heap.get? b=some o)(n:t.length=nt)(a:lS X scope caps w)(Q:h'.Ns s.heap.objs.size m)(k:∀b o,s.heap.get? b=some o->h'.get? b=some o) :
  Inv (jO X (t++w) scope s.heap.objs.size s H ex) [] (AA nt caps Z) H {s with heap:=h',toks:=tk}:=by
 refine⟨YH I S f d D C,rfl,I.bare,Un.kept k,⟨m,Q,fun i x v V T h3=>?_⟩,fun x c h=>?_,I.hok.fresh (Z5 _),fun x c h=>I.freeC x c (nM h),fun p P=>absurd (show p∈([]:List (Addr×Obj))from P) (by simp),I.hok.kept k,?_⟩
 ·obtain⟨j,M,e,hc,N⟩:=gU T;obtain⟨y,L,K,F,J,G⟩:=a.get hc;have E:y=x:=by
   have q:(t++w)[i]? = some x:=V;rw[R0 (by omega),e,n,zp,L]at q;exact Z2 q
  subst E;obtain⟨m0,_,R⟩:=I.loc;have A:SA X.env.scope y:=by
   rcases F with z|z
   ·exact .inr (.inl z)
   ·exact .inr (.inr z)
  obtain⟨u,r,l⟩:=R M y v K N A;refine⟨u,r,.inr ⟨G,?_⟩⟩;rcases l with⟨z,_⟩|⟨_,c,e1,o,e2,W⟩
  ·rcases F with g|g
   ·rw[z]at g;cases g
   ·rw[z]at g;cases g
  ·exact⟨c,OB J e1,o,k _ _ e2,W⟩
 ·obtain⟨v,o,e1,e2⟩:=I.cell x c (nM h);exact⟨v,o,k _ _ e1,e2⟩
 ·show(AA nt caps Z).length=(t++w).length;unfold AA;rw[W3,W3,R7,Y9,n,a.length]
end
noncomputable def iP(set:D->DS->Option DS)(fc:DS->M Bool)(fe:DS->M VR):List D->DS->Option (List D)
 |[],_=>some []
 |d::r,S=>match set d S with
  |none=>none
  |some S1=>match fc S1 with
   |some (.ok true)=>match fe S1 with
    |some (.ok (.ok d'))=>(iP set fc fe r S1).map (d'::·)|_=>none
   |some (.ok false)=>iP set fc fe r S1|_=>none
noncomputable def gE(nt:Nat)(caps:List Nat)(fi:DS->M (List D))(set:D->DS->Option DS)(fc:DS->M Bool)(fe:DS->M VR):DS->M (List D):=fun S=>mb (fi S) fun ds=>if ds.length<=big then(match iP set fc fe ds (AA nt caps S)with
 |some l=>some (.ok l)|none=>none)else none
structure ZM(X:Cx)(B O:Hp)(ifs:List Expr)(fc:DS->M Bool):Prop where
 mk::
 h:∀(U:List (Addr×Obj)) (s:Shared) (Z:St) (H:Hp) (Q:Bool->Hp->Prop),Inv X U Z H s->tT X.K B O ZQ fc Z H Q->
  wpAny (model X.prog X.w) X.A (forIn ifs true fun c r=>if r=true then do let ok <-isTrue c X.env (eval c X.env);pure (ForInStep.yield ok)else pure (ForInStep.yield r)) (TP X U Z Q) X.xe s
theorem gD:ZM X B O [] (fun _=>some (.ok true)):=.mk fun U s Z H Q I ⟨F,S,sk,o⟩=>wpAny_tests_nil ⟨H,I,o F H (bZ.refl sk.ext.fh)⟩
theorem nF{a:DS->M Bool}(h:DT X B O ZQ c a):ZM X B O [c] a:=.mk fun U s Z H Q I q=>wpAny_tests_one (h.h U s Z H Q I q)
theorem YK{F:Hp}{S:DS}(q:caps.Nodup)(s:cV K B O F H Z S):cV K B O F H (AA nt caps Z) (AA nt caps S):=by
 have up:∀{k j:Nat} {v:V},caps[k]? = some j->Z[j]? = some (some v)->(AA nt caps Z)[nt+k]? = some (some v):=fun{k j v} u t=>(by unfold AA;rw[R0 (by simp),R7,zp,W8,u];show some ((Z[j]?).join)=_;rw[t];rfl);refine⟨s.ext,?_,fun i d h=>?_,fun i l h=>?_,fun i Q l A a ne u t J I=>?_,fun i ks l h=>?_,fun i Q ks C l A a ne u t J I=>?_,s.lo⟩
 ·unfold AA;rw[W3,W3,Y9,Y9,R7,R7]
 ·obtain⟨k,j,rfl,hc,g⟩:=gU h;obtain⟨v,e,r⟩:=s.val j d g;exact⟨v,up hc e,r⟩
 ·obtain⟨k,j,rfl,hc,g⟩:=gU h;obtain⟨a,w,e,r⟩:=s.own j l g;exact⟨a,w,up hc e,r⟩
 ·obtain⟨k,j,rfl,hc,g⟩:=gU u;obtain⟨G,p,rfl,f,o⟩:=gU t;obtain⟨E,P,e2,c,n⟩:=gU J;obtain⟨D,N,R,b,m⟩:=gU I;have:E=k:=(by omega);subst this;have:D=G:=(by omega);subst this;rw[hc]at c;cases c;rw[f]at b;cases b;have z:j≠p:=fun e=>by
   subst e;obtain⟨M,y⟩:=List.getElem?_eq_some_iff.mp hc;obtain⟨L,x⟩:=List.getElem?_eq_some_iff.mp f;exact ne (by rw[(M3 q).mp (y.trans x.symm)])
  exact s.sep j p l A a z g o n m
 ·obtain⟨k,j,rfl,hc,g⟩:=gU h;obtain⟨a,w,e,r⟩:=s.owd j ks l g;exact⟨a,w,up hc e,r⟩
 ·obtain⟨k,j,rfl,hc,g⟩:=gU u;obtain⟨G,p,rfl,f,o⟩:=gU t;obtain⟨E,P,e2,c,n⟩:=gU J;obtain⟨D,N,R,b,m⟩:=gU I;have:E=k:=(by omega);subst this;have:D=G:=(by omega);subst this;rw[hc]at c;cases c;rw[f]at b;cases b;have z:j≠p:=fun e=>by
   subst e;obtain⟨M,y⟩:=List.getElem?_eq_some_iff.mp hc;obtain⟨L,x⟩:=List.getElem?_eq_some_iff.mp f;exact ne (by rw[(M3 q).mp (y.trans x.symm)])
  exact s.sepd j p ks C l A a z g o n m
variable{fi:DS->M (List D)}{fe:DS->M VR}
theorem BD(use:Option (Value->Sem Unit))(RQ:Value->Shared->Prop)(G:Hp->Hp->M (List D)->Prop)(nt:Nat)(g:List Nat)(tn cn:List Str){d3:Pos}{set:D->DS->Option DS}{fc:DS->M Bool}(gs:∀{F H F' H':Hp} {z:M (List D)},bZ F H F' H'->G F H z->G F' H' z)(gn:∀F H,G F H none->False)(ge:∀F H c,G F H (some (.error c))->∀H',bR H H'->Y c H')(a5:X.calm=true)(E:scope.kind=.function)(a1:∀y∈scope.names,y.2≠.cell)(a9:∀x∈scope.names,x.2=.local->scope.names.lookup x.1=some .local)(a0:∀y∈scope.names,y.2=.free->X.env.kindOf y.1=some .cell\/X.env.kindOf y.1=some .free)(f9:tn.length=nt)(d7:lS X scope g cn)(c2:g.Nodup)(hi:DI X B O Y tg iter fi)(hg:∀C s H ex B O,DG (jO X (tn++cn) scope C s H ex) B O tg set)(hc:∀C s H ex B O,ZM (jO X (tn++cn) scope C s H ex) B O ifs fc)(he:∀C s H ex B O,DE (jO X (tn++cn) scope C s H ex) B O ZQ elt fe)(hs:∀x,foldedSetIterable iter X.env x=pure x){F:Hp}{S:DS}(I:Inv X U Z H s)(sk:cV X.K B O F H Z S)(o:G F H (gE nt g fi set fc fe S)) (d6:∀(C d:Addr) (vs:List V) (w H2 F' H':Hp) (s5:Shared) (m5:Str->Option Value) (N:List D) (r:Flow),bZ F H w H2->bZ w H2 F' H'->H2 d=none->F' d=none->H' d=some (.lst vs)->aX X.K F' N vs->G w H2 (some (.ok N))->Inv X U Z H' s5->s5.heap.Ns C m5->
   H' C=none->C≠X.env.locals->C∉X.fs->X.s₀.heap.objs.size<=C->(∀y c,X.env.cells.lookup y=some c->c≠C)->(∀p∈X.pn++U,p.1≠C)->compPost (model X.prog X.w) X.A X.xe use RQ (.ref d) C (.ok r) s5) :
  wpAny (model X.prog X.w) X.A (comprehension (.ListComp elt [⟨tg,iter,ifs,0⟩] scope pos) scope X.env d3 (newList []) false (eval iter X.env) use) RQ X.xe s:=by
 have c3:closureFor scope X.env=pure (jP X.env.cells scope.names []):=zZ fun x hx e=>I.ok.has x.1 (a0 x hx e);refine wpAny_comprehension_free (use:=use) rfl hs c3 E a9 ?_;refine eL (hi.h U s Z H (fun J H1=>∃F1 A,bZ F H F1 H1/\jF X.K J F1 A/\G F1 H1 (if A.length<=big then(match iP set fc fe A (AA nt g S)with|some l=>some (.ok l)|none=>none)else none)) I ?_) fun v s1 h1=>eL h1 fun h6 s2 h2=>Classical.byContradiction fun hN=>?_
 ·refine⟨F,S,sk,?_⟩;unfold gE at o;cases z:fi S with
  |none=>rw[z]at o;exact False.elim (gn _ _ o)
  |some y=>
   rw[z]at o;cases y with
   |error c=>exact ge _ _ _ o|ok A=>exact fun J F1 H1 e it=>⟨F1,A,e,it,gs e o⟩
 obtain⟨it,P,b6,J,H2,rfl,I2,T,c9,f2,w,A,e2,c0,o2⟩:=h2;refine hN ?_;clear hN;by_cases hz:A.length<=big
 ·rw[Z8 hz]at o2;cases cd:iP set fc fe A (AA nt g S)with
  |none=>rw[cd]at o2;exact False.elim (gn _ _ o2)
  |some N=>
   rw[cd]at o2;have o3:G w H2 (some (.ok N)):=o2;refine W5 ?_ (by show(0:Nat)<=sizeLine;exact Y3 _);have hD:H2 s2.heap.objs.size=none:=I2.fresh;have I3:=I2.lnew (ys:=[]) (its:=[]) (t':=s2.toks) .nil (Y3 _);generalize d9:s2.heap.objs.size=d at *;generalize c1:({s2 with heap:=s2.heap.push {cls:=.type "list",data:=.seq ([]:List Value).toArray},toks:=s2.toks}:Shared)=s3 at *;have b9:∀b u,s2.heap.get? b=some u->s3.heap.get? b=some u:=fun b u z=>(by rw[<-c1];exact Z3 _ z);have e5:∀b∈P,∃o,s2.heap.get? b=some o/\∀v,o.data≠.cell v:=T.obj _ _ c9;have nD:∀b∈P,b≠d:=fun b t z=>(by obtain⟨o,e,_⟩:=e5 b t;have h1:b<s2.heap.objs.size:=Z1 e;rw[d9,z]at h1;exact U3 _ h1);have f3:∀b∈P,qH X U (cL H2 d (.lst [])) b:=fun b t=>⟨by rw[aJ (nD b t)];exact(f2 b t).1,(f2 b t).2⟩;have d2:∀b∈P,∃o,s3.heap.get? b=some o:=fun b t=>let ⟨o,e,_⟩:=e5 b t;⟨o,b9 b o e⟩;have c8:b6 0 s3.heap:=T.keep _ _ _ c9 fun b t o e=>b9 b o e;refine wpAny_newFunctionEnv a1 (by intro y hy;simp at hy) (fun h4 g2 g0=>?_) E;have b8:∀b u,s3.heap.get? b=some u->h4.get? b=some u:=fun b u z=>g0.extBut b u (Y6 (Z1 z)) (Z3 _ z);have b7:=(sk.step e2).base;have c6:∀(i:Nat) (l:List D) (a:Addr),(AA nt g S)[i]? = some (some (Slot.own l))->(AA nt g Z)[i]? = some (some (V.ref a))->a≠d:=fun i l a h1 h2 z=>(by obtain⟨a',vs,W,_,_,q4,_⟩:=(YK (nt:=nt) c2 b7).own i l h1;rw[h2]at W;have:a=a':=(by simpa using W);rw[<-this,z,hD]at q4;cases q4);have b2:∀(i:Nat) (ks:DK) (l:List D) (a:Addr),(AA nt g S)[i]? = some (some (Slot.owd ks l))->(AA nt g Z)[i]? = some (some (V.ref a))->a≠d:=fun i ks l a h1 h2 z=>(by obtain⟨a',vs,W,_,_,q4,_⟩:=(YK (nt:=nt) c2 b7).owd i ks l h1;rw[h2]at W;have:a=a':=(by simpa using W);obtain⟨m,q5,_⟩:=q4.mo;rw[<-this,z,hD]at q5;cases q5);have d5:∀{F' H':Hp} {σ':St} {S':DS} {vs:List V},cV X.K w O F' H' σ' S'->H' d=some (.lst vs)->w d=none->F' d=none->(∀(i:Nat) (l:List D) (a:Addr),S'[i]? = some (some (Slot.own l))->σ'[i]? = some (some (V.ref a))->a≠d)->(∀(i:Nat) (ks:DK) (l:List D) (a:Addr),S'[i]? = some (some (Slot.owd ks l))->σ'[i]? = some (some (V.ref a))->a≠d)->cV X.K w (cL O d (.lst vs)) F' H' σ' S':=
    fun{F' H' σ' S' vs} k h1 h2 h3 h4 h5=>⟨⟨k.ext.ff,fun b u z=>by
      by_cases eb:b=d
      ·subst eb;rw[aM]at z;rw[h1];exact z
      ·rw[aJ eb]at z;exact k.ext.hh b u z,k.ext.fh,fun b xs z fb=>by
      by_cases eb:b=d
      ·rw[eb];exact h3
      ·rw[aJ eb]at z;exact k.ext.new b xs z fb⟩,k.len,k.val,fun i l z=>by
      obtain⟨a,ws,W,q2,q3⟩:=k.own i l z;exact⟨a,ws,W,by rw[aJ (h4 i l a z W)];exact q2,q3⟩,k.sep,fun i ks l z=>by
      obtain⟨a,ws,W,q2,q3⟩:=k.owd i ks l z;exact⟨a,ws,W,by rw[aJ (h5 i ks l a z W)];exact q2,q3⟩,k.sepd,k.lo⟩
   have c5:w d=none:=e2.fh.free hD;have e3:bZ w H2 w (cL H2 d (.lst [])):=kI e2.fh hD;have f4:cV X.K w (cL O d (.lst [])) w (cL H2 d (.lst [])) (AA nt g Z) (AA nt g S):=d5 (YK c2 (b7.step e3)) aM c5 c5 c6 b2;have R:∀{H':Hp},(∀b∈P,H' b=none)->∀b∈P,qH (jO X (tn++cn) scope s3.heap.objs.size s3 (cL H2 d (.lst [])) P) [] H' b:=fun hn b t=>(by have ok:=YH (N':=tn++cn) I3 E a1 a0 f3 d2;exact⟨hn b t,(ok.exf b t).1,ok.exfs b t,.inl t,(ok.exf b t).2,fun p hp=>absurd (show p∈([]:List (Addr×Obj))from hp) (by simp)⟩);have g8:∀{H':Hp} {h h':Heap},pG X.prog X.w H' h->H' s3.heap.objs.size=none->Heap.SameBut s3.heap.objs.size h h'->pG X.prog X.w H' h':=fun{H' h h'} x hn sb a u e=>
    (x a u e).stay (fun b v t q=>sb.extBut b v (by
     rcases t with z|z
     ·rw[z];exact aV e hn
     ·exact aV z hn) q) (fun _ q=>q) fun _ _ q=>q
   have b4:∀s4:Shared,s4={s3 with heap:=h4,toks:=s3.toks+([]:List (Str×Value)).length}->
     codeAny (model X.prog X.w) X.A (.compLoop (.ListComp elt [⟨tg,iter,ifs,0⟩] scope pos) 0 (.ref it) (.ref d) (compEnvC scope (jP X.env.cells scope.names []) s3.heap.objs.size X.env))
      (compPost (model X.prog X.w) X.A X.xe use RQ (.ref d) s3.heap.objs.size) s4:=by
    rintro s4 rfl;have I4:=Ej (nt:=nt) (tk:=s3.toks+([]:List (Str×Value)).length) I3 E a1 a0 f3 d2 f9 d7 g2 b8;refine IF (fun n s'=>∃i σ' H' F' S' L vs r,Inv (jO X (tn++cn) scope s3.heap.objs.size s3 (cL H2 d (.lst [])) P) [] σ' H' s'/\b6 i s'.heap/\(∀b∈P,H' b=none)/\n=A.length-i/\i<=A.length/\
     cV X.K w (cL O d (.lst vs)) F' H' σ' S'/\bZ w H2 F' H'/\F' d=none/\H' d=some (.lst vs)/\aX X.K F' L vs/\L.length<=i/\iP set fc fe (A.drop i) S'=some r/\L++r=N) ?_ A.length
     ⟨0,_,_,w,_,[],[],N,I4,T.keep _ _ _ c8 (fun b t o e=>b8 b o e),fun b t=>(f3 b t).1,by simp,Y3 _,f4,e3,c5,aM,rfl,Z5 _,by simpa using cd,rfl⟩
    refine fun n s' hh=>Classical.byContradiction fun hN=>?_;obtain⟨i,σ',H',F',S',L,vs,r,I',d0,e4,rfl,g9,f5,K,c4,a6,ra,d8,f,a2⟩:=hh;refine hN ?_;clear hN;by_cases a4:i<A.length
    ·have hd:A.drop i=A[i]::A.drop (i+1):=O2 a4;rw[hd]at f;refine eL (T.item (jO X (tn++cn) scope s3.heap.objs.size s3 (cL H2 d (.lst [])) P) rfl rfl rfl a5 i [] s' σ' H' (fun _ _=>False) I' (R e4) d0 (c0.go i F' H' a4 K.ff K.fh)) fun rr s5 ⟨u,hr,h5⟩=>?_;subst hr;refine eL h5 fun _ s6 ⟨x,H6,I6,r6,y6,st6,fr6⟩=>?_;obtain⟨F6,e6,f7⟩:=c0.yld i F' H' x H6 K.ff K.fh y6 A[i] (Y1 a4);have g7:=I6.pinned (R fr6) (T.obj _ _ st6);unfold iP at f;cases z1:set A[i] S' with
     |none=>rw[z1]at f;cases f
     |some S1=>
      rw[z1]at f;simp only at f;have e1:tG X.K w (cL O d (.lst vs)) set x σ' H6 (fun σ7 H7=>∃F7,bZ F6 H6 F7 H7/\cV X.K w (cL O d (.lst vs)) F7 H7 σ7 S1):=(by refine⟨F6,S',A[i],f5.step e6,f7,?_⟩;rw[z1];exact fun σ7 F7 H7 e7 k7=>⟨F7,e7,k7⟩);refine eL ((hg _ _ _ _ w (cL O d (.lst vs))).h _ s6 σ' H6 x u _ g7 r6 e1) fun _ s7 ⟨σ7,H7,I7,F7,e7,k7⟩=>?_;cases z2:fc S1 with
      |none=>rw[z2]at f;cases f
      |some y2=>
       rw[z2]at f;cases y2 with
       |error c=>cases f
       |ok b=>
        have tc:tT X.K w (cL O d (.lst vs)) ZQ fc σ7 H7 (fun b' H8=>b'=b/\∃F8,bZ F7 H7 F8 H8):=⟨F7,S1,k7,by rw[z2];exact fun F8 H8 e8=>⟨rfl,F8,e8⟩⟩;refine eL ((hc _ _ _ _ w (cL O d (.lst vs))).h _ s7 σ7 H7 _ I7 tc) fun b' s8 ⟨H8,I8,t,F8,e8⟩=>?_;subst t;have a7:=(e6.trans e7).trans e8;have b5:∀{σ9:St} {H9 F9:Hp} {s9:Shared} {Q r9:List D} {a3:List V},Inv (jO X (tn++cn) scope s3.heap.objs.size s3 (cL H2 d (.lst [])) P) ([]++xG P s6.heap) σ9 H9 s9->cV X.K w (cL O d (.lst a3)) F9 H9 σ9 S1->bZ w H2 F9 H9->F9 d=none->H9 d=some (.lst a3)->aX X.K F9 Q a3->Q.length<=i+1->
          iP set fc fe (A.drop (i+1)) S1=some r9->Q++r9=N->∃m,m<A.length-i/\∃i σ' H' F' S' L vs r,Inv (jO X (tn++cn) scope s3.heap.objs.size s3 (cL H2 d (.lst [])) P) [] σ' H' s9/\b6 i s9.heap/\(∀b∈P,H' b=none)/\m=A.length-i/\i<=A.length/\
           cV X.K w (cL O d (.lst vs)) F' H' σ' S'/\bZ w H2 F' H'/\F' d=none/\H' d=some (.lst vs)/\aX X.K F' L vs/\L.length<=i/\iP set fc fe (A.drop i) S'=some r/\L++r=N:=fun{σ9 H9 F9 s9 Q r9 a3} I9 k9 x1 x2 x3 x4 x5 x6 x7=>
         ⟨A.length-(i+1),by omega,i+1,σ9,H9,F9,S1,Q,a3,r9,I9.unpinned,T.keep _ _ _ st6 (fun b t o e=>(I9.pin (b,o) (T6 _ (T6 _ (oE t e)))).1),(fun b t=>by obtain⟨o,e,_⟩:=T.obj _ _ st6 b t;exact(I9.pin (b,o) (T6 _ (T6 _ (oE t e)))).2.1),rfl,a4,k9,x1,x2,x3,x4,x5,x6,x7⟩
        cases b' with
        |false=>rw[Z6 W6];exact b5 I8 (k7.step e8) (K.trans a7) (a7.new _ (.lst _) a6 c4) (a7.hh _ _ a6) (ra.mono a7.ff) (Nat.le_succ_of_le d8) f a2
        |true=>
         rw[Z8 rfl];simp only at f;cases z3:fe S1 with
         |none=>rw[z3]at f;cases f
         |some y3=>
          rw[z3]at f;cases y3 with
          |error c=>cases f
          |ok f1=>
           cases f1 with
           |bor l=>cases f|bod ks l=>cases f
           |ok d'=>
            simp only at f;cases z4:iP set fc fe (A.drop (i+1)) S1 with
            |none=>rw[z4]at f;cases f
            |some r'=>
             rw[z4]at f;have er:d'::r'=r:=Z2 f;subst er;have te:tE X.K w (cL O d (.lst vs)) ZQ fe σ7 H8 (fun v9 H9=>∃F9,bZ F8 H8 F9 H9/\jS X.K F9 d' v9):=⟨F8,S1,k7.step e8,by rw[z3];exact fun v9 F9 H9 e9 q9=>⟨F9,e9,q9⟩⟩;refine eL ((he _ _ _ _ w (cL O d (.lst vs))).h _ s8 σ7 H8 _ I8 te) fun u9 s9 ⟨v9,H9,I9,rv9,F9,e9,q9⟩=>?_;have b3:=a7.trans e9;have g4:=b3.hh _ _ a6;have b0:=b3.new _ (.lst _) a6 c4;have f8:=ra.mono b3.ff;have b1:=K.trans b3;have k9:=(k7.step e8).step e9;refine eL (AQ _ s9 σ7 H9 (.ref d) [v9] (.ref d) [u9] (fun _ f0=>f0=cL H9 d (.lst (vs++[v9]))) I9 rfl (.cons rv9 .nil) ⟨d,vs,v9,rfl,rfl,g4,?_,rfl⟩) fun _ h0 ⟨x10,f0,I10,_,hH10⟩=>?_
             ·have:=ra.length;exact X8 (C9 (by rw[<-this];exact d8) a4) (jD hz)
             ·subst hH10;have kk:cV X.K w (cL O d (.lst (vs++[v9]))) F9 (cL H9 d (.lst (vs++[v9]))) σ7 S1:=
               ⟨⟨k9.ext.ff,fun b u z=>by
                 by_cases eb:b=d
                 ·subst eb;rw[aM]at z ⊢;exact z
                 ·rw[aJ eb]at z ⊢;exact k9.ext.hh b u (by rw[aJ eb];exact z),fun b u z=>by
                 rw[aJ (aV z b0)];exact k9.ext.fh b u z,fun b xs z fb=>by
                 by_cases eb:b=d
                 ·rw[eb];exact b0
                 ·rw[aJ eb]at z;exact k9.ext.new b xs (by rw[aJ eb];exact z) fb⟩,k9.len,k9.val,fun j l z=>by
                 obtain⟨a,ws,W,q2,q3,q4,q5⟩:=k9.own j l z;have na:a≠d:=(by rintro rfl;rw[aM]at q2;cases q2);exact⟨a,ws,W,by rw[aJ na]at q2 ⊢;exact q2,q3,by rw[aJ na];exact q4,q5⟩,k9.sep,fun j ks l z=>by
                 obtain⟨a,ws,W,q2,q3,q4,q5⟩:=k9.owd j ks l z;have na:a≠d:=(by rintro rfl;rw[aM]at q2;cases q2);exact⟨a,ws,W,by rw[aJ na]at q2 ⊢;exact q2,q3,q4.mono (bR.refl _) (fun u z=>by rw[aJ na];exact z),q5⟩,k9.sepd,k9.lo⟩
              refine b5 I10 kk ⟨b1.ff,fun b u z=>?_,fun b u z=>?_,b1.new⟩ b0 aM (f8.append (.one q9)) (by rw[W3,zc];omega) z4 (by rw[P2];exact a2)
              ·rw[aJ (aV z hD)];exact b1.hh b u z
              ·rw[aJ (aV z b0)];exact b1.fh b u z
    ·have ei:i=A.length:=(by omega);subst ei;rw[B2]at f;have er:[]=r:=Z2 f;subst er;rw[Pv]at a2;subst a2;refine eL (T.done (jO X (tn++cn) scope s3.heap.objs.size s3 (cL H2 d (.lst [])) P) rfl rfl rfl a5 _ [] s' σ' H' (fun _ _=>False) I' (R e4) d0 (c0.stop _ F' H' (Z5 _) K.ff K.fh)) fun rr s5 ⟨hr,I5⟩=>?_;subst hr;obtain⟨m5,g3,_⟩:=I5.loc;have U0:=(Un.laid (fs:=sH X.stack) (ex:=P) (o:=HO.lst []) b9 (z6 d9) hD).trans I5.base;have J:Inv X U Z H' s5:=I2.call' (s':=s5) (ch:=P) (by rw[I5.os];show s3.os=s2.os;rw[<-c1]) ⟨U0.keep,U0.slot,U0.free,U0.there,U0.tups,U0.frzs,U0.tbls⟩ I5.hok I5.bare fun b t=>⟨(f2 b t).2.2.2.1,(f2 b t).2.1,(f2 b t).2.2.2.2.1,(f2 b t).2.2.2.2.2⟩;have g5:H' s3.heap.objs.size=none:=I5.free;have a8:s2.heap.objs.size<=s3.heap.objs.size:=by
      rw[<-c1];show s2.heap.objs.size<=(s2.heap.push _).objs.size;rw[O6];exact FB _
     have e0:∀b ob,s2.heap.get? b=some ob->b≠s3.heap.objs.size:=fun b ob e=>Y6 (X8 (Z1 e) a8);have d4:s3.heap.objs.size≠X.env.locals:=fun z=>(by have:=I2.lt;rw[<-z]at this;exact absurd (X8 this a8) (U3 _));have g6:s3.heap.objs.size∉X.fs:=I2.nofs a8;have f6:X.s₀.heap.objs.size<=s3.heap.objs.size:=W2 I2.sz a8;have c7:∀y c,X.env.cells.lookup y=some c->c≠s3.heap.objs.size:=fun y c e=>(by obtain⟨v,ob,g1,_⟩:=I2.cell y c e;exact e0 c ob g1);have d1:∀p∈X.pn++U,p.1≠s3.heap.objs.size:=fun p hp=>e0 p.1 p.2 (I2.pin p hp).1;exact d6 s3.heap.objs.size d vs w H2 F' H' s5 m5 L _ e2 K hD c4 a6 ra o3 J g3 g5 d4 g6 f6 c7 d1
   exact codeAny_compStart_list (b4 _ rfl) (T.self _ 0 _ _ _ (T.keep _ _ _ c8 fun b t o e=>b8 b o e) (b4 _ rfl))
 ·rw[Z6 hz]at o2;exact False.elim (gn _ _ o2)
theorem fV(u:Nat)(a:List Nat)(k p:List Str){set:D->DS->Option DS}{L:DS->M Bool}(i:X.calm=true)(d:scope.kind=.function)(g:∀y∈scope.names,y.2≠.cell)(c:∀x∈scope.names,x.2=.local->scope.names.lookup x.1=some .local)(f:∀y∈scope.names,y.2=.free->X.env.kindOf y.1=some .cell\/X.env.kindOf y.1=some .free)(v:k.length=u)(n:lS X scope a p)(w:a.Nodup)(hi:DI X B O Y tg iter fi)(hg:∀C s H ex B O,DG (jO X (k++p) scope C s H ex) B O tg set)(hc:∀C s H ex B O,ZM (jO X (k++p) scope C s H ex) B O ifs L)(he:∀C s H ex B O,DE (jO X (k++p) scope C s H ex) B O ZQ elt fe)(hs:∀x,foldedSetIterable iter X.env x=pure x:=by intro _;rfl):DF X B O Y (.ListComp elt [⟨tg,iter,ifs,0⟩] scope pos) (gE u a fi set L fe):=.mk fun U s Z H Q I q=>by obtain⟨F,S,T,o⟩:=q;rw[eval_ListComp];refine BD none (EP X U Z Q) (fun F H z=>vQ X.K Y F H Q z) u a k p (fun e h=>h.step e) (fun _ _ h=>h) (fun _ _ _ h=>h) i d g c f v n w hi hg hc he hs I T o ?_;intro C P R F2 H2 F' N W m5 a0 r _ K hD E A ra o3 J hn G m a1 t j l;exact⟨m5,hn,fun h6 V=>⟨.ref P,N,J.turned (t':=W.toks) (it:=C) (fun b ob nb e=>V.extBut b ob nb e) G m (.inr t) j l,rfl,o3 P R F' N K hD E A ra⟩⟩
end PF
namespace PF
open PySem PySem.Spec PyProof.Rows
open AutoSeq1 (wpAny_loadPart')
theorem uG:fillsNumberSlot (.type "tuple") "mul" = pure false:=
 PySem.fillsNumberSlot_seq (id:="tuple.__mul__") (r:=some (.builtin "tuple.__rmul__")) PySem.F.slot_tuple_mul.lookup (by decide +kernel) PySem.F.slot_tuple_rmul.lookup (by decide +kernel)
theorem CD:seqRepeat? (.type "tuple")=pure (some (.builtin "tuple.__mul__")):=by unfold seqRepeat?;rw[PySem.seqSlot_of (T:="tuple") (name:="__mul__") (id:="tuple.__mul__") PySem.F.slot_tuple_mul.lookup (by decide +kernel),PySem.seqSlot_of (T:="tuple") (name:="__rmul__") (id:="tuple.__rmul__") PySem.F.slot_tuple_rmul.lookup (by decide +kernel)];rfl
theorem xX(a:Int)(t:Tok)(l:Addr)(b:Array Value)(n:Nat)(f:Option Addr)(c:Array (Option Value)) :
  Meets (Builtin.«int.__rmul__» ⟨[.int a t,.ref l],[]⟩) (fun _ R s=>s.heap.get? l=some {cls:=.type "tuple",dict:=f,data:=.seq b n,slots:=c}/\R (.ok (.ret Value.notImplemented)) s):=
 .of_wp fun prog w A R s h=>by obtain⟨i,g,d,tk,os⟩:=s;obtain⟨e,h⟩:=h;wp_walk using O8 e;exact⟨_,rfl,h⟩
theorem wR(l:Addr)(a:Array Value)(n:Nat)(i:Option Addr)(e:Array (Option Value))(x:Int)(u:Tok)(b:(decide (x < -(2 ^ 63)) || decide (x≥2 ^ 63))=false)(f:(a.isEmpty || x==1)=true) :
  Meets (Builtin.«tuple.__mul__» ⟨[.ref l,.int x u],[]⟩) (fun _ R s=>s.heap.get? l=some {cls:=.type "tuple",dict:=i,data:=.seq a n,slots:=e}/\R (.ok (.ret (.ref l))) s):=
 .of_wp fun prog w A R s h=>by obtain⟨j,g,d,tk,os⟩:=s;obtain⟨c,h⟩:=h;have k:=G7;wp_walk using O8 c;refine G6 (by rw[b];rfl) ?_;wp_walk using O8 c;exact⟨_,rfl,h⟩
theorem wU(l:Addr)(a:Array Value)(n:Nat)(j:Option Addr)(e:Array (Option Value))(x:Int)(u:Tok)(b:(decide (x < -(2 ^ 63)) || decide (x≥2 ^ 63))=false)(i:¬(a.isEmpty || x==1)=true)(f:(decide (x<=0) || a.isEmpty)=true) :
  Meets (Builtin.«tuple.__mul__» ⟨[.ref l,.int x u],[]⟩) (fun _ R s=>s.heap.get? l=some {cls:=.type "tuple",dict:=j,data:=.seq a n,slots:=e}/\R (.ok (.ret (.ref s.heap.objs.size))) {s with heap:=s.heap.push {cls:=Value.type "tuple",data:=Data.seq #[]}}):=
 .of_wp fun prog w A R s h=>by obtain⟨k,g,d,tk,os⟩:=s;obtain⟨c,h⟩:=h;have m:=G7;wp_walk using O8 c;refine G6 (by rw[b];rfl) ?_;wp_walk using O8 c;exact⟨_,rfl,h⟩
theorem zP(l:Addr)(a:Array Value)(n:Nat)(q:Option Addr)(j:Array (Option Value))(x:Int)(u:Tok)(f:(decide (x < -(2 ^ 63)) || decide (x≥2 ^ 63))=false)(p:¬(a.isEmpty || x==1)=true)(o:¬(decide (x<=0) || a.isEmpty)=true)
  (e:¬(a.size*x>(2 ^ 63-1) / 8)) (m:¬Builtin.Tuple.tupleTooMany (a.size*x)=true) (k:(List.foldl (fun c b=>c++b) #[] (List.replicate x.toNat a)).size<=sizeLine) :
  Meets (Builtin.«tuple.__mul__» ⟨[.ref l,.int x u],[]⟩) (fun _ R s=>s.heap.get? l=some {cls:=.type "tuple",dict:=q,data:=.seq a n,slots:=j}/\R (.ok (.ret (.ref s.heap.objs.size))) {s with heap:=s.heap.push {cls:=Value.type "tuple",data:=Data.seq (List.foldl (fun c b=>c++b) #[] (List.replicate x.toNat a))}}):=
 .of_wp fun prog w A R s h=>by obtain⟨r,g,d,tk,os⟩:=s;obtain⟨i,h⟩:=h;have t:=G7;wp_walk using O8 i;refine G6 (by rw[f];rfl) ?_;wp_walk using O8 i;refine G6 (decide_eq_false e) ?_;wp_walk;exact⟨_,rfl,h⟩
variable{prog:Program}{w:World}{A:Around}{E Q:Value->Shared->Prop}{s:Shared}{α β:Type}{sl:Addr}{lo:Int}{n:Nat}{vl vu:Value}
theorem yI(a:List Value):∀(k:Nat) (acc:List Value),List.foldl (fun c b=>c++b) acc.toArray (List.replicate k a.toArray)=(acc++(List.replicate k a).flatten).toArray
 |0,acc=>by simp
 |k+1,acc=>by have e:acc.toArray++a.toArray=(acc++a).toArray:=(by simp);have e2:(acc++a)++(List.replicate k a).flatten=acc++(List.replicate (k+1) a).flatten:=(by rw[U1,Q6,P2]);rw[<-e2,<-yI a k (acc++a),<-e,U1,A8]
theorem HP(a:List α)(k:Nat):(List.replicate k a).flatten.length=k*a.length:=by
 induction k with
 |zero=>simp|succ k b=>rw[U1,Q6,W3,b,z9,GS]
theorem Cm{t:Addr}{a:List Value}{k:Int}{u:Tok}(ht:IsTup s.heap t a.toArray)(C:-(2 ^ 63)<=k)(y:k<2 ^ 63)(r:a.length*k.toNat<=sizeLine)(v:(a=[]\/k=1)->Q (.ref t) s)(i:Q (.ref s.heap.objs.size) {s with heap:=s.heap.push {cls:=.type "tuple",data:=.seq (List.replicate k.toNat a).flatten.toArray}}) :
  wpAny (model prog w) A (binaryOp .Mult (.ref t) (.int k u)) Q E s:=by
 obtain⟨⟨cls,h,data,g⟩,d,hc,n,hd⟩:=id ht;simp only at hc hd;subst hc hd;have f:(decide (k < -(2 ^ 63)) || decide (k≥2 ^ 63))=false:=(by rw[decide_eq_false (by lia),decide_eq_false (by lia)];rfl);refine wpAny_binaryOp_repeat_ref (T:="tuple") (U:="int") (by decide) ⟨_,d,rfl⟩ (fun p=>L6 p k u) uG F.fills_int_mul G2 CD F.slot_int_index.lookup
  (R9 G2 (L6 s k u) F.entry_int_rmul (F.args_int_rmul_2 _ _) (xX k u t a.toArray n h g) ⟨d,rfl,⟨_,d,rfl⟩,?_⟩)
 by_cases b:(a.toArray.isEmpty || k==1)=true
 ·refine R9 AC ⟨_,d,rfl⟩ A4 (A7 _ _) (wR t a.toArray n h g k u f b) ⟨d,v ?_⟩;rw[Pi]at b;rcases b with e|e
  ·exact .inl (by simpa using e)
  ·exact .inr (by simpa using e)
 ·by_cases c:(decide (k<=0) || a.toArray.isEmpty)=true
  ·refine R9 AC ⟨_,d,rfl⟩ A4 (A7 _ _) (wU t a.toArray n h g k u f b c) ⟨d,?_⟩;have q:k.toNat=0:=by
    rw[Pi]at b c;rcases c with e|e
    ·have:=of_decide_eq_true e;lia
    ·exact absurd (.inl e) b
   rw[q]at i;exact i
  ·have x:0<k:=by
    rw[Pi]at c;exact Int.not_le.mp fun e=>c (.inl (decide_eq_true e))
   have l:((a.toArray.size:Nat):Int)*k=((a.length*k.toNat:Nat):Int):=(by rw[Y7,Int.natCast_mul,Int.toNat_of_nonneg (by lia)]);have j:(sizeLine:Nat)<=(2 ^ 63-1) / 8:=(by rw[W9];decide);have hf:List.foldl (fun o m=>o++m) #[] (List.replicate k.toNat a.toArray)=(List.replicate k.toNat a).flatten.toArray:=(by have:=yI a k.toNat [];rw[J2]at this;exact this);refine R9 AC ⟨_,d,rfl⟩ A4 (A7 _ _) (zP t a.toArray n h g k u f b c ?_ ?_ ?_) ⟨d,?_⟩
   ·rw[l];intro z;lia
   ·rw[l];unfold Builtin.Tuple.tupleTooMany;rw[decide_eq_false (by lia)];simp
   ·rw[hf,Y7,HP,L8];exact r
   ·rw[hf];exact i
theorem FJ{t:Addr}{a:Array Value}{Q:Bool->Shared->Prop}(ht:IsTup s.heap t a)(h:Q true s):wpAny (model prog w) A (Builtin.Tuple.tupleIsExact (.ref t)) Q E s:=by unfold Builtin.Tuple.tupleIsExact;exact Z9 (S6 ht.typeIs (Z7 h))
theorem mY{t:Addr}{a:Array Value}{step:Int}{j:Value}(ht:IsTup s.heap t a)(l:s.heap.IsSliceOf sl vl vu j)(p:∀(u:Around) (i:Int×Int×Nat->Shared->Prop) (r:Value->Shared->Prop),i (lo,step,n) s->wpAny (model prog w) u (Builtin.Slice.sliceApplied (.ref sl) (pure (a.size:Int))) i r s)(c:((List.range n).filterMap fun(k:Nat)=>a[(lo+(k:Int)*step).toNat]?).length<=sizeLine)(g:(lo==0&&step==1&&n==a.size)=true->Q (.ref t) s)(q:(lo==0&&step==1&&n==a.size)=false->Q (.ref s.heap.objs.size) {s with heap:=s.heap.push {cls:=.type "tuple",data:=.seq ((List.range n).filterMap fun(k:Nat)=>a[(lo+(k:Int)*step).toNat]?).toArray}}) :
  wpAny (model prog w) A (getItem (.ref t) (.ref sl)) Q E s:=by
 obtain⟨os,d,e,o⟩:=id l;have f:s.TypeIs (.ref sl) "slice" :=⟨os,d,e⟩;have b:sizeOk (.seq ((List.range n).filterMap fun(k:Nat)=>a[(lo+(k:Int)*step).toNat]?).toArray):=(by show((List.range n).filterMap fun(k:Nat)=>a[(lo+(k:Int)*step).toNat]?).toArray.size<=sizeLine;rw[Y7];exact c);unfold getItem
 try with_reducible refine X1 ?_
 first|refine Z9 (Z7 ?_)|skip
 refine Z9 (wpAny_sequenceKey ht.typeIs (by decide) ?_);refine Z9 (T7 (name:=Str.ofString "__getitem__") ht.typeIs L3
  (W1 L3 ht.typeIs PyProof.Rows.entry_tuple_getitem ?_ (args_tuple_getitem _ _)))
 show wpAny _ _ (Builtin.Tuple.tupleItemsOf (.ref t) >>= _) _ _ s;refine Z9 (tupleItemsOf_ ht ?_);refine Z9 (S6 f ?_);rw[Z8 (by decide)];refine Z9 (p _ _ _ ?_);cases hw:(lo==0&&step==1&&n==a.size)with
 |true=>
  show wpAny _ _ (if(lo==0&&step==1&&n==a.size)=true then _ else _) _ _ s;rw[Z8 hw];refine Z9 (FJ ht ?_);rw[Z8 rfl]
  first
   |exact Z9 (T8 (Z7 ⟨_,rfl,Z7 (g hw)⟩))
   |exact Z9 (T8 (Z9 (Z7 (Z7 ⟨_,rfl,Z7 (g hw)⟩))))
   |(refine Z9 (T8 ?_);trace_state;exact Z7 ⟨_,rfl,g hw⟩)
 |false=>
  show wpAny _ _ (if(lo==0&&step==1&&n==a.size)=true then _ else _) _ _ s;rw[Z6 (by rw[hw];exact W6)];have h:=q hw
  first
   |exact Z9 (m:=Builtin.Tuple.tupleExact _) (W5 (Z7 ⟨_,rfl,Z7 h⟩) b)
   |exact Z9 (m:=Builtin.Tuple.tupleExact _) (W5 (Z9 (Z7 (Z7 ⟨_,rfl,Z7 h⟩))) b)
   |exact Z9 (Z9 (m:=Builtin.Tuple.tupleExact _) (W5 (Z7 (Z7 ⟨_,rfl,Z7 h⟩)) b))
   |exact Z9 (Z9 (m:=Builtin.Tuple.tupleExact _) (W5 (Z7 ⟨_,rfl,Z7 h⟩) b))
theorem HN{f g:α->Option β}:∀{l:List α},(∀x∈l,f x=g x)->l.filterMap f=l.filterMap g
 |[],_=>rfl
 |a::l,h=>by rw[V5,V5,h a X7,HN fun x b=>h x (X5 _ b)]
end PF
namespace PF
open PySem PySem.Spec L2
open PyProof.Rows hiding St
mutual
def zQ:D->PyData
 |.non=>.none|.bl b=>.bool b|.int i=>.int i|.str x=>.str x|.tup l=>.tuple (hX l)|.lst l=>.list (hX l)|.scr l=>.list (l.map .int)|.dic _ _=>.none
def hX:List D->List PyData
 |[]=>[]|d::l=>zQ d::hX l
end
mutual
def wG:D->D->Bool
 |.non,.non=>true|.bl a,.bl b=>a==b|.bl a,.int j=>(if a then 1 else 0)==j|.int i,.bl b=>i==(if b then 1 else 0)|.int i,.int j=>i==j|.str x,.str y=>x==y|.tup l,.tup l'=>nI l l'|.lst l,.lst l'=>nI l l'|_,_=>false
def nI:List D->List D->Bool
 |[],[]=>true|d::l,d'::l'=>wG d d'&&nI l l'|_,_=>false
end
mutual
def nJ:D->Nat
 |.tup l=>fB l+1|.lst l=>fB l+1|.scr _=>1000|.dic _ _=>1000|.non=>0|.bl _=>0|.int _=>0|.str x=>if PyData.strOk x=true then 0 else 1000
def fB:List D->Nat
 |[]=>0|d::l=>max (nJ d) (fB l)
end
mutual
theorem xU:∀d:D,nJ d<1000->(zQ d).canLay0=true
 |.non,_=>rfl|.bl _,_=>rfl|.int _,_=>rfl
 |.str x,h=>by
  have h':(if PyData.strOk x=true then 0 else 1000)<1000:=h;show PyData.strOk x=true;split at h'
  ·assumption
  ·lia
 |.tup l,h=>by show PyData.canLayAll0 (hX l)=true;exact CW l (by have:fB l+1<1000:=h;lia)
 |.lst l,h=>by show PyData.canLayAll0 (hX l)=true;exact CW l (by have:fB l+1<1000:=h;lia)
 |.scr l,h=>absurd h (by show ¬(1000<1000);lia)|.dic _ _,h=>absurd h (by show ¬(1000<1000);lia)
theorem CW:∀l:List D,fB l<1000->PyData.canLayAll0 (hX l)=true
 |[],_=>rfl
 |d::l,h=>by have h1:max (nJ d) (fB l)<1000:=h;show(PyData.canLay0 (zQ d)&&PyData.canLayAll0 (hX l))=true;rw[xU d (by lia),CW l (by lia)];rfl
end
mutual
theorem pW:∀d:D,(zQ d).depth<=nJ d
 |.non=>Z5 _|.bl _=>Z5 _|.int _=>Z5 _|.str _=>Y3 _|.tup l=>by show PyData.depthAll (hX l)+1<=fB l+1;exact Nat.succ_le_succ (uU l)
 |.lst l=>by show PyData.depthAll (hX l)+1<=fB l+1;exact Nat.succ_le_succ (uU l)
 |.dic _ _=>Y3 _
 |.scr l=>by
  have h:PyData.depthAll (l.map .int)=0:=by
   induction l with
   |nil=>rfl|cons i l ih=>show max (PyData.depth (.int i)) (PyData.depthAll (l.map .int))=0;rw[ih];rfl
  show PyData.depthAll (l.map .int)+1<=1000;rw[h];lia
theorem uU:∀l:List D,PyData.depthAll (hX l)<=fB l
 |[]=>Z5 _
 |d::l=>by show max (PyData.depth (zQ d)) (PyData.depthAll (hX l))<=max (nJ d) (fB l);have h1:=pW d;have h2:=uU l;lia
end
mutual
theorem LF:∀a b:D,nJ a<1000->nJ b<1000->PyData.eqv (zQ a) (zQ b)=wG a b
 |.tup l,.tup l',h,h'=>by show PyData.eqvAll (hX l) (hX l')=nI l l';exact DP l l' (by have:fB l+1<1000:=h;lia) (by have:fB l'+1<1000:=h';lia)
 |.lst l,.lst l',h,h'=>by show PyData.eqvAll (hX l) (hX l')=nI l l';exact DP l l' (by have:fB l+1<1000:=h;lia) (by have:fB l'+1<1000:=h';lia)
 |.scr l,_,h,_=>absurd h (by show ¬(1000<1000);lia)|_,.scr l,_,h=>absurd h (by show ¬(1000<1000);lia)|.dic _ _,_,h,_=>absurd h (by show ¬(1000<1000);lia)|_,.dic _ _,_,h=>absurd h (by show ¬(1000<1000);lia)|.non,.non,_,_=>rfl|.non,.bl _,_,_=>rfl|.non,.int _,_,_=>rfl|.non,.str _,_,_=>rfl|.non,.tup _,_,_=>rfl|.non,.lst _,_,_=>rfl|.bl _,.non,_,_=>rfl|.bl _,.bl _,_,_=>rfl|.bl _,.int _,_,_=>rfl|.bl _,.str _,_,_=>rfl|.bl _,.tup _,_,_=>rfl|.bl _,.lst _,_,_=>rfl|.int _,.non,_,_=>rfl|.int _,.bl _,_,_=>rfl|.int _,.int _,_,_=>rfl|.int _,.str _,_,_=>rfl|.int _,.tup _,_,_=>rfl|.int _,.lst _,_,_=>rfl|.str _,.non,_,_=>rfl|.str _,.bl _,_,_=>rfl|.str _,.int _,_,_=>rfl|.str _,.str _,_,_=>rfl|.str _,.tup _,_,_=>rfl|.str _,.lst _,_,_=>rfl|.tup _,.non,_,_=>rfl|.tup _,.bl _,_,_=>rfl|.tup _,.int _,_,_=>rfl|.tup _,.str _,_,_=>rfl|.tup _,.lst _,_,_=>rfl|.lst _,.non,_,_=>rfl|.lst _,.bl _,_,_=>rfl|.lst _,.int _,_,_=>rfl|.lst _,.str _,_,_=>rfl|.lst _,.tup _,_,_=>rfl
theorem DP:∀l l':List D,fB l<1000->fB l'<1000->PyData.eqvAll (hX l) (hX l')=nI l l'
 |[],[],_,_=>rfl|[],_::_,_,_=>rfl|_::_,[],_,_=>rfl
 |a::l,b::l',h,h'=>by have h1:max (nJ a) (fB l)<1000:=h;have h2:max (nJ b) (fB l')<1000:=h';show(PyData.eqv (zQ a) (zQ b)&&PyData.eqvAll (hX l) (hX l'))=(wG a b&&nI l l');rw[LF a b (by lia) (by lia),DP l l' (by lia) (by lia)]
end
variable{X:Cx}{U:List (Addr×Obj)}{Z:St}{H:Hp}{s:Shared}{K:Z4}{v:V}
mutual
theorem pN(I:Inv X U Z H s):∀{d:D} {v:V} {u:Value},nJ d<1000->jS X.K H d v->RelV v u->∃as,Reads s.heap u (zQ d) as
 |.non,v,u,hd,h,r=>by obtain rfl:v=.non:=h;obtain rfl:u=Value.none:=r;exact⟨_,.none⟩
 |.bl b,v,u,hd,h,r=>by obtain rfl:v=.bl b:=h;obtain rfl:u=Value.bool b:=r;exact⟨_,.bool b⟩
 |.int i,v,u,hd,h,r=>by obtain rfl:v=.int i:=h;obtain⟨t,rfl⟩:=r;exact⟨_,.int i t⟩
 |.str x,v,u,hd,h,r=>by obtain rfl:v=.str x:=h;obtain⟨t,rfl⟩:=r;exact⟨_,.str x t⟩
 |.tup l,v,u,hd,h,r=>by obtain⟨a,vs,rfl,ht,rl⟩:=h;obtain rfl:u=Value.ref a:=r;obtain⟨its,rv,⟨o,e1,e2,n,e3⟩,_⟩:=I.tuple ht;obtain⟨as,q⟩:=uE I (by have:fB l+1<1000:=hd;lia) rl rv;exact⟨_,.tuple e1 e2 e3 (by simpa using q)⟩
 |.lst l,v,u,hd,h,r=>by obtain⟨a,vs,rfl,ht,rl⟩:=h;obtain rfl:u=Value.ref a:=r;obtain⟨its,rv,⟨o,n,e1,e2,_,e3⟩,_⟩:=I.list (iA.of ht);obtain⟨as,q⟩:=uE I (by have:fB l+1<1000:=hd;lia) rl rv;exact⟨_,.list e1 e2 e3 (by simpa using q)⟩
 |.scr l,v,u,hd,h,r=>by
  obtain⟨a,rfl,ht⟩:=h;obtain rfl:u=Value.ref a:=r;obtain⟨its,rv,⟨o,n,e1,e2,_,e3⟩,_⟩:=I.list ht;have all:∀(l:List Int) (us:List Value),bD (l.map V.int) us->∃as,ReadsAll s.heap us (l.map .int) as:=by
   intro l
   induction l with
   |nil=>intro us q;cases q;exact⟨_,.nil⟩
   |cons i l ih=>
    intro us q;cases q with
    |cons q1 q2=>obtain⟨t,rfl⟩:=q1;obtain⟨as,z⟩:=ih _ q2;exact⟨_,.cons (.int i t) z⟩
  obtain⟨as,q⟩:=all l its rv;exact⟨_,.list e1 e2 e3 (by simpa using q)⟩
 |.dic _ _,v,u,hd,h,r=>absurd hd (by show ¬(1000<1000);lia)
theorem uE(I:Inv X U Z H s):∀{l:List D} {vs:List V} {us:List Value},fB l<1000->aX X.K H l vs->bD vs us->∃as,ReadsAll s.heap us (hX l) as
 |[],vs,us,hd,h,r=>by have e:vs=[]:=h;subst e;cases r;exact⟨_,.nil⟩
 |d::l,vs,us,hd,h,r=>by
  have h1:max (nJ d) (fB l)<1000:=hd;obtain⟨v,t,rfl,q1,q2⟩:=h;cases r with
  |cons r1 r2=>obtain⟨as,z1⟩:=pN I (by lia) q1 r1;obtain⟨bs,z2⟩:=uE I (by lia) q2 r2;exact⟨_,.cons z1 z2⟩
end
theorem RV.rep{F:Hp}{d:D}(fh:bR F H)(h:RV K F H d v):jS K H d v:=by
 cases d with
 |lst l=>obtain⟨a,b,e,q,r⟩:=h;exact⟨a,b,e,q,r.mono fh⟩
 |dic ks l=>obtain⟨a,b,e,q,r⟩:=h;exact⟨a,b,e,q.mono fh (fun _ z=>z),r.mono fh⟩
 |_=>exact jS.mono fh h
def Bc(X:Cx)(neg:Bool):R2:=fun x y H Q=>∃d1 d2,jS X.K H d1 x/\jS X.K H d2 y/\nJ d1<1000/\nJ d2<1000/\min (nJ d1) (nJ d2)<=50/\Q (.bl (if neg then !(wG d1 d2)else wG d1 d2)) H
theorem VQ(l:X.A.units+64<cLine):mQ X (compareOp .Eq) (Bc X false):=by intro U s Z H x y v u Q I f e h;obtain⟨b,a,k,j,d,c,hd,q⟩:=h;obtain⟨as,i⟩:=pN I d k f;obtain⟨bs,g⟩:=pN I c j e;have n:=pW b;have m:=pW a;refine SeqAt.compareEq_reads i g (xU b d) (xU a c) (by lia) ⟨.bl (wG b a),H,I,?_,q⟩;rw[LF b a d c];rfl
theorem VN(l:X.A.units+64<cLine):mQ X (compareOp .NotEq) (Bc X true):=by intro U s Z H x y v u Q I f e h;obtain⟨b,a,k,j,d,c,hd,q⟩:=h;obtain⟨as,i⟩:=pN I d k f;obtain⟨bs,g⟩:=pN I c j e;have n:=pW b;have m:=pW a;refine SeqAt.compareNe_reads i g (xU b d) (xU a c) (by lia) ⟨.bl (!(wG b a)),H,I,?_,q⟩;rw[LF b a d c];rfl
noncomputable def lO(d1 d2:D):Option D:=if nJ d1<1000/\nJ d2<1000/\min (nJ d1) (nJ d2)<=50 then some (.bl (wG d1 d2))else none
noncomputable def rH(d1 d2:D):Option D:=if nJ d1<1000/\nJ d2<1000/\min (nJ d1) (nJ d2)<=50 then some (.bl (!(wG d1 d2)))else none
theorem YQ:zN X.K (Bc X false) lO:=fun F H g f d j i Q fh b a e q=>by
 unfold lO at e;split at e
 ·rename_i h;have c:=Z2 e;subst c;exact⟨g,f,b.rep fh,a.rep fh,h.1,h.2.1,h.2.2,q _ F H (bZ.refl fh) rfl⟩
 ·cases e
theorem YN:zN X.K (Bc X true) rH:=fun F H g f d j i Q fh b a e q=>by
 unfold rH at e;split at e
 ·rename_i h;have c:=Z2 e;subst c;exact⟨g,f,b.rep fh,a.rep fh,h.1,h.2.1,h.2.2,q _ F H (bZ.refl fh) rfl⟩
 ·cases e
noncomputable def RT(p:Int->Int->Bool):D->D->Option D
 |.int i,.int j=>some (.bl (p i j))|_,_=>none
theorem oR{p:Int->Int->Bool}:zN K (UN fun i j=>.bl (p i j)) (RT p):=fun F H g f d k h Q fh b a e q=>by
 cases g<;>cases f<;>first|(simp[RT]at e;done)|skip
 rename_i i j;have c:=Z2 e;subst c;exact⟨i,j,b,a,q _ F H (bZ.refl fh) rfl⟩
def UO(K:Z4):R2:=fun x y H Q=>∃a b xs ys,x=.ref a/\y=.ref b/\cA K H a xs/\cA K H b ys/\xs.length+ys.length<=sizeLine/\
 (xs=[]->Q (.ref b) H)/\(ys=[]->Q (.ref a) H)/\∀p,H p=none->Q (.ref p) (cL H p (.tup (xs++ys)))
theorem VS:mQ X (binaryOp .Add) (UO X.K):=by
 intro U s Z H x y v u Q I q p h;obtain⟨a,b,o,C,rfl,rfl,w,t,M,J,G,F⟩:=h;by_cases k:o=[]
 ·cases q;cases p;obtain⟨d,E,L,_⟩:=I.tuple w;obtain⟨c,R,K,_⟩:=I.tuple t;obtain⟨⟨P,N,z,D⟩,r,hc,n,hd⟩:=id L;obtain⟨⟨A,l,m,j⟩,f,i,n2,g⟩:=id K;simp only at hc hd i g;subst hc hd i g;have e:d=[]:=E.nil_iff.mpr k;exact concat_meets ⟨_,r,rfl⟩ ⟨_,f,rfl⟩ A3 seq_tuple_add D7 E0 (E3 _ _)
   (tuple_addW0 a b d.toArray c.toArray n n2 N l D j (by simp[e])) ⟨r,f,⟨.ref b,H,I,rfl,J k⟩⟩
 ·exact Bz U s Z H (.ref a) (.ref b) v u Q I q p ⟨a,b,o,C,rfl,rfl,w,t,k,M,G,fun _=>F⟩
noncomputable def iV(f:Int->Int->Int):D->D->Option D
 |.int i,.int j=>some (.int (f i j))|_,_=>none
noncomputable def eO(c:Int->Int->Bool)(f:Int->Int->Int):D->D->Option D
 |.int i,.int j=>if c i j=true then some (.int (f i j))else none
 |_,_=>none
theorem Cc{f:Int->Int->Int}:zN K (UN fun i j=>.int (f i j)) (iV f):=fun F H h g d l k Q fh b a e q=>by
 cases h<;>cases g<;>first|(simp[iV]at e;done)|skip
 rename_i i j;have c:=Z2 e;subst c;exact⟨i,j,b,a,q _ F H (bZ.refl fh) rfl⟩
theorem NB{c:Int->Int->Bool}{C:Int->Int->Prop}{f:Int->Int->Int}(hc:∀i j,c i j=true->C i j):zN K (rI C fun i j=>.int (f i j)) (eO c f):=fun F H l k d n m Q fh b a e q=>by
 cases l<;>cases k<;>first|(simp[eO]at e;done)|skip
 rename_i i j;have e2:(if c i j=true then some (D.int (f i j))else none)=some d:=e;split at e2
 ·rename_i h;have g:=Z2 e2;subst g;exact⟨i,j,b,a,hc i j h,q _ F H (bZ.refl fh) rfl⟩
 ·cases e2
def dF(_ j:Int):Bool:=decide (0<j)
noncomputable def rD(_ j:Int):Bool:=decide (0<j)&&decide (j<1073741824)
noncomputable def dR(i j:Int):Bool:=(decide (-18446744073709551616<i)&&decide (i<18446744073709551616)) || (decide (-18446744073709551616<j)&&decide (j<18446744073709551616))
theorem VY(i j:Int)(h:rD i j=true):Sw i j:=by unfold rD at h;rw[X6]at h;exact⟨of_decide_eq_true h.1,of_decide_eq_true h.2⟩
theorem VX(i j:Int)(h:dR i j=true):ZO i j:=by
 unfold dR at h;rw[Pi,X6,X6]at h;have e:(2:Int) ^ 64=18446744073709551616:=(by decide);rcases h with h|h
 ·exact .inl ⟨by rw[e];exact of_decide_eq_true h.1,by rw[e];exact of_decide_eq_true h.2⟩
 ·exact .inr ⟨by rw[e];exact of_decide_eq_true h.1,by rw[e];exact of_decide_eq_true h.2⟩
variable{n:Nat}
def Gd(K:Z4):R2:=fun x y H Q=>(UN (fun i j=>.int (i+j))) x y H Q\/(∃i j,x=.str i/\y=.str j/\i.length+j.length<=sizeLine/\Q (.str (i++j)) H)\/UO K x y H Q\/Pf x y H Q
theorem Ca:mQ X (binaryOp .Add) (Gd X.K):=mQ.or Jf (mQ.or KJ (mQ.or VS Je))
noncomputable def cK:D->D->Option D
 |.int i,.int j=>some (.int (i+j))|.str i,.str j=>if i.length+j.length<=big then some (.str (i++j))else none
 |.tup l,.tup l'=>if l.length+l'.length<=big then some (.tup (l++l'))else none
 |.lst l,.lst l'=>if l.length+l'.length<=big then some (.lst (l++l'))else none
 |_,_=>none
theorem VW:zN X.K (Gd X.K) cK:=fun F H v u d x w Q fh t s e q=>by
 cases v<;>cases u<;>first|(simp[cK]at e;done)|skip
 ·rename_i i j;have h:=Z2 e;subst h;exact .inl ⟨i,j,t,s,q _ F H (bZ.refl fh) rfl⟩
 ·rename_i i j;have e2:(if i.length+j.length<=big then some (D.str (i++j))else none)=some d:=e;split at e2
  ·rename_i o;have h:=Z2 e2;subst h;exact .inr (.inl ⟨i,j,t,s,jD o,q _ F H (bZ.refl fh) rfl⟩)
  ·cases e2
 ·rename_i l n;have e2:(if l.length+n.length<=big then some (D.tup (l++n))else none)=some d:=e;split at e2
  ·rename_i o;have h:=Z2 e2;subst h;obtain⟨a,m,rfl,ht,g⟩:=t;obtain⟨b,k,rfl,f,c⟩:=s;refine .inr (.inr (.inl ⟨a,b,m,k,rfl,rfl,cA.same fh ht,cA.same fh f,by rw[<-g.length,<-c.length];exact jD o,fun z=>?_,fun z=>?_,fun p r=>?_⟩))
   ·have:l=[]:=List.length_eq_zero_iff.mp (by rw[g.length,z];rfl);subst this;exact q _ F H (bZ.refl fh) ⟨b,k,rfl,f,c⟩
   ·have:n=[]:=List.length_eq_zero_iff.mp (by rw[c.length,z];rfl);subst this;rw[Pv]at q;exact q _ F H (bZ.refl fh) ⟨a,m,rfl,ht,g⟩
   ·have hf:=fh.free r;exact q _ _ _ (eN fh r) ⟨p,m++k,rfl,cA.of aM,(g.append c).mono (bG hf)⟩
  ·cases e2
 ·rename_i l n;have e2:(if l.length+n.length<=big then some (D.lst (l++n))else none)=some d:=e;split at e2
  ·rename_i o;have h:=Z2 e2;subst h;obtain⟨a,m,rfl,ht,g⟩:=t;obtain⟨b,k,rfl,f,c⟩:=s;refine .inr (.inr (.inr ⟨a,b,m,k,rfl,rfl,ht,f,by rw[<-g.length,<-c.length];exact jD o,fun p r=>?_⟩));have hf:=fh.free r;exact q _ _ _ (eN fh r) ⟨p,m++k,rfl,aM,(g.append c).mono (bG hf)⟩
  ·cases e2
def Gb(K:Z4):R2:=fun x y H Q=>∃l k xs,x=.ref l/\y=.int k/\cA K H l xs/\-(2 ^ 63)<=k/\k<2 ^ 63/\xs.length*k.toNat<=sizeLine/\((xs=[]\/k=1)->Q (.ref l) H)/\
 ∀p,H p=none->Q (.ref p) (cL H p (.tup (List.replicate k.toNat xs).flatten))
theorem Bv:mQ X (binaryOp .Mult) (Gb X.K):=by
 intro U s Z H x y v u Q I f e h;obtain⟨l,k,d,rfl,rfl,m,w,n,c,i,g⟩:=h;cases f;obtain⟨t,rfl⟩:=e;obtain⟨j,r,p,_⟩:=I.tuple m;have a:=r.length;refine Cm p w n (by rw[<-a];exact c) (fun z=>⟨.ref l,H,I,rfl,i ?_⟩) ?_
 ·rcases z with z|z
  ·exact .inl (r.nil_iff.mp z)
  ·exact .inr z
 ·refine⟨.ref s.heap.objs.size,_,I.laid (t':=s.toks) (o:=.tup (List.replicate k.toNat d).flatten) (fun b ob q=>Z3 _ q) (Z5 _) ?_,rfl,g _ I.fresh⟩;exact⟨by rw[CV,L8];exact c,_,r.rep k.toNat,jH.new _ _⟩
def Gc(K:Z4):R2:=fun x y H Q=>(rI ZO (fun i j=>.int (i*j))) x y H Q\/Gb K x y H Q\/Ox x y H Q
theorem Bx:mQ X (binaryOp .Mult) (Gc X.K):=mQ.or Jc (mQ.or Bv VM)
noncomputable def lZ(n:Nat)(k:Int):Bool:=decide (k<=100000)&&decide (-100000<=k)&&decide (n*k.toNat<=big)
noncomputable def bU:D->D->Option D
 |.int i,.int j=>if dR i j=true then some (.int (i*j))else none
 |.tup l,.int k=>if lZ l.length k=true then some (.tup (List.replicate k.toNat l).flatten)else none
 |.lst l,.int k=>if lZ l.length k=true then some (.lst (List.replicate k.toNat l).flatten)else none
 |_,_=>none
theorem xM{k:Int}(h:lZ n k=true):-(2 ^ 63)<=k/\k<2 ^ 63/\n*k.toNat<=sizeLine:=by unfold lZ at h;rw[X6,X6]at h;have b:=of_decide_eq_true h.1.1;have a:=of_decide_eq_true h.1.2;exact⟨by lia,by lia,jD (of_decide_eq_true h.2)⟩
theorem VT:zN X.K (Gc X.K) bU:=fun F H v u d x w Q fh n m e q=>by
 cases v<;>cases u<;>first|(simp[bU]at e;done)|skip
 ·rename_i i j;have e2:(if dR i j=true then some (D.int (i*j))else none)=some d:=e;split at e2
  ·rename_i c;have g:=Z2 e2;subst g;exact .inl ⟨i,j,n,m,VX i j c,q _ F H (bZ.refl fh) rfl⟩
  ·cases e2
 ·rename_i l k;have e2:(if lZ l.length k=true then some (D.tup (List.replicate k.toNat l).flatten)else none)=some d:=e;split at e2
  ·rename_i c;have g:=Z2 e2;subst g;obtain⟨a,h,rfl,ht,b⟩:=n;obtain⟨s,r,o⟩:=xM c;refine .inr (.inl ⟨a,k,h,rfl,m,cA.same fh ht,s,r,by rw[<-b.length];exact o,fun z=>?_,fun p f=>?_⟩)
   ·have t:(List.replicate k.toNat l).flatten=l:=by
     rcases z with z|z
     ·have:l=[]:=List.length_eq_zero_iff.mp (by rw[b.length,z];rfl);subst this;exact List.length_eq_zero_iff.mp (by rw[CV];simp)
     ·subst z;show(List.replicate 1 l).flatten=l;simp
    rw[t]at q;exact q _ F H (bZ.refl fh) ⟨a,h,rfl,ht,b⟩
   ·have hf:=fh.free f;exact q _ _ _ (eN fh f) ⟨p,_,rfl,cA.of aM,(b.rep k.toNat).mono (bG hf)⟩
  ·cases e2
 ·rename_i l k;have e2:(if lZ l.length k=true then some (D.lst (List.replicate k.toNat l).flatten)else none)=some d:=e;split at e2
  ·rename_i c;have g:=Z2 e2;subst g;obtain⟨a,h,rfl,ht,b⟩:=n;obtain⟨s,r,o⟩:=xM c;refine .inr (.inr ⟨a,k,h,rfl,m,ht,s,r,by rw[<-b.length];exact o,fun p f=>?_⟩);have hf:=fh.free f;exact q _ _ _ (eN fh f) ⟨p,_,rfl,aM,(b.rep k.toNat).mono (bG hf)⟩
  ·cases e2
noncomputable def mH:D->Option D
 |.int i=>some (.int (-i))|_=>none
theorem ZV:SU X.K (rU fun i=>.int (-i)) mH:=fun F H c d f Q fh a e q=>by
 cases c<;>first|(simp[mH]at e;done)|skip
 rename_i i;have b:=Z2 e;subst b;exact⟨i,a,q _ F H (bZ.refl fh) rfl⟩
variable{B O:Hp}{Y:Addr->Hp->Prop}{pos:Pos}{c:Expr}{fa fb fc:DS->M VR}
section
variable{a b:Expr}
theorem cN(d:DE X B O Y a fa)(c:DE X B O Y b fb):DE X B O Y (.BinOp a .Add b pos) (aF cK fa fb):=yO Ca VW d c
theorem iM(d:DE X B O Y a fa)(c:DE X B O Y b fb):DE X B O Y (.BinOp a .Sub b pos) (aF (iV fun i j=>i-j) fa fb):=yO Jb Cc d c
theorem dW(d:DE X B O Y a fa)(c:DE X B O Y b fb):DE X B O Y (.BinOp a .Mult b pos) (aF bU fa fb):=yO Bx VT d c
theorem LM(d:DE X B O Y a fa)(c:DE X B O Y b fb):DE X B O Y (.BinOp a .FloorDiv b pos) (aF (eO rD fun i j=>i / j) fa fb):=yO By (NB VY) d c
theorem eK(d:DE X B O Y a fa)(c:DE X B O Y b fb):DE X B O Y (.BinOp a .Mod b pos) (aF (eO dF fun i j=>i%j) fa fb):=yO Jd (NB fun _ _ h=>of_decide_eq_true h) d c
theorem iN(b:DE X B O Y a fa):DE X B O Y (.UnaryOp .USub a pos) (cY mH fa):=Rh Hh ZV b
abbrev Mu:=RT fun i j=>decide (i<j)
abbrev Kv:=RT fun i j=>decide (i<=j)
abbrev JE:=RT fun i j=>decide (j<i)
abbrev Yr:=RT fun i j=>decide (j<=i)
theorem Rj(d:DE X B O Y a fa)(c:DE X B O Y b fb):DE X B O Y (.Compare a [.LtE] [b] pos) (aF Kv fa fb):=EA VO oR d c (jW _)
theorem Rk(d:DE X B O Y a fa)(c:DE X B O Y b fb):DE X B O Y (.Compare a [.Gt] [b] pos) (aF JE fa fb):=EA Gq oR d c (jW _)
theorem tM(c:X.A.units+64<cLine)(e:DE X B O Y a fa)(d:DE X B O Y b fb):DE X B O Y (.Compare a [.Eq] [b] pos) (aF lO fa fb):=EA (VQ c) YQ e d (jW _)
theorem Ri(c:X.A.units+64<cLine)(e:DE X B O Y a fa)(d:DE X B O Y b fb):DE X B O Y (.Compare a [.NotEq] [b] pos) (aF rH fa fb):=EA (VN c) YN e d (jW _)
theorem XJ(d:DE X B O Y a fa)(c:DE X B O Y b fb):DT X B O Y (.Compare a [.Lt] [b] pos) (eW (aF Mu fa fb)):=yM Pp oR d c (jW _)
theorem vK(d:DE X B O Y a fa)(c:DE X B O Y b fb):DT X B O Y (.Compare a [.Gt] [b] pos) (eW (aF JE fa fb)):=yM Gq oR d c (jW _)
theorem Ra(d:DE X B O Y a fa)(c:DE X B O Y b fb):DT X B O Y (.Compare a [.GtE] [b] pos) (eW (aF Yr fa fb)):=yM Pq oR d c (jW _)
theorem nA(c:X.A.units+64<cLine)(e:DE X B O Y a fa)(d:DE X B O Y b fb):DT X B O Y (.Compare a [.Eq] [b] pos) (eW (aF lO fa fb)):=yM (VQ c) YQ e d (jW _)
theorem pU(c:X.A.units+64<cLine)(e:DE X B O Y a fa)(d:DE X B O Y b fb):DT X B O Y (.Compare a [.NotEq] [b] pos) (eW (aF rH fa fb)):=yM (VN c) YN e d (jW _)
theorem Dx(f:DE X B O Y a fa)(e:DE X B O Y b fb)(hc:DE X B O Y c fc)(d:lastMarks [.LtE,.LtE] [b,c]=false:=by with_unfolding_all rfl):DE X B O Y (.Compare a [.LtE,.LtE] [b,c] pos) (yS Kv Kv fa fb fc):=XZ VO VO oR oR f e hc d
noncomputable def cZ:D->Option D
 |.tup l=>some (.int l.length)|.lst l=>some (.int l.length)|.scr l=>some (.int l.length)|.str x=>if x.length<=big then some (.int x.length)else none
 |_=>none
def Oy(K:Z4):List V->Hp->VK->Prop:=fun xs H Q=>(∃p ys,xs=[.ref p]/\(iA K H p ys\/cA K H p ys)/\Q (.int ys.length) H)\/(∃z,xs=[.str z]/\z.length<=sizeLine/\Q (.int z.length) H)
theorem ZW:SU X.K (fun x H Q=>Oy X.K [x] H Q) cZ:=fun F H j d h Q fh c e q=>by
 cases j<;>first|(simp[cZ]at e;done)|skip
 ·rename_i z;have e2:(if z.length<=big then some (D.int z.length)else none)=some d:=e;split at e2
  ·rename_i i;have b:=Z2 e2;subst b;obtain rfl:h=.str z:=c;exact .inr ⟨z,rfl,jD i,q _ F H (bZ.refl fh) rfl⟩
  ·cases e2
 ·rename_i l;have b:=Z2 e;subst b;obtain⟨a,f,rfl,ht,g⟩:=c;refine .inl ⟨a,f,rfl,.inr (cA.same fh ht),?_⟩;rw[<-g.length];exact q _ F H (bZ.refl fh) rfl
 ·rename_i l;have b:=Z2 e;subst b;obtain⟨a,f,rfl,ht,g⟩:=c;refine .inl ⟨a,f,rfl,.inl (iA.of ht),?_⟩;rw[<-g.length];exact q _ F H (bZ.refl fh) rfl
 ·rename_i l;have b:=Z2 e;subst b;obtain⟨a,rfl,ht⟩:=c;refine .inl ⟨a,_,rfl,.inl (fh.seq ht),?_⟩;rw[Y9];exact q _ F H (bZ.refl fh) rfl
theorem bV{p:Pos}(b:Gl X "len")(c:X.mg "len" = none)(d:DE X B O Y a fa)(he:starEach [a] X.env=(false,eval a X.env)::starEach [] X.env:=by rfl):DE X B O Y (.Call (.Name "len" p) [a] [] pos) (cY cZ fa):=
 Rl (r:=Oy X.K) (iB.or tQ EL) ZW b c PySem.boot_len d (by decide) (by decide) he
def BU:D->Option D
 |.int i=>some (.int i)|.bl k=>some (.int (if k then 1 else 0))|_=>none
theorem ZY:SU X.K (fun x H Q=>(∃i,[x]=[V.int i]/\Q (.int i) H)\/∃k,[x]=[V.bl k]/\Q (.int (if k then 1 else 0)) H) BU:=fun F H f d b Q fh c e q=>by
 cases f<;>first|(simp[BU]at e;done)|skip
 ·rename_i k;have a:=Z2 e;subst a;obtain rfl:b=.bl k:=c;exact .inr ⟨k,rfl,q _ F H (bZ.refl fh) rfl⟩
 ·rename_i i;have a:=Z2 e;subst a;obtain rfl:b=.int i:=c;exact .inl ⟨i,rfl,q _ F H (bZ.refl fh) rfl⟩
theorem DZ{p:Pos}(b:Gl X "int")(c:X.mg "int" = none)(d:DE X B O Y a fa)(he:starEach [a] X.env=(false,eval a X.env)::starEach [] X.env:=by rfl):DE X B O Y (.Call (.Name "int" p) [a] [] pos) (cY BU fa):=
 Gx BF ZY b c (by rfl) d (by decide) (by decide) he
def qY:D->Option D
 |.tup l=>some (.tup l)|.lst l=>some (.tup l)|_=>none
theorem ZU:SU X.K (fun x H Q=>∃p c,[x]=[V.ref p]/\((iA X.K H p c/\∀l,H l=none->Q (.ref l) (cL H l (.tup c)))\/(cA X.K H p c/\Q (.ref p) H))) qY:=fun F H j d k Q fh h e q=>by
 cases j<;>first|(simp[qY]at e;done)|skip
 ·rename_i l;have g:=Z2 e;subst g;obtain⟨a,b,rfl,ht,f⟩:=h;exact⟨a,b,rfl,.inr ⟨cA.same fh ht,q _ F H (bZ.refl fh) ⟨a,b,rfl,ht,f⟩⟩⟩
 ·rename_i l;have g:=Z2 e;subst g;obtain⟨a,b,rfl,ht,f⟩:=h;exact⟨a,b,rfl,.inl ⟨iA.of ht,fun p i=>q _ _ _ (eN fh i) ⟨p,b,rfl,cA.of aM,f.mono (bG (fh.free i))⟩⟩⟩
theorem jB{p:Pos}(b:Gl X "tuple")(c:X.mg "tuple" = none)(d:DE X B O Y a fa)(he:starEach [a] X.env=(false,eval a X.env)::starEach [] X.env:=by rfl):DE X B O Y (.Call (.Name "tuple" p) [a] [] pos) (cY qY fa):=
 Gx AB ZU b c (by rfl) d (by decide) (by decide) he
noncomputable def uW(f:DS->M VR):DS->M (List D):=fun S=>mb (f S) fun r=>match fS r with
 |.tup l=>some (.ok l)|.lst l=>some (.ok l)|.scr l=>some (.ok (l.map .int))|_=>none
theorem tK{p:Pos}(j:Gl X "list")(w:X.mg "list" = none)(x:DE X B O Y a fa)(he:starEach [a] X.env=(false,eval a X.env)::starEach [] X.env:=by rfl):DF X B O Y (.Call (.Name "list" p) [a] [] pos) (uW fa):=.mk fun U s Z H Q I q=>by
 refine kP EK j w (by rfl) (cH x.h eM he) (by decide) (by decide) he rfl U s Z H Q I ?_;obtain⟨F,S,n,o⟩:=q;refine⟨F,S,n,dD.mbF o fun r v m k e1 t f=>?_⟩;have h:=RR.rv e1.fh t;have c:∀(b:List V) (l:List D),aX X.K m l b->vQ X.K Y m k Q (some (.ok l))->∀p,k p=none->Q (.ref p) (cL k p (.lst b)):=fun b l e u p i=>u p b m _ (kI e1.fh i) i (e1.fh.free i) aM e;generalize fS r=d at h f;cases d<;>first|(exact False.elim f)|skip
 ·rename_i l;obtain⟨g,b,rfl,ht,e⟩:=h;exact⟨g,b,rfl,.inr (cA.same e1.fh ht),c b l e f⟩
 ·rename_i l;obtain⟨g,b,rfl,ht,e⟩:=h;exact⟨g,b,rfl,.inl (iA.of ht),c b l e f⟩
 ·rename_i l;obtain⟨g,rfl,ht⟩:=h;exact⟨g,_,rfl,.inl (e1.fh.seq ht),c _ _ (kN l) f⟩
noncomputable def wQ:D->String
 |.non=>"NoneType"|.bl _=>"bool"|.int _=>"int"|.str _=>"str"|.tup _=>"tuple"|.lst _=>"list"|.scr _=>"list"|.dic _ _=>"dict"
def gP(t T:String):Bool:=t==T || (t=="bool" &&T=="int")
end
variable{A:Around}{E Q:Value->Shared->Prop}{xs vs:List V}{x:Str}{p2:Pos}{α β:Type}{F' H':Hp}
section
variable{a b:Expr}
theorem HF{c:Value}{k:Bool}{a:Addr}(I:Inv X U Z H s)(h:iA X.K H a xs)(e:PySem.W.kitOne X.K (.type "list") c=some k)(q:∀tk,Q (.bool k) {s with toks:=tk}):wpAny (model X.prog X.w) A (call (.builtin "isinstance") [.ref a,c]) Q E s:=by obtain⟨b,_,⟨o,n,e1,e2,_⟩,_⟩:=I.list h;exact U4 C5 I.kIn ⟨o,e1,e2⟩ e (fun z=>nomatch z) q
theorem QS{c:Value}{k:Bool}{a:Addr}(I:Inv X U Z H s)(h:cA X.K H a xs)(e:PySem.W.kitOne X.K (.type "tuple") c=some k)(q:∀tk,Q (.bool k) {s with toks:=tk}):wpAny (model X.prog X.w) A (call (.builtin "isinstance") [.ref a,c]) Q E s:=by obtain⟨b,_,⟨o,e1,e2,_⟩,_⟩:=I.tuple h;exact U4 PySem.W.kitx_tuple I.kIn ⟨o,e1,e2⟩ e (fun z=>nomatch z) q
def Wo(K:Z4)(T:String):List V->Hp->VK->Prop:=fun xs H Q=>∃x d,xs=[x,.ty T]/\jS K H d x/\Q (.bl (gP (wQ d) T)) H
theorem YM(T:String)(h:∀K:Z4,∀d:D,PySem.W.kitOne K (.type (wQ d)) (.type T)=some (gP (wQ d) T)):iB X (.builtin "isinstance") (Wo X.K T):=by
 intro U s Z H i v Q I r q;obtain⟨x,d,rfl,f,q⟩:=q;obtain⟨u,p,rfl,c,rt⟩:=vals2 r;cases rt;have e:=h X.K d;have b:∀tk,EP X U Z Q (.bool (gP (wQ d) T)) {s with toks:=tk}:=fun tk=>⟨.bl _,H,I.tok tk,rfl,q⟩;cases d with
 |non=>obtain rfl:x=.non:=f;exact mV I c (qG.non) e b|bl y=>obtain rfl:x=.bl y:=f;exact mV I c (qG.bl y) e b|int y=>obtain rfl:x=.int y:=f;exact mV I c (qG.int y) e b|str y=>obtain rfl:x=.str y:=f;exact mV I c (qG.str y) e b|tup l=>obtain⟨a,j,rfl,ht,_⟩:=f;cases c;exact QS I ht e b|lst l=>obtain⟨a,j,rfl,ht,_⟩:=f;cases c;exact HF I (iA.of ht) e b|scr l=>obtain⟨a,rfl,ht⟩:=f;cases c;exact HF I ht e b
 |dic ks l=>
  obtain⟨a,g,rfl,ht,_⟩:=f;cases ks with
  |k ks=>obtain⟨g,ht,_⟩:=ht;exact mV I c (qG.dK ht) e b
  |t ks=>obtain⟨bs,ht,_⟩:=ht;cases c;obtain⟨⟨_,i,o,w,A,_,_,_,n,m,_⟩,_⟩:=(show cD X.prog X.w H s.heap a (.ext _)from I.hok a _ ht);exact U4 C4 I.kIn ⟨o,n,m.1⟩ e (fun z=>nomatch z) b
def oY(T:String):D->Option D:=fun d=>some (.bl (gP (wQ d) T))
theorem LL(T:String)(h:∀K:Z4,∀d:D,PySem.W.kitOne K (.type (wQ d)) (.type T)=some (gP (wQ d) T)){p:Pos}(t:bootBuiltins x=some (.type T))(c:x≠ "__name__")(e:(x==("__debug__" : Str))=false)(i:Gl X "isinstance")(n:X.mg "isinstance" = none)(b:Gl X x)(g:X.mg x=none)(u:DE X B O Y a fa)(he:starEach [a,.Name x p2] X.env=(false,eval a X.env)::starEach [.Name x p2] X.env)(j:starEach [.Name x p2] X.env=(false,eval (.Name x p2) X.env)::starEach [] X.env)(f:(backTo pos (starEach [.Name x p2] X.env)).any (·.1)=false) :
  DE X B O Y (.Call (.Name "isinstance" p) [a,.Name x p2] [] pos) (cY (oY T) fa):=.mk fun U s Z H Q I q=>by
 refine mS (YM T h) i n (by decide +kernel) (cH u.h (cH (MY (v:=.ty T) b g t rfl c e) eM j) he) (by decide) (by decide) he f U s Z H Q I ?_;obtain⟨F,S,k,o⟩:=q;refine⟨F,S,k,dD.mb o fun r v y w e1 l m=>?_⟩;exact⟨v,fS r,rfl,RR.rep e1.fh l,m _ y w (bZ.refl e1.fh) rfl⟩
theorem WU(K:Z4)(d:D):PySem.W.kitOne K (.type (wQ d)) (.type "bool")=some (gP (wQ d) "bool"):=by cases d<;>rfl
theorem Cw(K:Z4)(d:D):PySem.W.kitOne K (.type (wQ d)) (.type "int")=some (gP (wQ d) "int"):=by cases d<;>rfl
theorem kit_tuple(K:Z4)(d:D):PySem.W.kitOne K (.type (wQ d)) (.type "tuple")=some (gP (wQ d) "tuple"):=by cases d<;>rfl
theorem Kz:bootBuiltins "bool" = some (.type "bool"):=by decide +kernel
theorem Ky:bootBuiltins "int" = some (.type "int"):=by decide +kernel
theorem Kx:bootBuiltins "tuple" = some (.type "tuple"):=by decide +kernel
variable{p:Pos}
theorem IA(d:Gl X "isinstance")(e:X.mg "isinstance" = none)(b:Gl X "bool")(c:X.mg "bool" = none)(f:DE X B O Y a fa)(he:starEach [a,.Name "bool" p2] X.env=(false,eval a X.env)::starEach [.Name "bool" p2] X.env:=by rfl):DE X B O Y (.Call (.Name "isinstance" p) [a,.Name "bool" p2] [] pos) (cY (oY "bool") fa):=
 LL "bool" WU Kz (by decide) (by decide) d e b c f he rfl rfl
theorem LK(d:Gl X "isinstance")(e:X.mg "isinstance" = none)(b:Gl X "int")(c:X.mg "int" = none)(f:DE X B O Y a fa)(he:starEach [a,.Name "int" p2] X.env=(false,eval a X.env)::starEach [.Name "int" p2] X.env:=by rfl):DE X B O Y (.Call (.Name "isinstance" p) [a,.Name "int" p2] [] pos) (cY (oY "int") fa):=
 LL "int" Cw Ky (by decide) (by decide) d e b c f he rfl rfl
theorem kK(d:Gl X "isinstance")(e:X.mg "isinstance" = none)(b:Gl X "tuple")(c:X.mg "tuple" = none)(f:DE X B O Y a fa)(he:starEach [a,.Name "tuple" p2] X.env=(false,eval a X.env)::starEach [.Name "tuple" p2] X.env:=by rfl):DE X B O Y (.Call (.Name "isinstance" p) [a,.Name "tuple" p2] [] pos) (cY (oY "tuple") fa):=
 LL "tuple" kit_tuple Kx (by decide) (by decide) d e b c f he rfl rfl
noncomputable def bM:D->D->Option D
 |.tup l,.int i=>atI l i|.lst l,.int i=>atI l i|.scr l,.int i=>(atI l i).map .int|.str x,.int i=>if x.length<=big then(atI x.cps.toList i).map fun c=>.str ⟨#[c]⟩else none
 |_,_=>none
theorem aX.atI{F:Hp}{l:List D}{i:Int}{d:D}(r:aX K F l vs)(h:L2.atI l i=some d):∃v,L2.atI vs i=some v/\jS K F d v:=by
 unfold L2.atI at h ⊢;rw[<-r.length];cases z:FE l.length i with
 |none=>rw[z]at h;cases h
 |some j=>rw[z]at h;exact r.get h
theorem Er(f:α->β)(l:List α)(i:Int):L2.atI (l.map f) i=(L2.atI l i).map f:=by
 unfold L2.atI;rw[Y9];cases FE l.length i with
 |none=>rfl|some j=>simp
theorem Cb:zN X.K (Zr X.K) bM:=fun F H r p d t s Q fh f b e q=>by
 cases r<;>cases p<;>first|(simp[bM]at e;done)|skip
 ·rename_i x i;have e2:(if x.length<=big then(L2.atI x.cps.toList i).map fun c=>D.str ⟨#[c]⟩else none)=some d:=e;split at e2
  ·rename_i o;cases z:L2.atI x.cps.toList i with
   |none=>rw[z]at e2;cases e2
   |some c=>rw[z]at e2;have m:=Z2 e2;subst m;exact .inr (.inr ⟨x,i,c,f,b,jD o,z,q _ F H (bZ.refl fh) rfl⟩)
  ·cases e2
 ·rename_i l i;obtain⟨a,g,rfl,ht,h⟩:=f;obtain⟨v,k,j⟩:=h.atI e;exact .inr (.inl ⟨a,g,i,v,rfl,b,cA.same fh ht,k,q v F H (bZ.refl fh) j⟩)
 ·rename_i l i;obtain⟨a,g,rfl,ht,h⟩:=f;obtain⟨v,k,j⟩:=h.atI e;exact .inl ⟨a,g,i,v,rfl,b,iA.of ht,k,q v F H (bZ.refl fh) j⟩
 ·rename_i l i;obtain⟨a,rfl,ht⟩:=f;have e2:(L2.atI l i).map D.int=some d:=e;cases z:L2.atI l i with
  |none=>rw[z]at e2;cases e2
  |some n=>rw[z]at e2;have m:=Z2 e2;subst m;exact .inl ⟨a,l.map V.int,i,.int n,rfl,b,fh.seq ht,by rw[Er,z];rfl,q _ F H (bZ.refl fh) rfl⟩
theorem bP(e:DE X B O Y a fa)(d:DE X B O Y b fb)(c:OH b):DE X B O Y (.Subscript a b pos) (aF bM fa fb):=.mk fun U s Z H Q I h=>Gm Jx e.h d.h c U s Z H Q I (mI Cb h)
noncomputable def BC(g:D->D->Option D)(fa fb:DS->M VR):DS->M (List D):=fun S=>mb (fa S) fun r1=>mb (fb S) fun r2=>match g (fS r1) (fS r2)with
 |some (.lst l)=>some (.ok l)|_=>none
theorem DQ(z:DE X B O Y a fa)(y:DE X B O Y b fb):DF X B O Y (.BinOp a .Mult b pos) (BC bU fa fb):=.mk fun U s Z H Q I h=>by
 refine Gk VM z.h y.h U s Z H Q I ?_;obtain⟨F,S,st,o⟩:=h;refine⟨F,S,st,dD.mbF o fun t K G M e1 v w=>?_⟩;refine⟨G,S,st.step e1,dD.mbF w fun r J E L e2 u c=>?_⟩;have f:=RR.rv e2.fh (RR.step e2 v);have e:=RR.rv e2.fh u;generalize fS t=d1 at f c;generalize fS r=d2 at e c;have g:∃l k,d1=.lst l/\d2=.int k/\lZ l.length k=true:=by
  cases d1<;>cases d2<;>first|(exact False.elim c)|skip
  ·rename_i i j;by_cases d:dR i j=true
   ·simp only[bU,Z8 d]at c;exact False.elim c
   ·simp only[bU,Z6 d]at c;exact False.elim c
  ·rename_i i j;by_cases d:lZ i.length j=true
   ·simp only[bU,Z8 d]at c;exact False.elim c
   ·simp only[bU,Z6 d]at c;exact False.elim c
  ·rename_i i j;by_cases d:lZ i.length j=true
   ·exact⟨i,j,rfl,rfl,d⟩
   ·simp only[bU,Z6 d]at c;exact False.elim c
 obtain⟨l,k,rfl,rfl,d⟩:=g;simp only[bU,Z8 d]at c;obtain⟨x,q,rfl,ht,n⟩:=f;obtain⟨D,C,A⟩:=xM d;exact⟨x,k,q,rfl,e,ht,D,C,by rw[<-n.length];exact A,fun p m=>c p _ E _ (kI e2.fh m) m (e2.fh.free m) aM (n.rep k.toNat)⟩
def zU(Y:Addr->Hp->Prop)(F H:Hp)(Q:Option Int->Hp->Prop):M (Option Int)->Prop
 |none=>False|some (.error c)=>∀H',bR H H'->Y c H'|some (.ok o)=>∀F' H',bZ F H F' H'->Q o H'
def tO(K:Z4)(B O:Hp)(Y:Addr->Hp->Prop)(f:DS->M (Option Int)):TO:=fun Z H Q=>∃F S,cV K B O F H Z S/\zU Y F H Q (f S)
structure DO(X:Cx)(B O:Hp)(Y:Addr->Hp->Prop)(e:Option Expr)(f:DS->M (Option Int)):Prop where
 mk::
 h:PO X e (tO X.K B O Y f)
def wI:DS->M (Option Int):=fun _=>some (.ok none)
noncomputable def NX(f:DS->M VR):DS->M (Option Int):=fun S=>mb (f S) fun r=>match r with
 |.ok (.int i)=>some (.ok (some i))|_=>none
theorem NS:DO X B O Y none wI:=.mk fun U s Z H Q I ⟨F,S,sk,o⟩=>Bl U s Z H Q I (o F H (bZ.refl sk.ext.fh))
theorem zU.step{F:Hp}{Q:Option Int->Hp->Prop}{x:M (Option Int)}(e:bZ F H F' H')(h:zU Y F H Q x):zU Y F' H' Q x:=by
 match x,h with
 |some (.error c),h=>exact fun a s=>h a (e.hh.trans s)
 |some (.ok b),h=>exact fun d a e2=>h d a (e.trans e2)
theorem NR(h:DE X B O Y a fa):DO X B O Y (some a) (NX fa):=.mk fun U s Z H Q I q=>by
 refine Bk h.h U s Z H Q I ?_;obtain⟨F,S,c,o⟩:=q;refine⟨F,S,c,dD.bind (G:=fun F H z=>zU Y F H Q z) (fun e h=>zU.step e h) (fun _ _ h=>h) (fun _ _ _ h=>h) o fun r v j g e1 f b=>?_⟩;cases r with
 |bor l=>exact False.elim b|bod ks l=>exact False.elim b
 |ok d=>
  cases d with
  |int i=>exact⟨i,f,b j g (bZ.refl e1.fh)⟩|_=>exact False.elim b
def Ov(K:Z4):V->Option Int->Option Int->Hp->VK->Prop:=fun x lo hi H Q=>∃a xs,x=.ref a/\cA K H a xs/\(vV xs lo hi=xs->Q (.ref a) H)/\∀p,H p=none->Q (.ref p) (cL H p (.tup (vV xs lo hi)))
theorem Ap:Et X (Ov X.K):=by
 intro U s Z H x v l k lo hi m Q I g f pl i h;obtain⟨a,b,rfl,j,p,o⟩:=h;by_cases hw:HT.sIx b.length 0 lo=0/\HT.sIx b.length b.length hi=b.length
 ·cases g;obtain⟨e,r,ht,q⟩:=I.tuple j;have c:e.toArray.size=b.length:=by rw[Y7];exact r.length.symm
  refine⟨"tuple",_,L3.lookup,ht.typeIs,?_⟩;have d:vV b lo hi=b:=(by unfold vV;rw[hw.1,hw.2,M1,U6,KB]);refine mY (lo:=((HT.sIx b.length 0 lo:Nat):Int)) (step:=1) (n:=HT.sIx b.length b.length hi-HT.sIx b.length 0 lo) ht f (fun w t u h=>?_) ?_ (fun _=>⟨.ref a,H,I,rfl,p d⟩) (fun h=>?_)
  ·rw[c];exact HT.mR f pl i h
  ·refine W2 (E2 _ _) ?_;rw[U7];have:=HT.UI b.length b.length (Z5 _) hi;lia
  ·rw[hw.1,hw.2,c]at h;simp at h
 ·exact Hv U s Z H (.ref a) v l k lo hi m Q I g f pl i ⟨a,b,rfl,j,hw,o⟩
noncomputable def cutD{α:Type}(xs:List α)(lo hi:Option Int):List α:=(xs.drop (HT.sIx xs.length 0 lo)).take (HT.sIx xs.length xs.length hi-HT.sIx xs.length 0 lo)
noncomputable def wZ(d:D)(lo hi:Option Int):Option D:=match d with
 |.tup l=>some (.tup (cutD l lo hi))|.lst l=>some (.lst (cutD l lo hi))|_=>none
noncomputable def ED(f:DS->M VR)(fl fh:DS->M (Option Int)):DS->M VR:=fun S=>mb (f S) fun r=>mb (fl S) fun lo=>mb (fh S) fun hi=>vr (wZ (fS r) lo hi)
theorem aX.cut{F:Hp}{l:List D}(r:aX K F l vs)(lo hi:Option Int):aX K F (cutD l lo hi) (vV vs lo hi):=by unfold cutD vV;rw[r.length];exact(r.drop _).take _
theorem zU.bind{x:M (Option Int)}{F:Hp}{f:Option Int->Hp->Prop}{k:Option Int->M β}{G:Hp->Hp->M β->Prop}(gs:∀{F H F' H':Hp} {z:M β},bZ F H F' H'->G F H z->G F' H' z)(i:∀F H,G F H none->False)(j:∀F H c,G F H (some (.error c))->∀H',bR H H'->Y c H')(h:G F H (mb x k))(g:∀b d a,bZ F H d a->G d a (k b)->f b a):zU Y F H f x:=by
 match x,h with
 |none,h=>exact i _ _ h|some (.error c),h=>exact j _ _ c h|some (.ok b),h=>exact fun d a e=>g b d a e (gs e h)
theorem HZ{lo hi:Option Expr}{w fh:DS->M (Option Int)}(E:DE X B O Y a fa)(D:DO X B O Y lo w)(hh:DO X B O Y hi fh):DE X B O Y (.Subscript a (.Slice lo hi none p2) pos) (ED fa w fh):=.mk fun U s Z H Q I q=>by
 refine VC (Et.or Ap Aq) E.h D.h hh.h U s Z H Q I ?_;obtain⟨F,S,k,o⟩:=q;refine⟨F,S,k,dD.mb o fun r v K N e1 y C=>?_⟩;refine⟨K,S,k.step e1,zU.bind (G:=fun F H z=>dD X.K O Y F H Q z) (fun e h=>h.step e) (fun _ _ h=>h) (fun _ _ _ h=>h) C fun lo J L e2 A=>?_⟩;refine⟨J,S,(k.step e1).step e2,zU.bind (G:=fun F H z=>dD X.K O Y F H Q z) (fun e h=>h.step e) (fun _ _ h=>h) (fun _ _ _ h=>h) A fun hi t n b j=>?_⟩;have m:=RR.rv b.fh (RR.step b (RR.step e2 y));generalize fS r=d at m j;cases d<;>first|(exact False.elim j)|skip
 ·rename_i l;obtain⟨x,f,rfl,ht,g⟩:=m;have i:dD X.K O Y t n Q (some (.ok (.ok (.tup (cutD l lo hi))))):=j;refine .inl ⟨x,f,rfl,cA.same b.fh ht,fun z=>?_,fun p c=>?_⟩
  ·have u:=g.cut lo hi;rw[z]at u;exact i _ t n (bZ.refl b.fh) ⟨x,f,rfl,ht,u⟩
  ·exact i _ _ _ (eN b.fh c) ⟨p,_,rfl,cA.of aM,(g.cut lo hi).mono (bG (b.fh.free c))⟩
 ·rename_i l;obtain⟨x,f,rfl,ht,g⟩:=m;have i:dD X.K O Y t n Q (some (.ok (.ok (.lst (cutD l lo hi))))):=j;exact .inr ⟨x,f,rfl,iA.of ht,fun p c=>i _ _ _ (eN b.fh c) ⟨p,_,rfl,aM,(g.cut lo hi).mono (bG (b.fh.free c))⟩⟩
end
variable{prog:Program}{w:World}{it:Addr}{i:Nat}{its:Array Value}{old:Value}
theorem KL{t:Addr}{x:Value}(I:s.heap.IsTupleIter it t i)(T:s.heap.IsTuple t its)(e:its[i]? = some x)(q:∀d,d.IsTupleIter it t (i+1)->Heap.SameBut it s.heap d->Q x {s with heap:=d}):wpAny (model prog w) A (Builtin.SmallTypes.nextOf (.ref it)) Q E s:=by obtain⟨j,a,g,b⟩:=id I;obtain⟨h,c,_,k,f⟩:=T;unfold Builtin.SmallTypes.nextOf;refine Z9 (T7 (name:=Str.ofString "__next__") I.typeIs K9 (W1 K9 I.typeIs y8 ?_ (zh _)));show wpAny _ _ (field (.ref it) 0 >>= _) _ _ s;refine Z9 (X0 a b (x:=.ref t) rfl ?_);show wpAny _ _ (if(Value.ref t==Value.none)=true then _ else _) _ _ s;rw[Z6 (show ¬((Value.ref t==Value.none)=true)from W6)];show wpAny _ _ (field (.ref it) 1 >>= _) _ _ s;refine Z9 (X0 a b (x:=.int i 0) rfl ?_);show wpAny _ _ (seqItems? (.ref t) >>= _) _ _ s;refine Z9 (R3 c f ?_);simp only[e,T4];refine Z9 (SC a b (by simp) (Z7 ⟨x,rfl,Z7 (q _ ⟨_,U2 _ a (Os (U8 b _)),(N6 ..).trans g,?_⟩ (V2 ..))⟩));rw[U8 b];simp[rawInt]
theorem xO{t:Addr}(hh:A.handled=none)(I:s.heap.IsTupleIter it t i)(T:s.heap.IsTuple t its)(g:its[i]? = none)(q:∀d e,Heap.ExtBut it s.heap d->(∃o,d.get? e=some o/\o.cls=.type "StopIteration")->E (.ref e) {s with heap:=d}):wpAny (model prog w) A (Builtin.SmallTypes.nextOf (.ref it)) Q E s:=by
 obtain⟨k,b,n,f⟩:=id I;obtain⟨j,c,_,l,h⟩:=T;unfold Builtin.SmallTypes.nextOf;refine Z9 (T7 (name:=Str.ofString "__next__") I.typeIs K9 (W1 K9 I.typeIs y8 ?_ (zh _)));show wpAny _ _ (field (.ref it) 0 >>= _) _ _ s;refine Z9 (X0 b f (x:=.ref t) rfl ?_);show wpAny _ _ (if(Value.ref t==Value.none)=true then _ else _) _ _ s;rw[Z6 (show ¬((Value.ref t==Value.none)=true)from W6)];show wpAny _ _ (field (.ref it) 1 >>= _) _ _ s;refine Z9 (X0 b f (x:=.int i 0) rfl ?_);show wpAny _ _ (seqItems? (.ref t) >>= _) _ _ s;refine Z9 (R3 c h ?_);simp only[g,T4];refine Z9 (T8 (Z9 (SC b f (by simp) ?_)))
 (show wpAny _ _ (newExc (.type "StopIteration") [] >>= _) _ _ _);refine Z9 ?_;simp only[newExc,newTuple];refine Z9 (W5 ?_ (by size_fits))
 refine Z9 (m:=firstArgMember _ _) (S5 (a:=Value.none) (by first|rfl|(simp only[firstArgMember];rfl)) ?_);refine W5 ?_ (by size_fits);simp only[raiseNew];refine Z9 (F5 ?_);first|rw[show A.in1.handled=none from hh]|rw[hh]
 exact Z9 (Z7 (E7 (q _ _ (((V2 ..).extBut.push _).push _) ⟨_,X9 _ rfl,rfl⟩)))
theorem RB{e:Addr}{x:Value}(X:Heap->Prop)(he:IsEnum s.heap e it i old)(f:e≠it)(nx:∀V:Value->Shared->Prop,(∀a,X a->Heap.SameBut it s.heap a->V x {s with heap:=a})->wpAny (model prog w) A (Builtin.SmallTypes.nextOf (.ref it)) V E s)(g:∀h a,X h->(∀o,h.get? it=some o->a.get? it=some o)->X a) (q:∀a,IsEnumOut a e it ((i:Int)+1) x s.heap.objs.size->X a->a.get? s.heap.objs.size=some {cls:=.type "tuple",data:=.seq #[.int i s.toks,x]}->a.objs.size=s.heap.objs.size+1->
   (∀b o,b≠e->b≠it->s.heap.get? b=some o->a.get? b=some o)->Q (.ref s.heap.objs.size) {s with heap:=a,toks:=s.toks+1}) :
  wpAny (model prog w) A (Builtin.«enumerate.__next__» ⟨[.ref e],[]⟩) (fun N s'=>∃v,N=.done (.ret v)/\Q v s') E s:=by
 obtain⟨d,l,m,tk,j⟩:=s;show wpAny _ _ (field (.ref e) 2 >>= _) _ _ _;refine Z9 (X0 he rfl (x:=.ref it) rfl (Z9 (nx _ fun k T u=>?_)))
 replace u:Heap.SameBut it d k:=u
 have e1:IsEnum k e it i old:=(u.2 e f).trans he;show wpAny _ _ (field (.ref e) 3 >>= _) _ _ ⟨k,l,m,tk,j⟩;refine Z9 (X0 e1 rfl (x:=rawInt i) rfl ?_);show wpAny _ _ (field (.ref e) 4 >>= _) _ _ ⟨k,l,m,tk,j⟩;refine Z9 (X0 e1 rfl (x:=.none) rfl ?_);show wpAny _ _ (mkInt i >>= _) _ _ ⟨k,l,m,tk,j⟩;refine Z9 (wpAny_mkInt ?_);show wpAny _ _ (setField (.ref e) 3 (rawInt ((i:Int)+1)) >>= _) _ _ ⟨k,l,m,tk+1,j⟩;refine Z9 (Q7 e1 (by simp) fun F e2 t=>?_)
 replace t:Heap.SameBut e k F:=t
 replace e2:IsEnum F e it ((i:Int)+1) old:=e2
 show wpAny _ _ (setField (.ref e) 4 .none >>= _) _ _ ⟨F,l,m,tk+1,j⟩;refine Z9 (Q7 e2 (by simp) fun p H r=>?_)
 replace r:Heap.SameBut e F p:=r
 replace H:IsEnum p e it ((i:Int)+1) old:=H
 show wpAny _ _ (newTuple [.int i tk,x] >>= _) _ _ ⟨p,l,m,tk+1,j⟩;refine Z9 (zx ?_);have G:IsEnum (p.push {cls:=.type "tuple",data:=.seq #[.int i tk,x]}) e it ((i:Int)+1) old:=Z3 _ H;generalize c:p.push {cls:=.type "tuple",data:=.seq #[.int i tk,x]}=h4 at G;have C:p.objs.size=d.objs.size:=(by rw[r.1,t.1,u.1]);have el:e<d.objs.size:=Z1 he;have t4:h4.get? d.objs.size=some {cls:=.type "tuple",data:=.seq #[.int i tk,x]}:=(by rw[<-c,<-C];exact X9 _ rfl);have W:h4.objs.size=d.objs.size+1:=(by rw[<-c,O6,C]);have k4:∀b o,b≠e->b≠it->d.get? b=some o->h4.get? b=some o:=fun b o n1 n2 y=>(by rw[<-c];exact Z3 _ (r.extBut b o n1 (t.extBut b o n1 (u.extBut b o n2 y))));have x4:X h4:=by rw[<-c];exact g k _ T fun o L=>Z3 _ (r.extBut it o (Y8 f) (t.extBut it o (Y8 f) L))
 (show wpAny _ _ (Builtin.SmallTypes.ownedTupleIsFree (.ref e) >>= _) _ _ ⟨h4,l,m,tk+1,j⟩);rw[C]
 clear c H r e2 t e1 u T C;refine Z9 ?_;unfold Builtin.SmallTypes.ownedTupleIsFree;refine Z9 (X0 G rfl (x:=.none) rfl (Z7 ?_));simp only[V0];refine Z9 (T8 (Z9 (X0 G rfl (x:=old) rfl (Z9 (Q7 G (by simp) fun D S K=>?_)))))
 replace K:Heap.SameBut e h4 D:=K
 replace S:IsEnum D e it ((i:Int)+1) x:=S
 show wpAny _ _ (Builtin.SmallTypes.ownedTupleHandOut (.ref e) (.ref d.objs.size) >>= _) _ _ ⟨D,l,m,tk+1,j⟩;refine Z9 ?_;unfold Builtin.SmallTypes.ownedTupleHandOut;refine Z9 (Q7 S (by simp) fun M R J=>?_)
 replace J:Heap.SameBut e D M:=J
 replace R:IsEnumOut M e it ((i:Int)+1) x d.objs.size:=R
 refine Q7 R (by simp) fun z P I=>?_
 replace I:Heap.SameBut e M z:=I
 replace P:IsEnumOut z e it ((i:Int)+1) x d.objs.size:=P
 have up:∀b o,b≠e->h4.get? b=some o->z.get? b=some o:=fun b o n y=>I.extBut b o n (J.extBut b o n (K.extBut b o n y));exact Z9 (wpAny_letGo (Z7 ⟨_,rfl,q z P (g h4 z x4 fun o L=>up it o (Y8 f) L) (up _ _ (SB el) t4) (by rw[I.1,J.1,K.1,W]) fun b o n1 n2 y=>up b o n1 (k4 b o n1 n2 y)⟩))
theorem RC{e:Addr}{x:Value}{Q:Option Value->Shared->Prop}(X:Heap->Prop)(he:IsEnum s.heap e it i old)(l:e≠it)(nx:∀j E,(∀f,X f->Heap.SameBut it s.heap f->j x {s with heap:=f})->wpAny (model prog w) A.in1 (Builtin.SmallTypes.nextOf (.ref it)) j E s)(g:∀h f,X h->(∀o,h.get? it=some o->f.get? it=some o)->X f) (q:∀f,IsEnumOut f e it ((i:Int)+1) x s.heap.objs.size->X f->f.get? s.heap.objs.size=some {cls:=.type "tuple",data:=.seq #[.int i s.toks,x]}->f.objs.size=s.heap.objs.size+1->
   (∀b o,b≠e->b≠it->s.heap.get? b=some o->f.get? b=some o)->Q (some (.ref s.heap.objs.size)) {s with heap:=f,toks:=s.toks+1}):wpAny (model prog w) A (pyNext (.ref e)) Q E s:=by
 have hT:s.TypeIs (.ref e) "enumerate" :=⟨_,he,rfl⟩;unfold pyNext;exact Z9 (Ta (T7 (name:=Str.ofString "__next__") hT K2 (W1 K2 hT F.entry_enumerate_next (RB X he l (fun j h=>nx j _ h) g fun f a b c d k=>Z7 (q f a b c d k)) (F.args_enumerate_next_1 _))))
theorem RA{e:Addr}{Q:Option Value->Shared->Prop}(he:IsEnum s.heap e it i old)(nx:∀c E,(∀a u,Heap.ExtBut it s.heap a->(∃o,a.get? u=some o/\o.cls=.type "StopIteration")->E (.ref u) {s with heap:=a})->wpAny (model prog w) A.in1 (Builtin.SmallTypes.nextOf (.ref it)) c E s)(q:∀a,Heap.ExtBut it s.heap a->Q none {s with heap:=a}):wpAny (model prog w) A (pyNext (.ref e)) Q E s:=by have hT:s.TypeIs (.ref e) "enumerate" :=⟨_,he,rfl⟩;unfold pyNext;refine Z9 (Ta (T7 (name:=Str.ofString "__next__") hT K2 (W1 K2 hT F.entry_enumerate_next ?_ (F.args_enumerate_next_1 _))));show wpAny _ _ (field (.ref e) 2 >>= _) _ _ _;refine Z9 (X0 he rfl (x:=.ref it) rfl (Z9 (nx _ _ fun a u b ⟨o,ho,hc⟩=>?_)));exact Z9 (T3 (T:="StopIteration") (b:=true) ⟨o,ho,hc⟩ GT (Z7 (q _ b)))
variable{h':Heap}{o:HO}
theorem FI{t':Nat}{e T:Addr}(I:Inv X U Z H s)(k:∀b u,b≠e->b≠it->s.heap.get? b=some u->h'.get? b=some u)(y:qH X U H e)(x:qH X U H it)(hT:s.heap.objs.size<=T)(new:cD X.prog X.w (cL H T o) h' T o):Inv X U Z (cL H T o) {s with heap:=h',toks:=t'}:=by
 obtain⟨M,i,Q,L,K,J⟩:=y;obtain⟨G,h,P,F,E,D⟩:=x;have t:H T=none:=I.hok.fresh hT;have l:∀b u,s.heap.get? b=some u->b≠T:=fun b u q z=>absurd (X8 (Z1 q) (z▸hT)) (U3 _);have f:∀b,b∉[e,it]->b≠e/\b≠it:=fun b a=>⟨fun z=>a (by simp[z]),fun z=>a (by simp[z])⟩;have d:∀b u,H b=some u->b≠e/\b≠it:=fun b u q=>⟨fun z=>(by rw[z,M]at q;cases q),fun z=>(by rw[z,G]at q;cases q)⟩;have g:∀b u,b∉[e,it]->s.heap.get? b=some u->h'.get? b=some u:=fun b u a q=>k b u (f b a).1 (f b a).2 q;have up:∀b u,H b=some u->cL H T o b=some u:=fun b u q=>(by rw[aJ (aV q t)];exact q);refine I.step (g':=s.gens) (d':=s.drawn) (ch:=[e,it]) (fun b a=>?_) (fun b u _ _ hc q _=>g b u hc q) (fun b u _ _ hc q _=>⟨u.slots,g b u hc q⟩) (fun b u _ q n=>by rw[aJ (l b u q)];exact n)
  (fun b u hc q=>⟨u,g b u hc q⟩) (fun b j q=>up b _ q) (fun b u v q=>up b _ q) (fun b N q=>⟨#[],by rw[up b _ q];simp⟩) (fun m w=>?_) (fun b u q=>?_) I.bare
 ·have z:b=e\/b=it:=(by simpa using a);rcases z with z|z
  ·subst z;exact⟨L,i,K,J⟩
  ·subst z;exact⟨F,h,E,D⟩
 ·obtain⟨ob,A,C,p,r⟩:=w;exact⟨ob,A,C,k _ ob (Y8 i) (Y8 h) p,r⟩
 ·by_cases a:b=T
  ·subst a;rw[aM]at q;cases q;exact new
  ·rw[aJ a]at q;refine(I.hok b u q).stay (fun c v hc z=>?_) (fun c z=>up c _ z) fun c j z=>up c _ z;rcases hc with hc|hc
   ·subst hc;exact k _ v (d _ u q).1 (d _ u q).2 z
   ·exact k c v (d c _ hc).1 (d c _ hc).2 z
theorem JI{t':Nat}{e:Addr}(I:Inv X U Z H s)(k:∀b u,b≠e->b≠it->s.heap.get? b=some u->h'.get? b=some u)(t:qH X U H e)(p:qH X U H it):Inv X U Z H {s with heap:=h',toks:=t'}:=by
 obtain⟨J,i,M,G,F,E⟩:=t;obtain⟨D,h,L,C,A,y⟩:=p;have f:∀b,b∉[e,it]->b≠e/\b≠it:=fun b d=>⟨fun z=>d (by simp[z]),fun z=>d (by simp[z])⟩;have a:∀b u,H b=some u->b≠e/\b≠it:=fun b u q=>⟨fun z=>(by rw[z,J]at q;cases q),fun z=>(by rw[z,D]at q;cases q)⟩;have g:∀b u,b∉[e,it]->s.heap.get? b=some u->h'.get? b=some u:=fun b u d q=>k b u (f b d).1 (f b d).2 q;refine I.step (g':=s.gens) (d':=s.drawn) (ch:=[e,it]) (fun b d=>?_) (fun b u _ _ hc q _=>g b u hc q) (fun b u _ _ hc q _=>⟨u.slots,g b u hc q⟩) (fun b u _ q n=>n)
  (fun b u hc q=>⟨u,g b u hc q⟩) (fun b j q=>q) (fun b u v q=>q) (fun b K q=>⟨#[],by rw[q];simp⟩) (fun m o=>?_) (fun b u q=>?_) I.bare
 ·have z:b=e\/b=it:=(by simpa using d);rcases z with z|z
  ·subst z;exact⟨G,i,F,E⟩
  ·subst z;exact⟨C,h,A,y⟩
 ·obtain⟨ob,w,x,l,r⟩:=o;exact⟨ob,w,x,k _ ob (Y8 i) (Y8 h) l,r⟩
 ·refine(I.hok b u q).stay (fun c v hc z=>?_) (fun c z=>z) fun c j z=>z;rcases hc with hc|hc
  ·subst hc;exact k _ v (a _ u q).1 (a _ u q).2 z
  ·exact k c v (a c _ hc).1 (a c _ hc).2 z
def Hb(SQ:Hp->List V->Prop):It:=
 ⟨fun i H=>∃xs x,SQ H xs/\xs[i]? = some x,fun i H x H'=>∃T v,x=.ref T/\H T=none/\H'=cL H T (.tup [.int i,v])/\∀xs,SQ H xs->xs[i]? = some v,fun i H=>∃xs,SQ H xs/\xs.length<=i⟩
variable{P:Program}{elts:List Expr}{kt:Nat}
theorem AG{R:Pos}{SQ:Hp->List V->Prop}{IT:Nat->Heap->Prop}(e a:Addr)(g:e≠a)(obj:∀i h,IT i h->∃o,h.get? a=some o/\∀v,o.data≠.cell v)(d:∀i h h',IT i h->(∀o,h.get? a=some o->h'.get? a=some o)->IT i h') (item:∀(X:Cx),X.prog=P->X.w=w->X.K=K->∀(i:Nat) (U:List (Addr×Obj)) (s:Shared) (Z:St) (H:Hp) (xs:List V) (x:V),Inv X U Z H s->SQ H xs->xs[i]? = some x->IT i s.heap->
   (∀l,SQ H l->l=xs)/\∃u,RelV x u/\∀(A:Around) (Q:Value->Shared->Prop) (E:Value->Shared->Prop),(∀h',IT (i+1) h'->Heap.SameBut a s.heap h'->Q u {s with heap:=h'})->wpAny (model P w) A (Builtin.SmallTypes.nextOf (.ref a)) Q E s) (done:∀(X:Cx),X.prog=P->X.w=w->X.K=K->∀(i:Nat) (U:List (Addr×Obj)) (s:Shared) (Z:St) (H:Hp) (xs:List V),Inv X U Z H s->SQ H xs->xs.length<=i->IT i s.heap->
   ∀(A:Around) (Q:Value->Shared->Prop) (E:Value->Shared->Prop),A.handled=none->(∀h' u,Heap.ExtBut a s.heap h'->(∃o,h'.get? u=some o/\o.cls=.type "StopIteration")->E (.ref u) {s with heap:=h'})->wpAny (model P w) A (Builtin.SmallTypes.nextOf (.ref a)) Q E s) :
  IU P w K (.Tuple elts kt R) (Hb SQ) [e,a] e (fun i h=>(∃old,IsEnum h e a i old)/\IT i h) where
 mem:=by simp
 obj:=fun i h st b p=>by
  obtain⟨⟨old,he⟩,hi⟩:=st;have z:b=e\/b=a:=(by simpa using p);rcases z with z|z
  ·subst z;exact⟨_,he,fun v z=>by cases z⟩
  ·subst z;exact obj i h hi
 keep:=fun i h h' st k=>by obtain⟨⟨old,he⟩,hi⟩:=st;exact⟨⟨old,k e (by simp) _ he⟩,d i h h' hi fun o q=>k a (by simp) o q⟩
 item:=by
  intro X F hw G hc i U s Z H E I hf st y;obtain⟨⟨old,he⟩,hi⟩:=st;obtain⟨xs,x,r,m⟩:=y;obtain⟨inj,u,N,nx⟩:=item X F hw G i U s Z H xs x I r m hi;have fe:=hf e (by simp);have fi:=hf a (by simp);have hn:H s.heap.objs.size=none:=I.hok.fresh (Z5 _);refine RC (fun h=>IT (i+1) h) he g (fun L M=>nx _ L M) (d (i+1)) fun h' ho t hT W k=>⟨_,rfl,?_⟩;refine wpAny_letOwnedTupleGo_enum ho fun J C j=>?_
  replace j:Heap.SameBut e h' J:=j
  have f:e<s.heap.objs.size:=Z1 he;have D:=(j.2 s.heap.objs.size (SB f)).trans hT;have I2:Inv X U Z (cL H s.heap.objs.size (.tup [.int i,x])) {s with heap:=J,toks:=s.toks+1}:=(by refine FI I (fun b v n1 n2 q=>(j.2 b n1).trans (k b v n1 n2 q)) fe fi (Z5 _) ?_;exact⟨by show 2<=sizeLine;decide,[.int i s.toks,u],.cons ⟨_,rfl⟩ (.cons N .nil),_,D,rfl,_,rfl,rfl⟩);refine⟨.ref s.heap.objs.size,_,I2,rfl,⟨_,x,rfl,hn,rfl,fun l T=>by rw[inj l T];exact m⟩,⟨⟨u,by simpa using C⟩,d (i+1) h' J t fun o q=>(j.2 a (Y8 g)).trans q⟩,fun b p=>?_⟩;have S:b≠s.heap.objs.size:=by
   have z:b=e\/b=a:=(by simpa using p);rcases z with z|z
   ·subst z;exact Y6 f
   ·subst z;obtain⟨o,q,_⟩:=obj i _ hi;exact Y6 (Z1 q)
  rw[aJ S];exact(hf b p).1
 done:=by intro X F hw G hc i U s Z H E I hf st y;obtain⟨⟨old,he⟩,hi⟩:=st;obtain⟨xs,r,m⟩:=y;subst F hw;refine RA he (fun L M h=>done X rfl rfl G i U s Z H xs I r m hi _ L M ?_ h) fun h' b=>⟨rfl,JI (t':=s.toks) I (fun c v _ n q=>b c v n q) (hf e (by simp)) (hf a (by simp))⟩;exact I.ok.hd hc
 self:=fun _ _ _ _ _ st h=>by obtain⟨⟨old,he⟩,_⟩:=st;exact A6 he h
theorem xR(l:Addr)(a:Array Value)(n:Nat)(d:Option Addr)(g:Array (Option Value)) :
  Meets (Builtin.«enumerate.__new__» ⟨[.type "enumerate",.ref l],[]⟩) (fun _ R s=>s.heap.get? l=some {cls:=.type "tuple",dict:=d,data:=.seq a n,slots:=g}/\
   R (.ok (.ret (.ref (s.heap.push {cls:=.type "tuple_iterator",data:=.fields #[.ref l,.int 0 0]}).objs.size)))
    {s with heap:=(s.heap.push {cls:=.type "tuple_iterator",data:=.fields #[.ref l,.int 0 0]}).push {cls:=.type "enumerate",data:=.fields #[.none,.bool false,.ref s.heap.objs.size,rawInt 0,.none,.none]}}):=
 .of_wp fun prog w A R s h=>by
  obtain⟨j,k,m,tk,i⟩:=s;obtain⟨b,h⟩:=h;have f:=sub_enumerate;have e:Heap.IsTuple (Shared.heap ⟨j,k,m,tk,i⟩) l a:=⟨_,b,rfl,n,rfl⟩;wp_walk using M8 b;refine wpAny_stack_any fun st=>Z7 ?_;split
  ·rename_i c _ _ _ _ _;cases (c==Value.type "enumerate")<;>(wp_walk using M8 b,KF e;exact⟨_,rfl,h⟩)
  ·wp_walk using M8 b,KF e;exact⟨_,rfl,h⟩
theorem AD{l:Addr}(j:s.heap.IsTuple l its)(h:∀h',IsEnum h' (s.heap.objs.size+1) s.heap.objs.size 0 .none->h'.IsTupleIter s.heap.objs.size l 0->h'.objs.size=s.heap.objs.size+2->(∀b o,s.heap.get? b=some o->h'.get? b=some o)->Q (.ref (s.heap.objs.size+1)) {s with heap:=h'}) :
  wpAny (model prog w) A (call (.type "enumerate") [.ref l]) Q E s:=by
 obtain⟨⟨c,f,k,g⟩,i,hc,n,hd⟩:=j;have e:c=.type "tuple" :=hc;have d:k=.seq its n:=hd;subst e d;refine callType_new F.called_enumerate (by decide) (F.typeCall_enumerate_1 _) (F.newCall_enumerate_1 _) (fun obj=>F.args_object_init_2 obj _) F.entry_enumerate_new (xR l its n f g) ⟨i,?_⟩;have a:(s.heap.push {cls:=.type "tuple_iterator",data:=.fields #[.ref l,.int 0 0]}).objs.size=s.heap.objs.size+1:=O6 ..;rw[a];have he:=X9 (s.heap.push {cls:=.type "tuple_iterator",data:=.fields #[.ref l,.int 0 0]}) (o:={cls:=.type "enumerate",data:=.fields #[.none,.bool false,.ref s.heap.objs.size,rawInt 0,.none,.none]}) rfl;rw[a]at he;exact⟨⟨_,he,rfl⟩,h _ he ⟨_,Z3 _ (X9 _ rfl),rfl,rfl⟩ (by rw[O6,a]) fun b o x=>Z3 _ (Z3 _ x)⟩
variable{a:Addr}{e:Expr}{tl:TE}{Fb:Hp}{ds:List D}{f:DS->M VR}
def Ql(K:Z4)(tl:TE):TI:=fun Z H R=>tl Z H fun x H1=>∃a,x=.ref a/\(((∃xs,iA K H1 a xs)/\R (Hb fun H xs=>iA K H a xs) H1)\/((∃xs,cA K H1 a xs)/\R (Hb fun H xs=>cA K H a xs) H1))
theorem Dl{P:Pos}{R:It->Hp->Prop}(I:Inv X U Z H s)(q:((∃xs,iA X.K H a xs)/\R (Hb fun H xs=>iA X.K H a xs) H)\/((∃xs,cA X.K H a xs)/\R (Hb fun H xs=>cA X.K H a xs) H)) :
  wpAny (model X.prog X.w) X.A (call (.type "enumerate") [.ref a]) (fun v M=>wpAny (model X.prog X.w) X.A (pyIter v) (Yz X U Z (.Tuple elts kt P) R) E M) E s:=by
 have K:∀{h':Heap},(∀b∈[s.heap.objs.size+1,s.heap.objs.size],qH X U H b):=fun{h'} b hb=>by
  have z:b=s.heap.objs.size+1\/b=s.heap.objs.size:=(by simpa using hb);rcases z with z|z
  ·subst z;exact I.fpOk (FB _) (I.hok.fresh (FB _))
  ·subst z;exact I.fpOk (Z5 _) (I.hok.fresh (Z5 _))
 rcases q with⟨⟨xs,F⟩,q⟩|⟨⟨xs,F⟩,q⟩
 ·obtain⟨r,N,p,S⟩:=I.list F;refine call_enumerate_list p.isList fun h' he hi D k=>A6 he ?_;refine⟨s.heap.objs.size+1,[s.heap.objs.size+1,s.heap.objs.size],_,_,H,rfl,I.kept (t':=s.toks) k,AG (SQ:=fun H xs=>iA X.K H a xs) (IT:=fun i h=>h.IsListIter s.heap.objs.size a i) _ _ (Nat.succ_ne_self _) ?_ ?_ ?_ ?_,⟨⟨_,he⟩,hi⟩,K (h':=h'),q⟩
  ·intro i h st;obtain⟨o,e,c,d⟩:=st;exact⟨o,e,fun v z=>by rw[d]at z;cases z⟩
  ·intro i h V st w;exact st.at w
  ·intro J G hw l i j n σ' H' xs' x I' hq' hx st;rw[<-l]at hq';obtain⟨f,g,m,_⟩:=I'.list hq';obtain⟨u,C,t⟩:=g.get hx;exact⟨fun L y=>I'.list_inj (l▸y) hq',u,t,fun A Q E h=>wpAny_nextOf_list_item st m.isList (by simpa using C) h⟩
  ·intro J G hw l i j n σ' H' xs' I' hq' hx st A Q E hh h;rw[<-l]at hq';obtain⟨f,g,m,_⟩:=I'.list hq';have T:=g.length;exact wpAny_nextOf_list_end hh st m.isList (by simp;lia) h
 ·obtain⟨r,N,p,S⟩:=I.tuple F;refine AD (show s.heap.IsTuple a r.toArray from p) fun h' he hi D k=>A6 he ?_;refine⟨s.heap.objs.size+1,[s.heap.objs.size+1,s.heap.objs.size],_,_,H,rfl,I.kept (t':=s.toks) k,AG (SQ:=fun H xs=>cA X.K H a xs) (IT:=fun i h=>h.IsTupleIter s.heap.objs.size a i) _ _ (Nat.succ_ne_self _) ?_ ?_ ?_ ?_,⟨⟨_,he⟩,hi⟩,K (h':=h'),q⟩
  ·intro i h st;obtain⟨o,e,c,d⟩:=st;exact⟨o,e,fun v z=>by rw[d]at z;cases z⟩
  ·intro i h V st w;exact st.at w
  ·intro J G hw l i j n σ' H' xs' x I' hq' hx st;rw[<-l]at hq';obtain⟨f,g,m,_⟩:=I'.tuple hq';obtain⟨u,C,t⟩:=g.get hx;exact⟨fun L y=>I'.tuple_inj (l▸y) hq',u,t,fun A Q E h=>KL st (show n.heap.IsTuple a f.toArray from m) (by simpa using C) h⟩
  ·intro J G hw l i j n σ' H' xs' I' hq' hx st A Q E hh h;rw[<-l]at hq';obtain⟨f,g,m,_⟩:=I'.tuple hq';have T:=g.length;exact xO hh st (show n.heap.IsTuple a f.toArray from m) (by simp;lia) h
theorem Bn{g p:Pos}(k:Gl X "enumerate")(i:X.mg "enumerate" = none)(j:PE X e tl)(f:rK e=true):PI X (.Tuple elts kt g) (.Call (.Name "enumerate" p) [e] [] pos) (Ql X.K tl):=by
 intro U s Z H R I h;refine Call_ (jX I k i boot_enumerate (P5 (eL (cH j eM (dY f) pos U s Z H (fun d c=>match d with
  |[x]=>∃a,x=.ref a/\(((∃b,iA X.K c a b)/\R (Hb fun H b=>iA X.K H a b) c)\/((∃b,cA X.K c a b)/\R (Hb fun H b=>cA X.K H a b) c))|_=>False) I h) fun l m ⟨d,c,I1,r1,q1⟩=>?_) (dY f) rfl))
 match d,r1,q1 with
 |[_],.cons r .nil,q1=>obtain⟨a,rfl,q⟩:=q1;cases r;exact Dl I1 q
noncomputable def fL(l:List D):List D:=(List.range l.length).map fun(k:Nat)=>D.tup [.int (k:Int),l.getD k .non]
theorem BB{l:List D}{d:D}(h:(fL l)[i]? = some d):∃x,l[i]? = some x/\d=.tup [.int i,x]:=by
 unfold fL at h;rw[W8]at h;cases q:(List.range l.length)[i]? with
 |none=>rw[q]at h;cases h
 |some j=>rw[q]at h;obtain⟨a,b⟩:=List.getElem?_eq_some_iff.mp q;rw[On]at b;rw[U7]at a;subst b;refine⟨l[i],by simp[a],?_⟩;simp[a]at h;exact h.symm
theorem qN(l:List D):(fL l).length=l.length:=by simp[fL]
theorem jF.enum{b:Hp->List V->Prop}(a:∀H H',bR H H'->b H vs->b H' vs)(h:b Fb vs)(r:aX K Fb ds vs):jF K (Hb b) Fb (fL ds) where
 go:=fun i F H hi e1 e2=>⟨vs,vs[i]'(by rw[<-r.length,<-qN];exact hi),a _ _ (e1.trans e2) h,by rw[qN]at hi;simp[<-r.length,hi]⟩
 yld:=fun i F H x H' e1 e2 y d hd=>by obtain⟨T,v,rfl,hT,rfl,y⟩:=y;obtain⟨z,f,rfl⟩:=BB hd;obtain⟨g,e,c⟩:=r.get f;have:=y vs (a _ _ (e1.trans e2) h);rw[e]at this;cases this;refine⟨_,eN e2 hT,T,[.int i,v],rfl,cA.of aM,?_⟩;exact .cons rfl (.one ((c.mono e1).mono (bG (e2.free hT))))
 stop:=fun i F H hi e1 e2=>⟨vs,a _ _ (e1.trans e2) h,by rw[<-r.length,<-qN];exact hi⟩
noncomputable def nK(f:DS->M VR):DS->M (List D):=fun S=>mb (f S) fun r=>match items r with
 |some l=>some (.ok (fL l))|none=>none
theorem kJ{n p:Pos}(w:Gl X "enumerate")(u:X.mg "enumerate" = none)(h:DE X B O Y e f)(t:rK e=true:=by rfl):DI X B O Y (.Tuple elts kt n) (.Call (.Name "enumerate" p) [e] [] pos) (nK f):=.mk fun U s Z H R I q=>by
 refine Bn w u h.h t U s Z H R I ?_;obtain⟨F,S,m,o⟩:=q;refine⟨F,S,m,dD.bind (G:=fun F H z=>mU X.K Y F H R z) (fun{F H F' H' z} e h=>mU.step e h) (fun _ _ h=>h) (fun _ _ _ h=>h) o fun r v k j e1 i b=>?_⟩;cases r with
 |bor l=>exact False.elim b|bod ks l=>exact False.elim b
 |ok d=>
  cases d with
  |tup l=>obtain⟨a,c,rfl,ht,g⟩:=i;exact⟨a,rfl,.inr ⟨⟨c,cA.same e1.fh ht⟩,b _ k j (bZ.refl e1.fh) (jF.enum (fun _ _ z q=>cA.same z q) ht g)⟩⟩
  |lst l=>obtain⟨a,c,rfl,ht,g⟩:=i;exact⟨a,rfl,.inl ⟨⟨c,iA.of (e1.fh _ _ ht)⟩,b _ k j (bZ.refl e1.fh) (jF.enum (fun _ _ z q=>z.seq q) (iA.of ht) g)⟩⟩
  |scr l=>obtain⟨a,rfl,ht⟩:=i;exact⟨a,rfl,.inl ⟨⟨_,e1.fh.seq ht⟩,b _ k j (bZ.refl e1.fh) (jF.enum (fun _ _ z q=>z.seq q) ht (kN l))⟩⟩
  |_=>exact False.elim b
variable{r:R2}{j:Nat}{l:List Int}{apos cpos:Pos}
section
variable{a b:Expr}
noncomputable def NA:D->D->Option D
 |.int i,.int j=>some (.int (if j>i then j else i))|_,_=>none
theorem VU:zN K (fun x y H Q=>∃i j,[x,y]=[V.int i,V.int j]/\Q (.int (if j>i then j else i)) H) NA:=by
 intro F H e c d h f Q fh b a g q;cases e<;>cases c<;>try (cases g;done)
 cases b;cases a;injection g with g;subst g;exact⟨_,_,rfl,q _ F H (bZ.refl fh) rfl⟩
theorem RX:bootBuiltins "max" = some (.builtin "max"):=by decide +kernel
theorem Kl{p:Pos}(d:Gl X "max")(f:X.mg "max" = none)(h:DE X B O Y a fa)(g:DE X B O Y b fb)(hc:X.calm=true:=by rfl)(sa:rK a=true:=by rfl)(e:rK b=true:=by rfl)
  (c:(backTo pos (starEach [b] X.env)).any (·.1)=false:=by rfl):DE X B O Y (.Call (.Name "max" p) [a,b] [] pos) (aF NA fa fb):=.mk fun U s Z H Q I q=>
 mS (RS hc) d f RX (cH h.h (cH g.h eM (dY e)) (dY sa)) (by decide) (by decide) (dY sa) c U s Z H Q I (mI VU q)
def WZ:D->Bool
 |.non=>true|_=>false
def pE:D->Option D:=fun d=>some (.bl (WZ d))
def ME:D->Option D:=fun d=>some (.bl (!WZ d))
theorem JX{F:Hp}{d:D}(r:RV K F H d v):decide (v=.non)=WZ d:=by
 cases d with
 |non=>cases r;rfl|bl b=>cases r;rfl|int b=>cases r;rfl|str b=>cases r;rfl|tup l=>obtain⟨a,c,rfl,_⟩:=r;rfl|lst l=>obtain⟨a,c,rfl,_⟩:=r;rfl|scr l=>obtain⟨a,rfl,_⟩:=r;rfl|dic ks l=>obtain⟨a,e,rfl,_⟩:=r;rfl
theorem BY{g:D->Option D}{Q:VK}(b:∀(F H:Hp) (a d:D) (v1:V) (Q:VK),bR F H->RV K F H a v1->g a=some d->(∀v F' H',bZ F H F' H'->jS K F' d v->Q v H')->r v1 .non H Q)(h:tE K B O Y (cY g fa) Z H Q):Fw r (tE K B O Y fa) (tC .non) Z H Q:=wW (r:=fun x H Q=>r x .non H Q) b h
theorem DY{p:Pos}(b:DE X B O Y a fa):DE X B O Y (.Compare a [.Is] [.Constant .none j p] pos) (cY pE fa):=.mk fun U s Z H Q I q=>MX VP b.h xI (jW _) U s Z H Q I (BY (fun F H e d c Q fh r g q=>⟨rfl,by rw[JX r];injection g with g;subst g;exact q _ F H (bZ.refl fh) rfl⟩) q)
theorem XM{p:Pos}(b:DE X B O Y a fa):DT X B O Y (.Compare a [.Is] [.Constant .none j p] pos) (eW (cY pE fa)):=.mk fun U s Z H Q I q=>CG VP b.h xI (jW _) U s Z H Q I (BY (fun F H e d c Q fh r g q=>⟨rfl,by rw[JX r];injection g with g;subst g;exact q _ F H (bZ.refl fh) rfl⟩) (pJ q))
theorem Dm{p:Pos}(b:DE X B O Y a fa):DT X B O Y (.Compare a [.IsNot] [.Constant .none j p] pos) (eW (cY ME fa)):=.mk fun U s Z H Q I q=>CG Bw b.h xI (jW _) U s Z H Q I (BY (fun F H e d c Q fh r g q=>⟨rfl,by rw[JX r];injection g with g;subst g;exact q _ F H (bZ.refl fh) rfl⟩) (pJ q))
theorem tL(b:Gl X x)(a:∃t,X.mg x=some (.ref t)/\∃(o:Obj) (its:Array Value) (n:Nat),X.K.lookup t=some o/\o.cls=.type "tuple" /\o.data=.seq its n/\its.size<=sizeLine/\bD (l.map V.int) its.toList)(hd:(x==("__debug__" : Str))=false:=by decide) :
  DE X B O Y (.Name x pos) (dC (.tup (l.map .int))):=by
 obtain⟨t,e,o,its,n,h,g,f,d,c⟩:=a;exact pX (v:=.ref t) (wB b e rfl hd) fun F=>⟨t,l.map V.int,rfl,.inr ⟨o,its,n,h,g,f,d,c⟩,kN l⟩
noncomputable def Ea(i:Nat):DS->Option Fl:=fun S=>match S[i]? with
 |some (some (.own l))=>if l.length=0 then none else some (.next (S.set i (some (.own l.dropLast))))
 |_=>none
theorem VL{S:DS}{k:List D->Option β}{P:Option β->Prop}(a:¬P none)(o:P (match S[i]? with|some (some (.own l))=>k l|_=>none)):∃l,S[i]? = some (some (Slot.own l))/\P (k l):=by
 cases z:S[i]? with
 |none=>rw[z]at o;exact absurd o a
 |some b=>
  cases b with
  |none=>rw[z]at o;exact absurd o a
  |some c=>
   cases c with
   |val d=>rw[z]at o;exact absurd o a|owd ks l=>rw[z]at o;exact absurd o a|own l=>rw[z]at o;exact⟨l,rfl,o⟩
theorem Kd(i:Nat){p:Pos}(A:X.N[i]? = some x:=by rfl)(w:SA X.env.scope x:=by first|exact Or.inl rfl|exact Or.inr (Or.inl rfl)|exact Or.inr (Or.inr rfl))(hd:(x==("__debug__" : Str))=false:=by decide)(f:(x==("__classdict__" : Str))=false:=by decide)(c:attributeBase (.Name x p) "pop" X.env (eval (.Name x p) X.env)=eval (.Name x p) X.env:=by rfl)(b:(apos.endLine==cpos.line)=true:=by rfl)(e:swapsWith (.Call (.Attribute (.Name x p) "pop" apos) [] [] cpos) none pos.line X.env=pure false:=by rfl) :
  zO X B O Y (.Expr (.Call (.Attribute (.Name x p) "pop" apos) [] [] cpos) pos) (Ea i):=.mk fun U s Z H g I q=>by
 refine CH (VH K8 ze zf WD (iU A w hd f) c b) e U s Z H g I ?_;obtain⟨F,S,j,o⟩:=q;have o:kZ X.K B O Y g (match S[i]? with|some (some (.own l))=>(if l.length=0 then none else some (.next (S.set i (some (.own l.dropLast)))))|_=>none):=o;obtain⟨l,z,o⟩:=VL (S:=S) (i:=i) (P:=fun y=>kZ X.K B O Y g y) (k:=fun l=>if l.length=0 then none else some (.next (S.set i (some (.own l.dropLast))))) (fun h=>h) o;obtain⟨a,d,u,D,C,t,r⟩:=j.own i l z;by_cases m:l.length=0
 ·rw[Z8 m]at o;exact False.elim o
 ·rw[Z6 m]at o;have n:=r.length;obtain⟨y,v⟩:∃y,d[d.length-1]? = some y:=⟨d[d.length-1]'(by omega),Y1 _⟩;exact⟨.ref a,u,.inl ⟨rfl,d,iA.of t⟩,a,d,y,rfl,rfl,t,v,o Z F _ (j.mut z u r.dropLast)⟩
end
def Zf(lo:Int)(n:Nat):It:=⟨fun i _=>i<n,fun i H x H'=>H'=H/\x=.int (lo-i),fun i _=>n<=i⟩
variable{tg:Expr}
theorem OO(a:Addr)(lo:Int)(n:Nat):IU P w K tg (Zf lo n) [a] a (fun i h=>IsRangeIter h a (lo+(i:Nat)*(-1)) ((n:Int)-(i:Nat)) (-1)) where
 mem:=by simp
 obj:=fun i h st b c=>by have z:b=a:=(by simpa using c);subst z;exact⟨_,st,fun v z=>by have y:Data.fields _=Data.cell v:=z;cases y⟩
 keep:=fun i h g st k=>k a (by simp) _ st
 item:=by intro X l hw m hc i U s Z H E I hf st j;subst l hw m;have f:=hf a (by simp);refine(Walks.range (prog:=X.prog) (w:=X.w) (I.ok.hd hc) a lo (-1) n).item i s _ _ j st fun v g tk r d p=>?_;obtain⟨t,rfl⟩:=r;have x:Inv X U Z H {s with heap:=g,toks:=tk}:=I.turned (fun b o c e=>p b o (by simpa using c) e) f.1 f.2.1 f.2.2.2.1 f.2.2.2.2.1 f.2.2.2.2.2;refine⟨_,rfl,HL (s:={s with heap:=g,toks:=tk}) (n:="range_iterator") d rfl rfl (by decide) ⟨.int (lo-i),H,x,⟨t,?_⟩,⟨rfl,rfl⟩,d,fun b c=>(hf b c).1⟩⟩;rw[Int.mul_neg_one,Int.sub_eq_add_neg]
 done:=by intro X l hw m hc i U s Z H E I hf st j;subst l hw m;have f:=hf a (by simp);exact wpAny_pyNext_range_end (I.ok.hd hc) st (by have q:n<=i:=j;lia) fun g u=>⟨rfl,I.turned (t':=s.toks) (fun b o c e=>u b o c e) f.1 f.2.1 f.2.2.2.1 f.2.2.2.2.1 f.2.2.2.2.2⟩
 self:=fun _ _ _ _ _ st h=>wpAny_pyIter_rangeiter st h
theorem AI(a b:Int):Builtin.Range.rangeSize a b (-1)=if a>b then a-b else 0:=by unfold Builtin.Range.rangeSize;rw[Z6 (by decide)];have e:-(-1:Int)=1:=(by decide);rw[e,Int.ediv_one];split<;>lia
theorem small_down{a b:Int}(f:-(2 ^ 62)<=a)(d:a<2 ^ 62)(e:-(2 ^ 62)<=b)(c:b<2 ^ 62):Builtin.Range.small a b (-1)=true:=by unfold Builtin.Range.small;rw[AI];simp only[Builtin.Range.rangeFitsLong,X6,Pi,U5,Ft,show ¬((-1:Int)>0) by decide,Y5];split<;>lia
noncomputable def nC(lo hi:Int):List D:=(List.range (lo-hi).toNat).map fun(k:Nat)=>D.int (lo-(k:Int))
theorem jF.down(lo hi:Int):jF K (Zf lo (lo-hi).toNat) Fb (nC lo hi) where
 go:=fun i F H a _ _=>by show i<(lo-hi).toNat;simpa [nC]using a
 yld:=fun i F H x e e1 e2 y d hd=>by
  obtain⟨rfl,rfl⟩:=y;unfold nC at hd;rw[W8]at hd;cases q:(List.range (lo-hi).toNat)[i]? with
  |none=>rw[q]at hd;cases hd
  |some j=>rw[q]at hd;obtain⟨c,b⟩:=List.getElem?_eq_some_iff.mp q;rw[On]at b;subst b;simp at hd;subst hd;exact⟨F,bZ.refl e2,rfl⟩
 stop:=fun i F H a _ _=>by show(lo-hi).toNat<=i;simpa [nC]using a
section
variable{a b:Expr}
def Qm(ta:TA):TI:=fun Z H R=>ta Z H fun vs H1=>∃i j:Int,vs=[.int i,.int j,.int (-1)]/\(-(2 ^ 62)<=i/\i<2 ^ 62/\-(2 ^ 62)<=j/\j<2 ^ 62)/\R (Zf i (i-j).toNat) H1
theorem Bo{n:TA}{p:Pos}(E:Gl X "range")(D:X.mg "range" = none)(G:PA X [a,b,c] n)(A:starEach [a,b,c] X.env=(false,eval a X.env)::starEach [b,c] X.env)(C:(backTo pos (starEach [b,c] X.env)).any (·.1)=false):PI X tg (.Call (.Name "range" p) [a,b,c] [] pos) (Qm n):=by
 intro U s Z H R I h;refine Call_ (jX I E D boot_range (P5 (eL (G pos U s Z H _ I h) fun u f ⟨vs,H1,I1,r1,l⟩=>?_) A C));obtain⟨i,j,e,⟨l,y,x,w⟩,q⟩:=l;subst e;obtain⟨t,t',d,rfl⟩:∃t t' d,u=[.int i t,.int j t',.int (-1) d]:=by
  cases r1 with
  |cons r g=>
   cases g with
   |cons v g=>
    cases g with
    |cons k g=>cases g;obtain⟨t,rfl⟩:=r;obtain⟨t',rfl⟩:=v;obtain⟨d,rfl⟩:=k;exact⟨t,t',d,rfl⟩
 ·skip;refine call_range_3 (by decide) ?_ (.inl (zk (by decide)));refine wpAny_pyIter_range (IsRange.new ..) (small_down l y x w) ?_;have m:Inv X U Z H1 {f with heap:=f.heap.push {cls:=.type "range",data:=.fields #[.int i t,.int j t',.int (-1) d]},toks:=f.toks}:=I1.kept fun b o e=>Z3 _ e;refine⟨_,[(f.heap.push {cls:=.type "range",data:=.fields #[.int i t,.int j t',.int (-1) d]}).objs.size],_,_,H1,rfl,m.kept (t':=f.toks) fun b o e=>Z3 _ e,OO _ i (i-j).toNat,?_,fun b F=>?_,q⟩
  ·have e1:i+((0:Nat):Int)*(-1)=i:=(by simp);have e2:(((i-j).toNat:Nat):Int)-((0:Nat):Int)=Builtin.Range.rangeSize i j (-1):=by
    rw[AI];split<;>lia
   show IsRangeIter _ _ (i+((0:Nat):Int)*(-1)) ((((i-j).toNat:Nat):Int)-((0:Nat):Int)) (-1);rw[e1,e2];exact X9 _ rfl
  ·have z:b=(f.heap.push {cls:=.type "range",data:=.fields #[.int i t,.int j t',.int (-1) d]}).objs.size:=(by simpa using F);subst z;exact m.fpOk (Z5 _) (m.hok.fresh (Z5 _))
noncomputable def pD:VR->Option Int
 |.ok (.int i)=>some i|_=>none
theorem yZ{r:VR}{i:Int}(h:pD r=some i):r=.ok (.int i):=by
 cases r with
 |bor l=>cases h|bod ks l=>cases h|ok d=>cases d<;>first|(injection h with h;subst h;rfl)|cases h
noncomputable def NQ(x y z:Option Int):M (List D):=match x with
 |none=>none
 |some i=>match y with
  |none=>none|some j=>if zM i=true/\zM j=true/\z=some (-1)then some (.ok (nC i j))else none
noncomputable def EE(fs:DS->M (List VR)):DS->M (List D):=fun S=>mb (fs S) fun rs=>match rs with
 |[x,y,z]=>NQ (pD x) (pD y) (pD z)|_=>none
theorem RK{p:Pos}{C:DS->M (List VR)}(P:Gl X "range")(N:X.mg "range" = none)(h:DA X B O Y [a,b,c] C)(sa:rK a=true:=by rfl)(K:rK b=true:=by rfl)(J:rK c=true:=by rfl):DI X B O Y tg (.Call (.Name "range" p) [a,b,c] [] pos) (EE C):=.mk fun U s Z H R I q=>by
 refine Bo P N h.h (dY sa) (by rw[dY K,dY J];rfl) U s Z H R I ?_;obtain⟨F,S,E,o⟩:=q;refine⟨F,S,E,nZ.bind (G:=fun F H z=>mU X.K Y F H R z) (fun e h=>mU.step e h) (fun _ _ h=>h) (fun _ _ _ h=>h) o fun f Q m l e1 L d=>?_⟩;cases f with
 |nil=>exact False.elim d
 |cons x f=>
  cases f with
  |nil=>exact False.elim d
  |cons y f=>
   cases f with
   |nil=>exact False.elim d
   |cons z f=>
    cases f with
    |cons _ _=>exact False.elim d
    |nil=>
     have d:mU X.K Y m l R (NQ (pD x) (pD y) (pD z)):=d;cases ex:pD x with
     |none=>rw[ex]at d;exact False.elim d
     |some i=>
      cases k:pD y with
      |none=>rw[ex,k]at d;exact False.elim d
      |some j=>
       rw[ex,k]at d;have d:mU X.K Y m l R (if zM i=true/\zM j=true/\pD z=some (-1)then some (.ok (nC i j))else none):=d;by_cases g:zM i=true/\zM j=true/\pD z=some (-1)
       ·rw[Z8 g]at d;obtain⟨r,n,D⟩:=g;obtain⟨v,t,rfl,A,V,t2,rfl,w,T,W,rfl,u,rfl⟩:=L;rw[yZ ex]at A;rw[yZ k]at w;rw[yZ D]at u;cases A;cases w;cases u;exact⟨i,j,rfl,⟨(nX r).1,(nX r).2,(nX n).1,(nX n).2⟩,d _ m l (bZ.refl e1.fh) (jF.down i j)⟩
       ·rw[Z6 g]at d;exact False.elim d
end
variable{ch:List Addr}
theorem BV{t':Nat}{T:Addr}(I:Inv X U Z H s)(k:∀b u,b∉ch->s.heap.get? b=some u->h'.get? b=some u)(f:∀b∈ch,qH X U H b)(hT:s.heap.objs.size<=T)(new:cD X.prog X.w (cL H T o) h' T o):Inv X U Z (cL H T o) {s with heap:=h',toks:=t'}:=by
 have i:H T=none:=I.hok.fresh hT;have g:∀b u,s.heap.get? b=some u->b≠T:=fun b u q z=>absurd (X8 (Z1 q) (z▸hT)) (U3 _);have a:∀b u,H b=some u->b∉ch:=fun b u q z=>(by rw[(f b z).1]at q;cases q);have up:∀b u,H b=some u->cL H T o b=some u:=fun b u q=>(by rw[aJ (aV q i)];exact q);refine I.step (g':=s.gens) (d':=s.drawn) (ch:=ch) (fun b d=>?_) (fun b u _ _ hc q _=>k b u hc q) (fun b u _ _ hc q _=>⟨u.slots,k b u hc q⟩) (fun b u _ q n=>by rw[aJ (g b u q)];exact n)
  (fun b u hc q=>⟨u,k b u hc q⟩) (fun b e q=>up b _ q) (fun b u v q=>up b _ q) (fun b A q=>⟨#[],by rw[up b _ q];simp⟩) (fun m j=>?_) (fun b u q=>?_) I.bare
 ·obtain⟨D,y,C,x,w,t⟩:=f b d;exact⟨x,y,w,t⟩
 ·obtain⟨ob,l,p,h,r⟩:=j;exact⟨ob,l,p,k _ ob (fun z=>(f _ z).2.1 rfl) h,r⟩
 ·by_cases d:b=T
  ·subst d;rw[aM]at q;cases q;exact new
  ·rw[aJ d]at q;refine(I.hok b u q).stay (fun c v hc z=>?_) (fun c z=>up c _ z) fun c e z=>up c _ z;rcases hc with hc|hc
   ·subst hc;exact k _ v (a _ u q) z
   ·exact k c v (a c _ hc) z
theorem Aa{t':Nat}(I:Inv X U Z H s)(k:∀b u,b∉ch->s.heap.get? b=some u->h'.get? b=some u)(f:∀b∈ch,qH X U H b):Inv X U Z H {s with heap:=h',toks:=t'}:=by
 have a:∀b u,H b=some u->b∉ch:=fun b u q z=>(by rw[(f b z).1]at q;cases q);refine I.step (g':=s.gens) (d':=s.drawn) (ch:=ch) (fun b h=>?_) (fun b u _ _ hc q _=>k b u hc q) (fun b u _ _ hc q _=>⟨u.slots,k b u hc q⟩) (fun b u _ q n=>n)
  (fun b u hc q=>⟨u,k b u hc q⟩) (fun b d q=>q) (fun b u v q=>q) (fun b w q=>⟨#[],by rw[q];simp⟩) (fun m g=>?_) (fun b u q=>?_) I.bare
 ·obtain⟨y,t,x,p,o,l⟩:=f b h;exact⟨p,t,o,l⟩
 ·obtain⟨ob,i,j,e,r⟩:=g;exact⟨ob,i,j,k _ ob (fun z=>(f _ z).2.1 rfl) e,r⟩
 ·refine(I.hok b u q).stay (fun c v hc z=>?_) (fun c z=>z) fun c d z=>z;rcases hc with hc|hc
  ·subst hc;exact k _ v (a _ u q) z
  ·exact k c v (a c _ hc) z
def Zc(K:Z4)(l1 l2:Addr):It:=
 ⟨fun i H=>∃xs ys x y,iA K H l1 xs/\iA K H l2 ys/\xs[i]? = some x/\ys[i]? = some y,
 fun i H x H'=>∃T v w,x=.ref T/\H T=none/\H'=cL H T (.tup [v,w])/\(∀xs,iA K H l1 xs->xs[i]? = some v)/\∀ys,iA K H l2 ys->ys[i]? = some w,
 fun i H=>∃xs ys,iA K H l1 xs/\iA K H l2 ys/\(xs.length<=i\/ys.length<=i)⟩
theorem TH{pt:Pos}(z g m l j l1 l2:Addr)(D:ZipApart z g m l j l1 l2) :
  IU P w K (.Tuple elts kt pt) (Zc K l1 l2) [z,g,m,l,j] z (fun i h=>IsZip h z g m .none/\IsPair h g (.ref l) (.ref j)/\(∃a b,IsPair h m a b)/\h.IsListIter l l1 i/\h.IsListIter j l2 i) where
 mem:=by simp
 obj:=fun i h st b R=>by
  obtain⟨C,n,⟨u,v,A⟩,t,r⟩:=st;have q:b=z\/b=g\/b=m\/b=l\/b=j:=(by simpa using R);rcases q with q|q|q|q|q
  ·subst q;exact⟨_,C,fun v z=>by cases z⟩
  ·subst q;exact⟨_,n,fun v z=>by cases z⟩
  ·subst q;exact⟨_,A,fun v z=>by cases z⟩
  ·subst q;obtain⟨o,e,c,d⟩:=t;exact⟨o,e,fun v z=>by rw[d]at z;cases z⟩
  ·subst q;obtain⟨o,e,c,d⟩:=r;exact⟨o,e,fun v z=>by rw[d]at z;cases z⟩
 keep:=fun i h h' st k=>by obtain⟨C,n,⟨u,v,A⟩,t,r⟩:=st;exact⟨k z (by simp) _ C,k g (by simp) _ n,⟨u,v,k m (by simp) _ A⟩,t.at fun o e=>k l (by simp) o e,r.at fun o e=>k j (by simp) o e⟩
 item:=by
  intro X hP hw hK hc i U s Z H E I hf st hg;subst hP hw hK;obtain⟨C,n,⟨u,v,A⟩,t,r⟩:=st;obtain⟨xs,ys,x,y,T,S,J,hy⟩:=hg;obtain⟨N,G,p1,_⟩:=I.list T;obtain⟨M,F,p2,_⟩:=I.list S;obtain⟨u1,a6,W⟩:=G.get J;obtain⟨u2,a0,V⟩:=F.get hy;have hn:H s.heap.objs.size=none:=I.hok.fresh (Z5 _);refine wpAny_pyNext_zip_item D C n A t r p1.isList p2.isList (x:=u1) (y:=u2) (by simpa using a6) (by simpa using a0) fun h' b1 b2 b3 b4 b5 b6 b7=>⟨_,rfl,?_⟩;refine wpAny_letOwnedTupleGo_zip b1 fun Q c1 p=>?_
  replace p:Heap.SameBut z h' Q:=p
  have L:z<s.heap.objs.size:=Z1 C;have a7:=(p.2 s.heap.objs.size (SB L)).trans b5;have I2:Inv X U Z (cL H s.heap.objs.size (.tup [x,y])) {s with heap:=Q,toks:=s.toks}:=by
   refine BV (ch:=[z,g,m,l,j]) I (fun b v f q=>?_) hf (Z5 _) ?_
   ·simp at f;exact(p.2 b f.1).trans (b7 b v f.1 f.2.2.1 f.2.2.2.1 f.2.2.2.2 q)
   ·exact⟨by show 2<=sizeLine;decide,[u1,u2],.cons W (.cons V .nil),_,a7,rfl,_,rfl,rfl⟩
  refine⟨.ref s.heap.objs.size,_,I2,rfl,⟨_,x,y,rfl,hn,rfl,fun zs hz=>by rw[I.list_inj hz T];exact J,fun zs hz=>by rw[I.list_inj hz S];exact hy⟩,
   ⟨c1,(p.2 g D.TIz).trans (b7 g _ D.TIz D.TITO D.TIi1 D.TIi2 n),⟨_,_,(p.2 m D.TOz).trans b2⟩,b3.at fun o e=>(p.2 l D.i1z).trans e,b4.at fun o e=>(p.2 j D.i2z).trans e⟩,fun b R=>?_⟩
  have f:b≠s.heap.objs.size:=by
   have q:b=z\/b=g\/b=m\/b=l\/b=j:=(by simpa using R);rcases q with q|q|q|q|q
   ·subst q;exact Y6 L
   ·subst q;exact Y6 (Z1 n)
   ·subst q;exact Y6 (Z1 A)
   ·subst q;obtain⟨o,e,_⟩:=t;exact Y6 (Z1 e)
   ·subst q;obtain⟨o,e,_⟩:=r;exact Y6 (Z1 e)
  rw[aJ f];exact(hf b R).1
 done:=by
  intro X hP hw hK hc i U s Z H E I hf st hg;subst hP hw hK;obtain⟨C,n,⟨u,v,A⟩,t,r⟩:=st;obtain⟨xs,ys,T,S,J⟩:=hg;obtain⟨N,G,p1,_⟩:=I.list T;obtain⟨M,F,p2,_⟩:=I.list S;have e1:=G.length;have e2:=F.length;refine wpAny_pyNext_zip_end (I.ok.hd hc) D C n A t r p1.isList p2.isList ?_ fun h' k=>⟨rfl,Aa (t':=s.toks) (ch:=[z,g,m,l,j]) I (fun b v f q=>?_) hf⟩
  ·rcases J with J|J
   ·left;simp;lia
   ·right;simp;lia
  ·simp at f;exact k b v f.1 f.2.2.1 f.2.2.2.1 f.2.2.2.2 q
 self:=fun _ _ _ _ _ st h=>wpAny_pyIter_zip st.1 h
section
variable{a b:Expr}
def Xx(K:Z4)(ta:TA):TI:=fun Z H R=>ta Z H fun vs H1=>∃l1 l2,vs=[.ref l1,.ref l2]/\(∃xs,iA K H1 l1 xs)/\(∃ys,iA K H1 l2 ys)/\R (Zc K l1 l2) H1
theorem Io{k:TA}{C p:Pos}(F:Gl X "zip")(E:X.mg "zip" = none)(G:PA X [a,b] k)(sa:rK a=true)(x:rK b=true):PI X (.Tuple elts kt C) (.Call (.Name "zip" p) [a,b] [] pos) (Xx X.K k):=by
 intro U s Z H R I h;refine Call_ (jX I F E boot_zip (P5 (eL (G pos U s Z H _ I h) fun w d ⟨vs,H1,I1,r1,q1⟩=>?_) (dY sa) (by rw[dY x];rfl)));obtain⟨j,i,e,⟨T,K⟩,⟨S,J⟩,q⟩:=q1;subst e;obtain rfl:w=[.ref j,.ref i]:=by
  cases r1 with
  |cons r g=>
   cases g with
   |cons A g=>cases g;cases r;cases A;rfl
 obtain⟨u,z,m,_⟩:=I1.list K;obtain⟨t,y,l,_⟩:=I1.list J;have n1:@LT.lt Nat _ j d.heap.objs.size:=(by obtain⟨o,n,e,_⟩:=m;exact Z1 e);have n2:@LT.lt Nat _ i d.heap.objs.size:=(by obtain⟨o,n,e,_⟩:=l;exact Z1 e);refine call_zip_2 m.isList l.isList fun V v Q P N M W L=>wpAny_pyIter_zip v ?_;have D:ZipApart (d.heap.objs.size+4) (d.heap.objs.size+2) (d.heap.objs.size+3) d.heap.objs.size (d.heap.objs.size+1) j i:=(by constructor<;>(show @Ne Nat _ _)<;>lia);refine⟨_,[d.heap.objs.size+4,d.heap.objs.size+2,d.heap.objs.size+3,d.heap.objs.size,d.heap.objs.size+1],_,_,H1,rfl,I1.kept (t':=d.toks) L,TH _ _ _ _ _ _ _ D,⟨v,Q,⟨_,_,P⟩,N,M⟩,fun c hc=>?_,q⟩;have f:d.heap.objs.size<=c:=by
  have:@Eq Nat c (d.heap.objs.size+4)\/@Eq Nat c (d.heap.objs.size+2)\/@Eq Nat c (d.heap.objs.size+3)\/@Eq Nat c d.heap.objs.size\/@Eq Nat c (d.heap.objs.size+1):=by simpa using hc
  (show @LE.le Nat _ _ _);lia
 exact I1.fpOk f (I1.hok.fresh f)
noncomputable def tZ:List D->List D->List D
 |x::l,y::r=>.tup [x,y]::tZ l r|_,_=>[]
theorem FF:∀{l r:List D} {i:Nat} {d:D},(tZ l r)[i]? = some d->∃x y,l[i]? = some x/\r[i]? = some y/\d=.tup [x,y]
 |[],_,_,_,h=>by simp[tZ]at h
 |_::_,[],_,_,h=>by simp[tZ]at h
 |x::l,y::r,0,d,h=>by simp[tZ]at h;exact⟨x,y,rfl,rfl,h.symm⟩
 |x::l,y::r,i+1,d,h=>by obtain⟨u,v,c,b,a⟩:=FF (l:=l) (r:=r) (i:=i) (d:=d) (by simpa [tZ]using h);exact⟨u,v,by simpa using c,by simpa using b,a⟩
theorem wL:∀(l r:List D),(tZ l r).length=min l.length r.length
 |[],_=>by simp[tZ]
 |_::_,[]=>by simp[tZ]
 |x::l,y::r=>by simp[tZ,wL l r]
theorem jF.zip{k j:Addr}{a:List V}{l:List D}(f:iA K Fb k vs)(e:iA K Fb j a)(c:aX K Fb ds vs)(b:aX K Fb l a):jF K (Zc K k j) Fb (tZ ds l) where
 go:=fun i F H hi e1 e2=>by rw[wL]at hi;have p:=c.length;have o:=b.length;exact⟨vs,a,vs[i]'(by lia),a[i]'(by lia),(e1.trans e2).seq f,(e1.trans e2).seq e,Y1 _,Y1 _⟩
 yld:=fun i F H x E e1 e2 y d hd=>by obtain⟨T,v,w,rfl,hT,rfl,n,m⟩:=y;obtain⟨C,A,g1,g2,rfl⟩:=FF hd;obtain⟨z,t,s⟩:=c.get g1;obtain⟨u,r,q⟩:=b.get g2;have h:=n vs ((e1.trans e2).seq f);have g:=m a ((e1.trans e2).seq e);rw[t]at h;cases h;rw[r]at g;cases g;refine⟨_,eN e2 hT,T,[v,w],rfl,cA.of aM,?_⟩;exact .cons ((s.mono e1).mono (bG (e2.free hT))) (.one ((q.mono e1).mono (bG (e2.free hT))))
 stop:=fun i F H hi e1 e2=>by rw[wL]at hi;have p:=c.length;have o:=b.length;exact⟨vs,a,(e1.trans e2).seq f,(e1.trans e2).seq e,by lia⟩
noncomputable def vO:VR->Option (List D)
 |.ok (.lst l)=>some l|_=>none
theorem IS{r:VR}{l:List D}(h:vO r=some l):r=.ok (.lst l):=by
 cases r with
 |bor l=>cases h|bod ks l=>cases h|ok d=>cases d<;>first|(injection h with h;subst h;rfl)|cases h
noncomputable def Hf(x y:Option (List D)):M (List D):=match x with
 |none=>none
 |some l=>match y with
  |none=>none|some r=>some (.ok (tZ l r))
noncomputable def Km(fs:DS->M (List VR)):DS->M (List D):=fun S=>mb (fs S) fun rs=>match rs with
 |[x,y]=>Hf (vO x) (vO y)|_=>none
theorem Kg{D p:Pos}{k:DS->M (List VR)}(L:Gl X "zip")(K:X.mg "zip" = none)(h:DA X B O Y [a,b] k)(sa:rK a=true:=by rfl)(A:rK b=true:=by rfl):DI X B O Y (.Tuple elts kt D) (.Call (.Name "zip" p) [a,b] [] pos) (Km k):=.mk fun U s Z H R I q=>by
 refine Io L K h.h sa A U s Z H R I ?_;obtain⟨F,S,w,o⟩:=q;refine⟨F,S,w,nZ.bind (G:=fun F H z=>mU X.K Y F H R z) (fun e h=>mU.step e h) (fun _ _ h=>h) (fun _ _ _ h=>h) o fun d g n m e1 C c=>?_⟩;cases d with
 |nil=>exact False.elim c
 |cons x d=>
  cases d with
  |nil=>exact False.elim c
  |cons y d=>
   cases d with
   |cons _ _=>exact False.elim c
   |nil=>
    have c:mU X.K Y n m R (Hf (vO x) (vO y)):=c;cases ex:vO x with
    |none=>rw[ex]at c;exact False.elim c
    |some l=>
     cases f:vO y with
     |none=>rw[ex,f]at c;exact False.elim c
     |some r=>rw[ex,f]at c;obtain⟨v,t,rfl,j,Q,T,rfl,i,rfl⟩:=C;rw[IS ex]at j;rw[IS f]at i;obtain⟨P,g,rfl,g1,J⟩:=j;obtain⟨N,u,rfl,g2,E⟩:=i;exact⟨P,N,rfl,⟨g,iA.of (e1.fh _ _ g1)⟩,⟨u,iA.of (e1.fh _ _ g2)⟩,c _ n m (bZ.refl e1.fh) (jF.zip (iA.of g1) (iA.of g2) J E)⟩
end
def GL(K:Z4)(B O:Hp)(Y:Addr->Hp->Prop)(Dn:Ends)(j:Nat)(S:DS)(H:Hp):M (List D)->Prop
 |none=>False|some (.error c)=>∀H',bR H H'->Y c H'|some (.ok l)=>∀σ' F' H',cV K B O F' H' σ' (S.set j (some (.val (.lst l))))->Dn.nx σ' H'
variable{Dn:Ends}
theorem GL.step{F:Hp}{S:DS}{x:M (List D)}(e:bZ F H F' H')(h:GL K B O Y Dn j S H x):GL K B O Y Dn j S H' x:=by
 match x,h with
 |some (.error c),h=>exact fun a s=>h a (e.hh.trans s)
 |some (.ok l),h=>exact h
theorem GL.of{F:Hp}{S:DS}{f:DS->M (List D)}(a:cV K B O F H Z S)(o:kZ K B O Y Dn (bN j (mP f) S)):GL K B O Y Dn j S H (f S):=by
 unfold bN mP at o;cases q:f S with
 |none=>rw[q]at o;exact False.elim o
 |some z=>
  cases z with
  |error c=>rw[q]at o;exact fun b s=>o b (a.ext.hh.trans s)
  |ok l=>rw[q]at o;exact o
variable{pos':Pos}{elt iter:Expr}{ifs:List Expr}{scope:Scope}{fi:DS->M (List D)}{fe:DS->M VR}
theorem rW(j:Nat){c:Pos}(hN:X.N.Nodup)(nt:Nat)(a:List Nat)(E Q:List Str){set:D->DS->Option DS}{fc:DS->M Bool}(n:X.calm=true)(k:scope.kind=.function)(m:∀y∈scope.names,y.2≠.cell)(f:∀x∈scope.names,x.2=.local->scope.names.lookup x.1=some .local)(l:∀y∈scope.names,y.2=.free->X.env.kindOf y.1=some .cell\/X.env.kindOf y.1=some .free)(a1:E.length=nt)(L:lS X scope a Q)(a4:a.Nodup)(hi:DI X B O Y tg iter fi)(hg:∀C s H ex B O,DG (jO X (E++Q) scope C s H ex) B O tg set)(hc:∀C s H ex B O,ZM (jO X (E++Q) scope C s H ex) B O ifs fc)(he:∀C s H ex B O,DE (jO X (E++Q) scope C s H ex) B O ZQ elt fe)(hs:∀x,foldedSetIterable iter X.env x=pure x:=by intro _;rfl)(hj:X.N[j]? = some x:=by rfl)(hx:X.env.scope.names.lookup x=some .local:=by rfl)(a2:swapsWith (.ListComp elt [⟨tg,iter,ifs,0⟩] scope pos) (some (.Name x pos')) c.line X.env=pure true:=by rfl):zO X B O Y (.Assign [.Name x pos'] (.ListComp elt [⟨tg,iter,ifs,0⟩] scope pos) c) (bN j (mP (gE nt a fi set fc fe))):=.mk fun U s Z H Dn I q=>by
 obtain⟨F,S,V,o⟩:=q;have o:=GL.of V o;rw[exec_Assign_Name_used x pos' _ c a2];refine Z9 (GM ?_);show wpAny _ _ ((comprehension (.ListComp elt [⟨tg,iter,ifs,0⟩] scope pos) scope X.env _ (newList []) _ _ (some (assign (.Name x pos') X.env)) >>= fun _=>pure ()) >>= fun _=>(pure Flow.next:Sem Flow)) _ _ _;refine Z9 (Z9 ?_);refine BD (some (assign (.Name x pos') X.env)) _ (fun F1 H1 z=>GL X.K B O Y Dn j S H1 z) nt a E Q (fun e h=>GL.step e h) (fun _ _ h=>h) (fun _ _ _ h=>h) n k m f l a1 L a4 hi hg hc he hs I V o ?_;intro C A vs F2 H2 F' w s5 m5 G r e2 g hD N a5 ra o3 J hn P i a6 W t K;have a0:∀σ' F' w,cV X.K B O F' w σ' (S.set j (some (.val (.lst G))))->Dn.nx σ' w:=o3;obtain⟨R,a8,a9,a3,rC⟩:=hn;have J':Inv X (U++[(C,R)]) Z w s5:=J.pins_of fun p hp=>by
  rcases List.mem_append.mp hp with z|z
  ·exact J.pin p (T6 _ z)
  ·have z':p=(C,R):=(by simpa using z);subst z';exact⟨a3,P,i,a6,fun v z=>by rw[rC.1]at z;cases z⟩
 have a7:bZ F2 H2 (cL F' A (.lst vs)) w:=⟨g.ff.trans (bG N),g.hh,fun b u z=>by
  by_cases eb:b=A
  ·subst eb;rw[aM]at z;rw[a5];exact z
  ·rw[aJ eb]at z;exact g.fh b u z,fun b xs hb fb=>by
  rw[aJ (aV hb hD)];exact g.new b xs hb fb⟩
 have T:=((V.step e2).step a7).setVal (d:=.lst G) (v:=.ref A) ⟨A,vs,rfl,aM,ra.mono (bG N)⟩ j;show wpAny _ _ (assign (.Name x pos') X.env (.ref A)) _ _ s5;refine Z9 (GM (wpAny_bindName (sM (v:=.ref A) J' hN hj (.inl hx) rfl (fun s6 I6=>?_) (.inr hx))));have p6:=I6.pin (C,R) (by simp);refine⟨m5,⟨R,a8,a9,p6.1,rC⟩,fun h7 sb=>?_⟩;refine Z7 (Z7 ⟨_,w,?_,a0 _ _ _ T⟩);exact(I6.unpinned).turned (t':=s6.toks) (it:=C) (fun b ob nb e=>sb.extBut b ob nb e) P i (.inr W) t K
theorem FS:Manifest.owners.lookup (String.ofList ['d','e','s','r','e','v','e','r'].reverse)=some Manifest.sig_reversed:=by kernel_rfl
theorem iE:PySem.Slot "reversed" "__next__" "reversed.__next__" :=.of (owner:="reversed") (n:="__next__") (by rw[O7,P4];kernel_rfl) (by decide +kernel) (by decide +kernel) (by decide +kernel) (by first|exact .inl (by decide +kernel)|exact .inr (by decide +kernel)) (by rw[Q2];kernel_rfl)
theorem rB:entryFor table "reversed.__next__" = some Builtin.«reversed.__next__»:=A2 (by kernel_rfl)
theorem sQ(a:Value):argsOk "reversed.__next__" ⟨[a],[]⟩:=by unfold argsOk;rw[F0 (id:="reversed.__next__") (n:=['_','_','t','x','e','n','_','_']) (o:=['d','e','s','r','e','v','e','r']) (by kernel_rfl) FS];kernel_rfl
theorem sP:PySem.Slot "reversed" "__iter__" "reversed.__iter__" :=.of (owner:="reversed") (n:="__iter__") (by rw[O7,P4];kernel_rfl) (by decide +kernel) (by decide +kernel) (by decide +kernel) (by first|exact .inl (by decide +kernel)|exact .inr (by decide +kernel)) (by rw[Q2];kernel_rfl)
theorem CC(a:Value):argsOk "reversed.__iter__" ⟨[a],[]⟩:=by unfold argsOk;rw[F0 (id:="reversed.__iter__") (n:=['_','_','r','e','t','i','_','_']) (o:=['d','e','s','r','e','v','e','r']) (by kernel_rfl) FS];kernel_rfl
theorem zT:entryFor table "reversed.__iter__" = some Builtin.«dict_keyiterator.__iter__»:=
 (zw (id':="dict_keyiterator.__iter__") (by kernel_rfl) (by first|rfl|decide +kernel|(unfold String.splitOn;simp +decide [String.splitOnAux])) (by decide +kernel) (by kernel_rfl))
theorem CB:PySem.Slot "reversed" "__init__" "object.__init__" :=.of (owner:="object") (n:="__init__") (by rw[O7,P4];kernel_rfl) (by decide +kernel) (by decide +kernel) (by decide +kernel) (by first|exact .inl (by decide +kernel)|exact .inr (by decide +kernel)) (by rw[Q2];kernel_rfl)
theorem PL:TypeCalled "reversed" "reversed.__new__" "object.__init__" :=
 ⟨by decide +kernel,by decide +kernel,⟨_,_,F.mro_reversed⟩,F.made_reversed,by decide +kernel,by rw[Q2];kernel_rfl,CB⟩
theorem Ba:typeLookup (.type "tuple") "__reversed__" = pure none:=by rw[O7,P4];kernel_rfl
theorem PJ:isSubtype (.type "tuple") (.type "dict")=pure false:=by rw[Q2];kernel_rfl
abbrev YY(h:Heap)(a t:Addr)(i:Int):Prop:=h.get? a=some {cls:=.type "reversed",dict:=none,data:=.fields #[.ref t,rawInt i],slots:=#[]}
theorem WG(t:Addr)(b:Array Value)(d:(b.size:Int)<2 ^ 63) :
  Meets (Builtin.«reversed.__new__» ⟨[.type "reversed",.ref t],[]⟩) (fun _ R s=>IsTup s.heap t b/\R (.ok (.ret (.ref s.heap.objs.size))) {s with heap:=s.heap.push {cls:=.type "reversed",data:=.fields #[.ref t,rawInt ((b.size:Int)-1)]},toks:=s.toks+1+1}):=
 .of_wp fun prog w A R s h=>by obtain⟨e,f,g,tk,c⟩:=s;obtain⟨ht,h⟩:=h;have hT:Heap.IsTuple (Shared.heap ⟨e,f,g,tk,c⟩) t b:=ht;unfold Builtin.«reversed.__new__»;refine Z9 (S5 (newClass_reversed _) ?_);refine Z9 (S5 (a:=()) (by first|rfl|kernel_rfl) ?_);refine Z9 (S5 (a:=()) (by first|rfl|kernel_rfl) ?_);refine Z9 (Tb hT.typeIs Ba ?_);show wpAny _ _ (_ >>= _) _ _ _;refine Z9 ?_;show wpAny _ _ (isInstance (.ref t) (.type "dict") >>= _) _ _ _;refine Z9 (T3 (T:="tuple") hT.typeIs PJ ?_);show wpAny _ _ (specialOf (.ref t) "__getitem__" >>= _) _ _ _;refine Z9 (Tb hT.typeIs slot_tuple_getitem.lookup ?_);show wpAny _ _ (pure true) _ _ _;refine Z7 ?_;show wpAny _ _ (call (.builtin "len") [.ref t] >>= _) _ _ _;refine Z9 (len_tuple ht d ?_);refine Z9 (S5 (a:=some (b.size:Int)) rfl ?_);show wpAny _ _ (Builtin.SmallTypes.newRecord _ _ >>= _) _ _ _;unfold Builtin.SmallTypes.newRecord;refine Z9 (W5 ?_);exact Z7 ⟨_,rfl,h⟩
theorem El{t:Addr}(ht:IsTup s.heap t its)(a:(its.size:Int)<2 ^ 63)(h:Q (.ref s.heap.objs.size) {s with heap:=s.heap.push {cls:=.type "reversed",data:=.fields #[.ref t,rawInt ((its.size:Int)-1)]},toks:=s.toks+1+1}):wpAny (model prog w) A (call (.type "reversed") [.ref t]) Q E s:=
 callType_new PL (by decide) (F.typeCall_reversed_1 _) (F.newCall_reversed_1 _) (fun obj=>F.args_object_init_2 obj _) F.entry_reversed_new (WG t its a) ⟨ht,⟨_,X9 _ rfl,rfl⟩,h⟩
theorem NL{t:Addr}{i:Int}(b:YY s.heap a t i)(h:Q (.ref a) s):wpAny (model prog w) A (pyIter (.ref a)) Q E s:=by have hT:s.TypeIs (.ref a) "reversed" :=⟨_,b,rfl⟩;refine J9 hT sP (W1 sP hT zT ?_ (CC _));show wpAny _ _ (ret (.ref a)) _ _ s;exact Z7 ⟨_,rfl,"reversed",_,hT,iE.lookup,h⟩
theorem Cj{t:Addr}{x:Value}{Q:Option Value->Shared->Prop}(b:YY s.heap a t (i:Int))(ht:IsTup s.heap t its)(d:its[i]? = some x)(h:(its.size:Int)<2 ^ 63)(q:∀h' tk,YY h' a t ((i:Int)-1)->Heap.SameBut a s.heap h'->Q (some x) {s with heap:=h',toks:=tk}):wpAny (model prog w) A (pyNext (.ref a)) Q E s:=by
 have hT:s.TypeIs (.ref a) "reversed" :=⟨_,b,rfl⟩;have hi:i<its.size:=by
  rcases W7 i its.size with c|c
  ·exact c
  ·rw[S8 c]at d;cases d
 unfold pyNext;refine Z9 (Ta (T7 (name:=Str.ofString "__next__") hT iE (W1 iE hT rB ?_ (sQ _))));unfold Builtin.«reversed.__next__»;refine Z9 (S5 (a:=(Value.ref a,[])) rfl ?_);show wpAny _ _ (field (.ref a) 0 >>= _) _ _ s;refine Z9 (X0 b rfl (x:=.ref t) rfl ?_);show wpAny _ _ (field (.ref a) 1 >>= _) _ _ s;refine Z9 (X0 b rfl (x:=rawInt (i:Int)) rfl ?_);show wpAny _ _ (if(i:Int)<0 then _ else _) _ _ s;rw[Z6 (by omega)];show wpAny _ _ (specialOf (.ref t) "__getitem__" >>= _) _ _ s;refine Z9 (Tb ht.typeIs slot_tuple_getitem.lookup ?_);show wpAny _ _ (mkInt (i:Int) >>= _) _ _ s;refine Z9 (wpAny_mkInt ?_);have e:seqIndex? (i:Int) its.size=some i:=(by have:FE its.size (i:Int)=some i:=(by unfold FE;rw[Z8 (by omega),Z8 (by omega)];simp);exact(CZ this).1);refine Z9 (Ta (PyProof.Rows.getItem_tuple (j:=i) ht (by omega) (by omega) e d ?_));show wpAny _ _ (field (.ref a) 1 >>= _) _ _ _;refine Z9 (X0 b rfl (x:=rawInt (i:Int)) rfl ?_);show wpAny _ _ (setField (.ref a) 1 (rawInt ((i:Int)-1)) >>= _) _ _ _;refine Z9 (Q7 b (by simp) fun h' f g=>?_);exact Z7 ⟨x,rfl,Z7 (q h' _ (by simpa using f) g)⟩
theorem Ai{t:Addr}{Q:Option Value->Shared->Prop}(hh:A.handled=none)(c:YY s.heap a t (-1))(q:∀h',Heap.ExtBut a s.heap h'->Q none {s with heap:=h'}):wpAny (model prog w) A (pyNext (.ref a)) Q E s:=by
 have hT:s.TypeIs (.ref a) "reversed" :=⟨_,c,rfl⟩;unfold pyNext;refine Z9 (Ta (T7 (name:=Str.ofString "__next__") hT iE (W1 iE hT rB ?_ (sQ _))));unfold Builtin.«reversed.__next__»;refine Z9 (S5 (a:=(Value.ref a,[])) rfl ?_);show wpAny _ _ (field (.ref a) 0 >>= _) _ _ s;refine Z9 (X0 c rfl (x:=.ref t) rfl ?_);show wpAny _ _ (field (.ref a) 1 >>= _) _ _ s;refine Z9 (X0 c rfl (x:=rawInt (-1)) rfl ?_);show wpAny _ _ (if(-1:Int)<0 then _ else _) _ _ s;rw[Z8 (by decide)];refine Z9 (T8 ?_);show wpAny _ _ (_ >>= _) _ _ _;refine Z9 ?_;show wpAny _ _ (setField (.ref a) 1 (rawInt (-1)) >>= _) _ _ _;refine Z9 (Q7 c (by simp) fun h e1 k=>?_);show wpAny _ _ (setField (.ref a) 0 .none) _ _ _;refine Q7 e1 (by simp) fun g e2 j=>?_;have f:Heap.SameBut a s.heap h:=k;have d:Heap.SameBut a h g:=j;have i:Heap.ExtBut a s.heap g:=fun b o n e=>d.extBut b o n (f.extBut b o n e);refine Z9 ?_;(show wpAny _ _ (newExc (.type "StopIteration") [] >>= _) _ _ _);refine Z9 ?_;simp only[newExc,newTuple];refine Z9 (W5 ?_ (by size_fits));refine Z9 (m:=firstArgMember _ _) (S5 (a:=Value.none) (by first|rfl|(simp only[firstArgMember];rfl)) ?_);refine W5 ?_ (by size_fits);simp only[raiseNew];refine Z9 (F5 ?_);first|rw[show A.in1.handled=none from hh]|rw[hh]
 refine Z9 (Z7 (E7 ?_));refine Z9 (T3 (T:="StopIteration") (b:=true) ⟨_,X9 _ rfl,rfl⟩ GT (Z7 (q _ ((i.push _).push _))))
def Uz(K:Z4)(a:Addr)(n:Nat):It:=
 ⟨fun i H=>∃xs,cA K H a xs/\xs.length=n/\i<n,fun i H x H'=>H'=H/\∀xs,cA K H a xs->xs[n-1-i]? = some x,fun i H=>∃xs,cA K H a xs/\xs.length=n/\n<=i⟩
theorem Ab(a d:Addr)(n:Nat):IU P w K tg (Uz K a n) [d] d (fun i h=>i<=n/\YY h d a ((n:Int)-1-(i:Nat))) where
 mem:=by simp
 obj:=fun i h st b f=>by have z:b=d:=(by simpa using f);subst z;exact⟨_,st.2,fun v z=>by cases z⟩
 keep:=fun i h j st k=>⟨st.1,k d (by simp) _ st.2⟩
 item:=by intro X r hw t hc i U s Z H E I hf st q;subst r hw t;obtain⟨l,m,T,hi⟩:=q;obtain⟨Q,G,p,hz⟩:=I.tuple m;have hn:=oH;have L:=G.length;have J:l[n-1-i]? = some (l[n-1-i]'(by omega)):=Y1 _;obtain⟨u,S,N⟩:=G.get J;obtain⟨F,D,V,C,A,y⟩:=hf d (by simp);have e:(n:Int)-1-(i:Nat)=((n-1-i:Nat):Int):=(by omega);have c:=st.2;rw[e]at c;refine Cj (i:=n-1-i) c p (x:=u) (by simpa using S) (by simp only[Y7];omega) fun j tk g M=>?_;have I1:Inv X U Z H {s with heap:=j,toks:=tk}:=I.turned (fun b o f e=>(M.2 b f).trans e) F D C A y;have e2:((n-1-i:Nat):Int)-1=(n:Int)-1-((i+1:Nat):Nat):=(by omega);refine⟨u,rfl,HL (s:={s with heap:=j,toks:=tk}) (n:="reversed") g rfl rfl (by decide) ⟨_,H,I1,N,⟨rfl,fun ys R=>by rw[I.tuple_inj R m];exact J⟩,⟨hi,by rw[<-e2];exact g⟩,fun b f=>(hf b f).1⟩⟩
 done:=by intro X r hw t hc i U s Z H E I hf st q;subst r hw t;obtain⟨l,m,T,hi⟩:=q;obtain⟨F,D,V,C,A,y⟩:=hf d (by simp);have e:(n:Int)-1-(i:Nat)=-1:=(by have:=st.1;omega);have c:=st.2;rw[e]at c;exact Ai (I.ok.hd hc) c fun j W=>⟨rfl,I.turned (t':=s.toks) (fun b o f e=>W b o f e) F D C A y⟩
 self:=fun _ _ _ _ _ st h=>NL st.2 h
theorem jF.rv(h:cA K Fb a vs)(r:aX K Fb ds vs):jF K (Uz K a vs.length) Fb ds.reverse where
 go:=fun i F H hi e1 e2=>⟨vs,cA.same (e1.trans e2) h,rfl,by rw[<-r.length];simpa using hi⟩
 yld:=fun i F H x f e1 e2 y d hd=>by obtain⟨rfl,y⟩:=y;have e:=r.length;have hi:i<ds.length:=(by have:=(List.getElem?_eq_some_iff.mp hd).1;simpa using this);rw[zb hi,e]at hd;obtain⟨v,c,b⟩:=r.get hd;have:=y vs (cA.same (e1.trans e2) h);rw[c]at this;cases this;exact⟨F,bZ.refl e2,b.mono e1⟩
 stop:=fun i F H hi e1 e2=>⟨vs,cA.same (e1.trans e2) h,rfl,by rw[<-r.length];simpa using hi⟩
def iRv(K:Z4)(tl:TE):TI:=fun Z H R=>tl Z H fun x H1=>∃a xs,x=.ref a/\cA K H1 a xs/\R (Uz K a xs.length) H1
theorem Pj{p:Pos}(v:Gl X "reversed")(t:X.mg "reversed" = none)(u:PE X e tl)(k:rK e=true):PI X tg (.Call (.Name "reversed" p) [e] [] pos) (iRv X.K tl):=by
 intro U s Z H R I h;refine Call_ (jX I v t boot_reversed (P5 (eL (cH u eM (dY k) pos U s Z H (fun j g=>match j with
  |[x]=>∃a c,x=.ref a/\cA X.K g a c/\R (Uz X.K a c.length) g|_=>False) I h) fun y f ⟨j,g,I1,r1,q1⟩=>?_) (dY k) rfl))
 match j,r1,q1 with
 |[_],.cons r .nil,q1=>
  obtain⟨a,c,rfl,n,q⟩:=q1;cases r;obtain⟨d,m,p,A⟩:=I1.tuple n;have C:=oH;have l:=m.length;refine El p (by simp only[Y7];omega) (NL (i:=(d.toArray.size:Int)-1) (X9 _ rfl) ?_);refine⟨f.heap.objs.size,[f.heap.objs.size],_,_,g,rfl,I1.kept (t':=f.toks+1+1) fun b o e=>Z3 _ e,Ab a _ c.length,⟨Y3 _,?_⟩,fun b w=>?_,q⟩
  ·have e2:(c.length:Int)-1-((0:Nat):Nat)=(d.toArray.size:Int)-1:=(by simp;omega);rw[e2];exact X9 _ rfl
  ·have z:b=f.heap.objs.size:=(by simpa using w);subst z;exact I1.fpOk (Z5 _) (I1.hok.fresh (Z5 _))
noncomputable def Fy:VR->Option (List D)
 |.ok (.tup l)=>some l.reverse|_=>none
noncomputable def YB(f:DS->M VR):DS->M (List D):=fun S=>mb (f S) fun r=>match Fy r with
 |some l=>some (.ok l)|none=>none
theorem Kh{p:Pos}(n:Gl X "reversed")(m:X.mg "reversed" = none)(h:DE X B O Y e f)(k:rK e=true:=by rfl):DI X B O Y tg (.Call (.Name "reversed" p) [e] [] pos) (YB f):=.mk fun U s Z H R I q=>by
 refine Pj n m h.h k U s Z H R I ?_;obtain⟨F,S,g,o⟩:=q;refine⟨F,S,g,dD.bind (G:=fun F H z=>mU X.K Y F H R z) (fun{F H F' H' z} e h=>mU.step e h) (fun _ _ h=>h) (fun _ _ _ h=>h) o fun r v u t e1 j b=>?_⟩;cases r with
 |bor l=>exact False.elim b|bod ks l=>exact False.elim b
 |ok d=>
  cases d with
  |tup l=>obtain⟨a,c,rfl,ht,i⟩:=j;exact⟨a,c,rfl,cA.same e1.fh ht,b _ u t (bZ.refl e1.fh) (jF.rv ht i)⟩
  |_=>exact False.elim b
theorem nV:∀{zs:List Int} {vs:List V},aX K H (zs.map D.int) vs->vs=zs.map V.int
 |[],_,h=>h
 |z::zs,_,h=>by obtain⟨v,r,rfl,b,a⟩:=h;cases b;rw[nV a];rfl
theorem aS:uY kM X (Ex Y):=fun _ _ _ _ _ _ _ h=>h.elim
theorem eT{a:List (Str×NameKind)}{f:Str->Option NameKind}(h:(a.all fun y=>match y.2 with|.free=>(match f y.1 with|some .cell=>true|some .free=>true|_=>false)|_=>true)=true):∀y∈a,y.2=.free->f y.1=some .cell\/f y.1=some .free:=by
 intro y b e;have q:=A9.mp h y b;rw[e]at q;simp only at q;split at q
 ·rename_i z;exact .inl z
 ·rename_i z;exact .inr z
 ·cases q
def kQ:M D->M D
 |some (.ok d)=>some (.ok d)|_=>none
variable{m:List D->M D}
theorem bW{x:List D->M D}(h:m=fun ds=>kQ (x ds)):∀ds r,ds.length=n->m ds=some r->∃d,r=.ok d/\x ds=some (.ok d):=by
 subst h;intro ds r _ e;simp only at e;cases q:x ds with
 |none=>rw[q]at e;cases e
 |some y=>
  rw[q]at e;cases y with
  |error c=>cases e|ok d=>injection e with e;subst e;exact⟨d,rfl,rfl⟩
variable{st:Stmt}
theorem XO:zO X B O Y st (fun _=>none):=.mk fun U s Z H a I ⟨F,S,_,o⟩=>False.elim o
end PF
namespace PF
open PySem PySem.Spec L2
end PF
namespace PF
open PySem
def bF(n:Nat)(ds:List D):DS:=ds.map (fun d=>some (Slot.val d))++List.replicate (n-ds.length) none
end PF
namespace PF
open PySem PySem.Spec L2
open PyProof.Rows hiding St
variable{A:Around}{E:Value->Shared->Prop}{s:Shared}{env:Env}{outer:List Env}{oe:Obj}{C:Addr}
section
variable{M:Model}
theorem HS(o:Obj)(f):(o.mapFields f).dict=o.dict:=by unfold Obj.mapFields;split<;>rfl
theorem HQ{base:Heap}{L e:Addr}{l:Array Value}{f:Value}{had:Bool}{Q:Unit->Shared->Prop}(t:A.frames=some (env::outer))(x:s.heap.FunFrames base (env::outer))(hf:env.frame=some L)(he:s.heap.get? e=some oe)(hd:oe.data=.fields l)(p:1<l.size) (h:∀j T d v,s.heap.objs.size<=T->(∀b o,b∉sH (env::outer)->b≠e->s.heap.get? b=some o->j.get? b=some o)->(∀b o,b≠e->s.heap.get? b=some o->∃m,j.get? b=some {o with slots:=m})->
   j.get? e=some (oe.mapFields (·.setIfInBounds 1 (.ref T)))->j.get? T=some d->d.data=.fields v->v[3]? = some (rawInt L)->Q () {s with heap:=j}) :
  wpAny M A (do let a <-frameOf env;let pl <-entryPlaceOf L had;let b <-EntryCells.newEntry f a .none (rawInt L) .none pl;setField (.ref e) 1 b) Q E s:=by
 have u:e∉sH (env::outer):=fun D=>(by obtain⟨_,o,w,r⟩:=x.mem D;rw[he]at w;cases w;exact r l hd);refine Z9 (wpAny_frameOf_fun t x hf fun c k=>Z9 (wpAny_entryPlaceOf fun pl q=>?_));unfold EntryCells.newEntry newFields;refine Z9 (W5 ?_ (q.sizeOk5 _ _ _ _ _));have e1:c.get? e=some oe:=(k.2.1 e u).trans he;obtain⟨d,g⟩:∃d:Obj,d={cls:=.type "traceback",dict:=none,data:=.fields ([f,.ref L,.none,rawInt L,.none]++(if pl.isEmpty then List.replicate 6 Value.none else pl)).toArray}:=⟨_,rfl⟩;rw[<-g];have e2:=Z3 (h:=c) d e1;refine SC e2 hd p ?_;have C:c.objs.size≠e:=SB (Z1 e1);have G:=U8 hd (·.setIfInBounds 1 (Value.ref c.objs.size));have F:=U2 (Obj.mapFields (·.setIfInBounds 1 (Value.ref c.objs.size))) e2 (Os G);have up:∀b o,b≠e->c.get? b=some o->((c.push d).update e (Obj.mapFields (·.setIfInBounds 1 (Value.ref c.objs.size)))).get? b=some o:=fun b o y i=>(by rw[S4 _ _ (Y8 y)];exact Z3 _ i);have hT:((c.push d).update e (Obj.mapFields (·.setIfInBounds 1 (Value.ref c.objs.size)))).get? c.objs.size=some d:=(by rw[S4 _ _ (Y8 C)];exact X9 c (by rw[g];rfl));refine h _ c.objs.size d _ (z6 k.1.symm) (fun b o n1 n2 i=>up b o n2 ((k.2.1 b n1).trans i)) (fun b o n i=>?_) F hT (by rw[g]) (by simp);obtain⟨m,z⟩:=k.2.2 b o i;exact⟨m,up b _ n z⟩
def BN(h:Heap)(e C T:Addr)(fl:Value):Prop:=∃oe vs oT ts,h.get? e=some oe/\(oe.cls=.ref C/\oe.dict=none)/\oe.data=.fields vs/\vs[1]? = some (.ref T)/\h.get? T=some oT/\oT.data=.fields ts/\ts[3]? = some fl/\T≠e
theorem uR{e T:Addr}{l:Value}{fr:Option Addr}{Q:Unit->Shared->Prop}(x:BN s.heap e C T l)(h:∀b,Heap.SameBut T s.heap b->BN b e C T (fr.elim .none fun f=>rawInt f)->Q () {s with heap:=b}):wpAny M A (setFlight (.ref e) fr) Q E s:=by obtain⟨oe,i,m,j,he,hc,hd,d,hT,a,k,ne⟩:=x;unfold setFlight;refine Z9 (X0 he hd d ?_);rw[Z8 (show(Value.ref T != Value.none)=true from by simp)];have g:=U8 a (·.setIfInBounds 3 (fr.elim Value.none fun f=>rawInt f));have c:3<j.size:=(Array.getElem?_eq_some_iff.mp k).1;refine SC hT a c (h _ (V2 ..) ⟨oe,i,_,_,?_,hc,hd,d,U2 _ hT (Os g),g,by simp[c],ne⟩);rw[S4 _ _ ne];exact he
theorem WA{base:Heap}{L e:Addr}{c:Array Value}{Q:Unit->Shared->Prop}(d:A.frames=some (env::outer))(m:s.heap.FunFrames base (env::outer))(hf:env.frame=some L)(he:s.heap.get? e=some oe)(hc:oe.cls=.ref C/\oe.dict=none)(hd:oe.data=.fields c)(g:c[1]? = some .none)(h:∀a T,s.heap.objs.size<=T->(∀b o,b∉sH (env::outer)->b≠e->s.heap.get? b=some o->a.get? b=some o)->(∀b o,b≠e->s.heap.get? b=some o->∃k,a.get? b=some {o with slots:=k})->BN a e C T (rawInt L)->Q () {s with heap:=a}) :
  wpAny M A (noteFrame (.ref e) env) Q E s:=by
 unfold noteFrame;simp only[hf];refine Z9 (X0 he hd g ?_);rw[Z6 (by decide)];have f:1<c.size:=(Array.getElem?_eq_some_iff.mp g).1;refine HQ (had:=(Value.none != Value.none)) d m hf he hd f fun a T l j i u t r q p n=>h a T i u t ?_;have ne:T≠e:=fun z=>absurd (X8 (Z1 he) (z▸i)) (U3 _);exact⟨_,_,l,j,r,by rw[N6,HS];exact hc,U8 hd _,by simp[f],q,p,n,ne⟩
theorem QD{base:Heap}{L e d:Addr}{Q:Unit->Shared->Prop}(m:A.frames=some (env::outer))(G:s.heap.FunFrames base (env::outer))(hf:env.frame=some L)(x:BN s.heap e C d .none)(h:∀f T,s.heap.objs.size<=T->(∀b o,b∉sH (env::outer)->b≠e->b≠d->s.heap.get? b=some o->f.get? b=some o)->(∀b o,b≠e->b≠d->s.heap.get? b=some o->∃y,f.get? b=some {o with slots:=y})->BN f e C T (rawInt L)->Q () {s with heap:=f}) :
  wpAny M A (noteFrame (.ref e) env) Q E s:=by
 obtain⟨oe,v,S,p,he,hc,hd,u,hT,c,t,ne⟩:=x;unfold noteFrame;simp only[hf];refine Z9 (X0 he hd u ?_);rw[Z8 (show(Value.ref d != Value.none)=true from by simp)];refine Z9 (X0 hT c t ?_);rw[Z6 (show ¬((Value.none==rawInt L)=true)from by simp[rawInt])];have F:3<p.size:=(Array.getElem?_eq_some_iff.mp t).1;refine Z9 (SC hT c F ?_);have r:1<v.size:=(Array.getElem?_eq_some_iff.mp u).1;have V:=U8 c (·.setIfInBounds 3 Value.none);have a:∀b o,b≠d->s.heap.get? b=some o->(s.heap.update d (Obj.mapFields (·.setIfInBounds 3 Value.none))).get? b=some o:=fun b o D q=>(by rw[S4 _ _ (Y8 D)];exact q);have w:(s.heap.update d (Obj.mapFields (·.setIfInBounds 3 Value.none))).objs.size=s.heap.objs.size:=Heap.size_after_update ..;refine HQ (base:=base) (had:=(Value.ref d != Value.none)) m (G.of_keeps fun b o n l=>⟨o,a b o (fun z=>by rw[z,hT]at n;cases n;exact l p c) n,rfl⟩) hf (a e oe (Y8 ne) he) hd r fun f T j i R P N K J I H=>?_;have g:s.heap.objs.size<=T:=(by rw[<-w];exact R);have k:T≠e:=fun z=>absurd (X8 (Z1 he) (z▸g)) (U3 _);exact h f T g (fun b o n1 n2 n3 q=>P b o n1 n2 (a b o n3 q)) (fun b o n2 n3 q=>N b o n2 (a b o n3 q)) ⟨_,_,j,i,K,by rw[N6,HS];exact hc,U8 hd _,by simp[r],J,I,H,k⟩
end
variable{P:Program}{w:World}{H H':Hp}{h h':Heap}{a:Addr}{o:HO}
section
variable{h1 h2:Heap}{e T:Addr}{fs:List Addr}
theorem Jg(x:cD P w H h a o):∃ob,h.get? a=some ob:=by
 cases o with
 |lst d=>obtain⟨_,_,_,_,q⟩:=x;exact⟨_,q⟩|tup d=>obtain⟨_,_,_,o,q,_⟩:=x;exact⟨o,q⟩|dK b=>obtain⟨_,_,_,_,o,_,_,q,_⟩:=x;exact⟨_,q⟩|dT b=>obtain⟨_,_,_,_,o,_,_,q,_⟩:=x;exact⟨_,q⟩|set S n=>obtain⟨o,_,_,_,q,_⟩:=x;exact⟨_,q⟩|ins C i e=>obtain⟨_,_,_,q,_⟩:=x;exact⟨_,q⟩|own y=>obtain⟨o,q⟩:=x;exact⟨o,q⟩|xd e=>obtain⟨_,⟨_,_,_,q,_⟩,_⟩:=x;exact⟨_,q⟩|rng lo hi=>obtain⟨_,_,_,q⟩:=x;exact⟨_,q⟩|frz ob u=>obtain⟨q,_⟩:=x;exact⟨_,q⟩|tbl g=>exact⟨_,x⟩|met f y=>exact⟨_,x⟩|ext φ=>obtain⟨_,⟨o,q⟩,_⟩:=x;exact⟨o,q⟩|lam l c q=>obtain⟨_,q,_⟩:=x;exact⟨_,q⟩
theorem wN(u:Un fs [] H H' h h1)(he:h.get? e=none)(hT:h.get? T=none)(i:∀b o,b∉fs->b≠e->b≠T->h1.get? b=some o->h2.get? b=some o)
  (g:∀b o,b≠e->b≠T->h1.get? b=some o->∃f,h2.get? b=some {o with slots:=f}):Un fs [] H H' h h2:=by
 have ne:∀b o,h.get? b=some o->b≠e/\b≠T:=fun b o q=>⟨(fun z=>by rw[z,he]at q;cases q),(fun z=>by rw[z,hT]at q;cases q)⟩;refine⟨fun b o q n d c=>i b o d (ne b o q).1 (ne b o q).2 (u.keep b o q n d c),fun b o q n d c=>?_,u.free,fun b o q c=>?_,u.tups,u.frzs,u.tbls⟩
 ·obtain⟨f,e1⟩:=u.slot b o q n d c;obtain⟨a,e2⟩:=g b _ (ne b o q).1 (ne b o q).2 e1;exact⟨a,e2⟩
 ·obtain⟨j,e1⟩:=u.there b o q c;obtain⟨a,e2⟩:=g b _ (ne b o q).1 (ne b o q).2 e1;exact⟨_,e2⟩
theorem uJ(x:pG P w H h1)(ne:H e=none)(g:H T=none)(f:∀b∈fs,H b=none)(h:∀b o,b∉fs->b≠e->b≠T->h1.get? b=some o->h2.get? b=some o):pG P w H h2:=fun a o q=>
 (x a o q).stay (fun b u d z=>by
  have c:H b≠none:=by
   rcases d with rfl|d
   ·rw[q];exact fun z=>nomatch z
   ·rw[d];exact fun z=>nomatch z
  exact h b u (fun z=>c (f b z)) (fun z=>c (z▸ne)) (fun z=>c (z▸g)) z) (fun _ q=>q) fun _ _ q=>q
theorem HI(x:pG P w H h)(n:h.get? a=none):H a=none:=by
 cases q:H a with
 |none=>rfl
 |some u=>obtain⟨o,z⟩:=Jg (x a u q);rw[n]at z;cases z
end
noncomputable def Ka:Nat->Str
 |0=>"FoldError"|1=>"NoSum"|2=>"NoText"|_=>"NoPart"
def SR(K:Z4)(P:Program)(w:World):ZN:=fun outer H s E e s'=>∃(a:Addr) (k:Nat) (C T:Addr) (H':Hp),e=.ref a/\s'.os=s.os/\AllBare s'.gens/\Un (sH outer) [] H H' s.heap s'.heap/\pG P w H' s'.heap/\
 O5 K X3 (Ka k)=some (some (.ref C))/\BN s'.heap a C T .none/\s.heap.get? a=none/\s.heap.get? T=none/\H' a=none/\H' T=none/\E (.ref k) none H'
abbrev vb:List Value:=[.type "ValueError",.type "Exception",.type "BaseException",.type "object"]
variable{K:Z4}
theorem Dk{b:List Value}{a:String}(X:K.In h)(q:PySem.W.excIn K C b a=true) :
  ∃bm N nm c bs hd sn sub ab col dd k0 k1 k2 k3 k5 mN,h.get? C=some (excClassObj nm c C N bs bm hd sn sub ab col dd k0 k1 k2 k3 k5 a)/\h.Ns N mN/\mN "__init__" = none/\OwnTail h b bm:=by
 unfold PySem.W.excIn at q;split at q
 ·next dd cd sl ho=>
  split at q
  ·next C' bm k0 k1 k2 k3 n k5 hm hs=>
   rw[X6,X6,X6,X6,X6]at q;obtain⟨⟨⟨⟨⟨r,p⟩,o⟩,m⟩,j⟩,k⟩:=q;have e1:C'=C:=Ft.mp r;have e2:n=a:=Ft.mp p;have s:cd.hasDel=false:=(by simpa using o);subst e1;subst e2;cases cd with
   |mk nm bs d ns c hd sn sub ab col i=>
    have f:d=Value.ref C'::bm:=hm;have g:i=false:=s;subst f;subst g;cases sl with
    |mk l=>have e:l=[k0,k1,k2,k3,some (Value.builtin n),k5]:=hs;subst e;refine⟨bm,ns,nm,c,bs,hd,sn,sub,ab,col,dd,k0,k1,k2,k3,k5,h.nsMap ns,X C' _ ho,Heap.Ns.of_isNs (PySem.W.isNs_of_in X j),?_,PySem.W.tail_of_in X m⟩;exact PySem.W.nsMap_none_of_in X j (Ft.mp k)
  ·cases q
 ·cases q
def Hr(te:TE)(R:Hp->Prop):TS:=fun _ Z H=>te Z H fun _ H1=>R H1
variable{X:Cx}{x:Str}{np cpos pos:Pos}{e:Expr}{te:TE}
theorem UU{R:Hp->Prop}(hh:X.A.handled=none)(u:Gl X x)(k:X.mg x=some (.ref C))(c:PySem.W.excIn X.K C vb "ValueError.__new__" = true)(he:PE X e te)(t:∀(U:List (Addr×Obj)) (Z:St) (H:Hp) (s:Shared) (f:List Value) (h':Heap) (a:Addr),Inv X U Z H s->R H->Heap.MadeExcOf s.heap h' a (.ref C) f->X.xe (.ref a) {s with heap:=h'})(hd:(x==("__debug__" : Str))=false:=by decide)(i:starEach [e] X.env=(false,eval e X.env)::starEach [] X.env:=by rfl):PS X (.Raise (some (.Call (.Name x np) [e] [] cpos)) none pos) (Hr te R):=by
 intro U s Z H D I h;obtain⟨o,N,nm,q,bs,hdct,sn,sub,ab,col,dd,k0,k1,k2,k3,k5,mN,w,v,j,T⟩:=Dk I.ok.mod.kin c;refine wpAny_Raise_call_subU (C:=C) (nm:=nm) (q:=q) (N:=N) (bs:=bs) (bm:=o) (hdct:=hdct) (sn:=sn) (sub:=sub) (ab:=ab) (col:=col) (dd:=dd) (k0:=k0) (k1:=k1) (k2:=k2) (k3:=k3) (k5:=k5)
  zu (by decide +kernel) zu (mN:=mN) (T.hasType zu.hasBase) hh (by rw[i];rfl) j (wD I u k ⟨rfl,?_⟩ hd)
 have n:=cH he eM i cpos U s Z H (fun m b=>m.length=1/\R b) I (by show te Z H fun x b=>TN Z b fun g d=>(x::g).length=1/\R d;have e:(fun(x:V) (b:Hp)=>TN Z b fun g d=>(x::g).length=1/\R d)=fun _ b=>R b:=(by funext x b;simp[TN]);rw[e];exact h);rw[i]at n ⊢;refine B7 (W0 n (fun f p ⟨m,d,I2,r,l,q2⟩=>⟨rfl,?_,I2.bk _ _ w,v.keeps I2.bk,T.keeps I2.bk,fun h' a k=>t U Z d p f h' a I2 q2 k⟩) fun _ _ y=>y);show f.length<=sizeLine;rw[<-r.length,l];decide
variable{mg:Str->Option Value}{N:List Str}{qual:Str}{scope:Scope}{cdv:Value}{U:List (Addr×Obj)}{Z:St}{H1 B O:Hp}{us:List Value}{fe:DS->M VR}
section
variable{base:Heap}{f:Addr}{E:XK}
theorem KW{c:Shared}(k:Nat)(j:O5 K X3 (Ka k)=some (some (.ref C)))(I:Inv (nL (SR K P w) P w K mg base N qual scope f cdv A outer s H E) U Z H1 c)(q:E (.ref k) none H1)(d:Heap.MadeExcOf c.heap h' a (.ref C) us) :
  (nL (SR K P w) P w K mg base N qual scope f cdv A outer s H E).xe (.ref a) {c with heap:=h'}:=by
 obtain⟨t,he,_,_⟩:=d.there;have fr:(A.deeper (envOfC qual scope s.heap.objs.size f cdv)).frames=some (envOfC qual scope s.heap.objs.size f cdv::outer):=I.ok.frames;have st:c.heap.FunFrames base (envOfC qual scope s.heap.objs.size f cdv::outer):=I.stack;show wpAny _ _ (leaving _ _) _ _ _;unfold leaving;refine Z9 (WA (s:={c with heap:=h'}) (C:=C) fr (st.of_keeps fun b o F _=>⟨o,d.keeps b o F,rfl⟩) rfl he ⟨rfl,rfl⟩ rfl (by rfl) fun G T M L J D=>?_);refine uR (s:={c with heap:=G}) (fr:=none) D fun l m i=>?_;have h:c.heap.get? T=none:=by
  cases z:c.heap.get? T with
  |none=>rfl
  |some o=>have v:=d.keeps _ _ z;exact absurd (X8 (Z1 v) M) (U3 _)
 have n:∀b o,b∉sH (envOfC qual scope s.heap.objs.size f cdv::outer)->b≠a->b≠T->c.heap.get? b=some o->l.get? b=some o:=fun b o n1 n2 n3 z=>(by rw[m.2 b n3];exact L b o n1 n2 (d.keeps b o z));have x:∀b o,b≠a->b≠T->c.heap.get? b=some o->∃g,l.get? b=some {o with slots:=g}:=fun b o n2 n3 z=>(by obtain⟨g,y⟩:=J b o n2 (d.keeps b o z);exact⟨g,by rw[m.2 b n3];exact y⟩);have p:=HI I.hok d.new;have r:=HI I.hok h;have e:=I.call' (s':={c with heap:=l}) (ch:=[]) rfl (wN Un.refl d.new h n x) (uJ I.hok p r I.stkFree n) I.bare (fun b z=>absurd z (by simp));have new:∀b,c.heap.get? b=none->s.heap.get? b=none:=fun b z=>by
  cases y:s.heap.get? b with
  |none=>rfl
  |some o=>obtain⟨Q,u⟩:=I.base.there b o y (by intro q;exact nomatch q);rw[z]at u;cases u
 exact⟨a,k,C,T,H1,rfl,e.os,e.bare,e.base,e.hok,j,i,new a d.new,new T h,p,r,q⟩
theorem XN(k:Nat)(hh:A.handled=none)(h:O5 K X3 (Ka k)=some (some (.ref C)))(b:PySem.W.excIn K C vb "ValueError.__new__" = true)(n:mg x=some (.ref C))(p:Gl (nL (SR K P w) P w K mg base N qual scope f cdv A outer s H E) x)(he:DE (nL (SR K P w) P w K mg base N qual scope f cdv A outer s H E) B O (fun c H'=>E (.ref c) none H') e fe){d:VR}(hd:∀S,fe S=some (.ok d))(i:(x==("__debug__" : Str))=false:=by decide)(m:starEach [e] (nL (SR K P w) P w K mg base N qual scope f cdv A outer s H E).env=(false,eval e (nL (SR K P w) P w K mg base N qual scope f cdv A outer s H E).env)::starEach [] (nL (SR K P w) P w K mg base N qual scope f cdv A outer s H E).env:=by rfl) :
  zO (nL (SR K P w) P w K mg base N qual scope f cdv A outer s H E) B O (fun c H'=>E (.ref c) none H') (.Raise (some (.Call (.Name x np) [e] [] cpos)) none pos) (fun _=>some (.ex k)):=.mk fun U l Z t u I q=>by
 obtain⟨F,S,j,o⟩:=q;refine UU (R:=fun H'=>E (.ref k) none H') hh p n b he.h (fun g σ' H' s' us h' a I' r hm'=>KW k h I' r hm') i m U l Z t u I ?_;refine⟨F,S,j,?_⟩;rw[hd S];exact fun v y H' ex _=>o H' (j.ext.hh.trans ex.hh)
end
end PF
namespace PF
open PySem PySem.Spec PySem.W L2
open PyProof.Rows hiding St InstAt
variable{prog:Program}{w:World}{A:Around}{E:Value->Shared->Prop}{s:Shared}{K:Z4}{a C:Addr}
section
variable{ox:Obj}
structure ZA(K:Z4)(C:Addr):Prop where
 exc:excIn K C vb "ValueError.__new__" = true
 ga:findIn K (.ref C) "__getattribute__" = some (some (.builtin "BaseException.__getattribute__"))
 gt:findIn K (.ref C) "__getattr__" = some none
 cl:findIn K (.ref C) "__class__" = some (some (.builtin "object.__class__"))
 gs:specialIn K (.builtin "object.__class__") "__get__" = some (some (.builtin "getset_descriptor.__get__"))
 tk:takesIn K (.builtin "object.__class__")=some true
 ob:mroIn K C (.type "object")=some true
 be:mroIn K C (.type "BaseException")=some true
 ty:typeIn K (.ref C)=some (.type "type")
 ic:isClsIn K C=true
theorem QX(k:ZA K C){tk:Tok}{Q:Fin->Shared->Prop}(X:K.In s.heap)(I:PySem.W.InstAt s.heap a ox C none)(h:Q (.done (.ret (.ref C))) s) :
  wpAny (model prog w) A (Builtin.«object.__getattribute__» ⟨[.ref a,.str "__class__" tk],[]⟩) Q E s:=by
 have hf:findObj K C none "__class__" = some (.bind (.builtin "getset_descriptor.__get__") (.builtin "object.__class__")):=(by have z:=k.ic;unfold isClsIn at z;obtain⟨f,hc⟩:=Option.isSome_iff_exists.mp z;unfold findObj;rw[hc,k.cl];simp only[Option.bind_some,k.gs,k.tk]);obtain⟨hh,e,d,t,os⟩:=s;have c:=I.type (M:=model prog w);have b:=looks_find (M:=model prog w) X I hf;refine Z9 (Z7 (Z9 (Z7 (Z9 (c.at (Z9 (b.at ?_)))))));show wpAny _ _ (holding [_] (call _ _) >>= ret) _ _ _;refine Z9 (X1 (L7 (class_get (ox:=ox) (od:=none) X I k.ob ?_)));exact Z7 h
theorem QZ(k:ZA K C){c:Value}{Q:Unit->Shared->Prop}(X:K.In s.heap)(I:PySem.W.InstAt s.heap a ox C none)(h:Q () s):wpAny (model prog w) A (checkBuiltinCall "BaseException.__getattribute__" ⟨[.ref a,c],[]⟩) Q E s:=by
 have e:builtinKind "BaseException.__getattribute__" = some .slot:=(by decide +kernel);have b:splitId "BaseException.__getattribute__" = some ("BaseException","__getattribute__"):=(by decide +kernel);have i:=F.args_bexc_ga (.ref a) c;obtain⟨hh,j,d,t,os⟩:=s;have g:=I.type (M:=model prog w);have f:=looks_mroIn (M:=model prog w) X k.be;simp only[checkBuiltinCall,e,b];refine Z9 (Z9 (g.at (f.at ?_)))
 repeat (first|assumption|wp_step)
theorem QY(k:ZA K C){Q:Option Value->Shared->Prop}(X:K.In s.heap)(I:PySem.W.InstAt s.heap a ox C none)(h:Q (some (.ref C)) {s with toks:=s.toks+1}):wpAny (model prog w) A (getAttr? (.ref a) "__class__") Q E s:=by obtain⟨hh,c,d,t,os⟩:=s;have f:=I.type (M:=model prog w);have e:=looks_findIn (M:=model prog w) X k.ga;have L2:=looks_findIn (M:=model prog w) X k.gt;unfold getAttr? getAttrBy? getAttrBy;refine Z9 (wpAny_mkText (Z9 (Ta (X1 (Z9 (f.at (Z9 (e.at ?_))))))));have b:(onTheHeap (Value.ref C)&&Value.builtin "BaseException.__getattribute__" ==Value.builtin "object.__getattribute__")=false:=(by rw[show(Value.builtin "BaseException.__getattribute__" ==Value.builtin "object.__getattribute__")=false from by decide +kernel];rfl);dsimp only;rw[b,Z6 W6];unfold getAttrByItsOwn;refine Z9 (L2.at (Z9 (Ta ?_)));refine X1 ?_;show wpAny _ _ (boundAndCalled _ _ _) _ _ _;unfold boundAndCalled;rw[F.attr_ValueError.ga.bind];refine Z9 (Z7 ?_);refine L7 (codeAny_call_builtin F.attr_ValueError.ga.plain F.entry_bexc_ga (QZ k (s:=⟨hh,c,d,t+1,os⟩) X I (QX k (s:=⟨hh,c,d,t+1,os⟩) X I ?_)));exact Z7 (Z7 h)
theorem WT(k:ZA K C):KitX K (.ref a) (.ref C) (fun h=>PySem.W.InstAt h a ox C none) where
 ty:=fun _ _ _ I=>I.type
 it:=fun _ _ X _=>by
  have z:=k.ic;unfold isClsIn clsIn at z;split at z
  ·next ho=>intro m j l g kp q;unfold isType loadHead;exact Z9 (wpAny_loadPart (kp _ _ (X _ _ ho)) (Z7 q))
  ·cases z
 ne:=fun h c i d n f X b=>by
  refine Bool.eq_false_iff.mpr fun q=>?_;have e:C=c:=Value.ref.inj (Ft.mp q);subst e;have z:=k.ic;unfold isClsIn clsIn at z;split at z
  ·next ho=>cases (X _ _ ho).symm.trans b
  ·cases z
 ca:=fun X I q=>QY k X I q
end
variable{X:Cx}{oe:Obj}{p1 p2 pos np:Pos}{U pn:List (Addr×Obj)}{Z:St}{H B O:Hp}{h':Heap}{Y:Addr->Hp->Prop}{body:List Stmt}
def Vn(j:Nat)(a:Addr)(b:Bool):TE:=fun Z H Q=>Z[j]? = some (some (V.ref a))/\Q (.bl b) H
theorem YL{f:Array Value}{b:Bool}{d:V}(h:(a,oe)∈X.pn)(hc:oe.cls=.ref C)(hd:oe.dict=none)(hf:oe.data=.fields f)(k:ZA X.K C)(i:∀u,RelV d u->kitOne X.K (.ref C) u=some b) :
  iB X (.builtin "isinstance") (fun c H Q=>c=[.ref a,d]/\Q (.bl b) H):=by
 intro U s Z H c l Q I r q;obtain⟨rfl,q⟩:=q;obtain⟨u,j,rfl,g,rt⟩:=vals2 r;cases g;obtain⟨e,_⟩:=I.pin (a,oe) (S0 _ h);refine kia_one (WT (ox:=oe) k) I.kIn ⟨e,hc,by unfold notCls;rw[hf],by rw[hd];trivial⟩ (i _ rt) (fun z=>nomatch z) fun tk=>⟨.bl b,H,I.tok tk,rfl,q⟩
theorem CI(j:Nat){i:Array Value}{b:Bool}{g:V}{n y:Str}{p:Pos}(m:(a,oe)∈X.pn)(hc:oe.cls=.ref C)(hd:oe.dict=none)(hf:oe.data=.fields i)(k:ZA X.K C)(q:∀u,RelV g u->kitOne X.K (.ref C) u=some b)(d:Gl X "isinstance")(o:X.mg "isinstance" = none)(c:PE X (.Name y p2) (tC g))(r:X.N[j]? = some n:=by rfl)(l:SA X.env.scope n:=by first|exact Or.inl rfl|exact Or.inr (Or.inl rfl)|exact Or.inr (Or.inr rfl))(e:(n==("__debug__" : Str))=false:=by decide)(f:(n==("__classdict__" : Str))=false:=by decide) :
  PE X (.Call (.Name "isinstance" p) [.Name n p1,.Name y p2] [] pos) (Vn j a b):=fun U s Z H Q I h=>
 mS (YL m hc hd hf k q) d o (by decide +kernel) (cH (iU r l e f) (cH c eM rfl) rfl) (by decide) (by decide) rfl rfl U s Z H Q I ⟨_,h.1,rfl,h.2⟩
theorem KO{M:Model}{D:Addr}{Q:Bool->Shared->Prop}(b:ZA K D)(c:mroIn K C (.ref D)=some true)(X:K.In s.heap)(he:s.heap.get? a=some oe)(hc:oe.cls=.ref C)(h:Q true s) :
  wpAny M A (excMatches (.ref a) (.ref D)) Q E s:=by
 obtain⟨hh,f,d,t,os⟩:=s;have m:Looks M hh (typeOf (.ref a)) (.ref C):=hc▸(Looks.ld he).andThen .now;have l:=looks_typeIn (M:=M) X b.ty;have L2:Looks M hh (isSubtype (.type "type") (.type "tuple")) false:=Looks.of_pure tc_notTuple;have k:=looks_mroIn (M:=M) X b.be;have j:=looks_mroIn (M:=M) X c;have i:Looks M hh (isType (.ref D)) true:=by
  have z:=b.ic;unfold isClsIn clsIn at z;split at z
  ·next ho=>intro o g n e kp q;unfold isType loadHead;exact Z9 (wpAny_loadPart (kp _ _ (X _ _ ho)) (Z7 q))
  ·cases z
 unfold excMatches isInstance isExcClass
 repeat lk
 exact h
theorem XB{i:Str->Option Value}{l:Nat}(I:Inv X U Z H s)(C:h'.Ns X.env.locals i)(f:Heap.SameBut X.env.locals s.heap h') :
  Inv X U (List.replicate X.N.length none) H {s with heap:=h',toks:=l}:=by
 obtain⟨m,⟨D,_,_,A,_⟩,_⟩:=id I.loc;have a:∀b o,X.s₀.heap.get? b=some o->b≠X.env.locals:=fun b o e=>Y6 (X8 (Z1 e) I.ok.above);refine⟨I.ok,I.os,I.bare,⟨fun b o e n h g=>(f.2 b (a b o e)).trans (I.base.keep b o e n h g),fun b o e n h g=>?_,I.base.free,fun b o e g=>?_,I.base.tups,I.base.frzs,I.base.tbls⟩,⟨i,C,fun j y v e1 e2 E=>?_⟩,fun y c e=>?_,I.free,I.freeC,fun p x=>?_,fun b ob e=>?_,by simp⟩
 ·obtain⟨r,e1⟩:=I.base.slot b o e n h g;exact⟨r,(f.2 b (a b o e)).trans e1⟩
 ·obtain⟨t,e1⟩:=I.base.there b o e g;exact⟨t,(f.2 b (a b o e)).trans e1⟩
 ·rw[K7]at e2;split at e2<;>cases e2
 ·obtain⟨k,z⟩:=I.cell y c e;exact⟨k,z.sameBut f (I.cne y c e)⟩
 ·obtain⟨e,n,ne,w,d⟩:=I.pin p x;exact⟨(f.2 p.1 ne).trans e,n,ne,w,d⟩
 ·refine(I.hok b ob e).stay (fun c u hc q=>(f.2 c ?_).trans q) (fun _ q=>q) fun _ _ q=>q;rintro rfl;rcases hc with rfl|hc
  ·rw[I.free]at e;cases e
  ·rw[I.free]at hc;cases hc
noncomputable def IB(h:DS->Option Fl)(g:Nat->Option D):DS->Option Fl:=fun S=>match h S with
 |some (.ex k)=>(match g k with
  |some d=>some (.ret d)|none=>none)
 |x=>x
noncomputable abbrev SY(X:Cx)(a:Addr)(pn:List (Addr×Obj)):Cx:={X with A:=X.A.mark (some (.ref a)),calm:=false,xe:=fun _ _=>False,pn:=pn}
noncomputable abbrev ZP(X:Cx)(pn:List (Addr×Obj))(E1:Value->Shared->Prop):Cx:={X with xe:=E1,pn:=pn}
theorem uI{a:Cx}{b:List (Addr×Obj)}(I:Inv X U Z H s)(ok:a.Ok)(f:a.s₀=X.s₀)(k:a.H₀=X.H₀)(e:a.outer=X.outer)(j:a.ex=X.ex)(c:a.env=X.env)(d:a.N=X.N)(i:a.prog=X.prog)(h:a.w=X.w)(g:∀p∈a.pn++b,s.heap.get? p.1=some p.2/\H p.1=none/\p.1≠X.env.locals/\p.1∉X.fs/\∀v,p.2.data≠.cell v):Inv a b Z H s:=by
 refine⟨ok,by rw[f];exact I.os,I.bare,?_,?_,by rw[c];exact I.cell,by rw[c];exact I.free,by rw[c];exact I.freeC,?_,by rw[i,h];exact I.hok,by rw[d];exact I.len⟩
 ·show Un (sH a.outer) a.ex a.H₀ H a.s₀.heap s.heap;rw[f,k,e,j];exact I.base
 ·rw[c,d];exact I.loc
 ·show ∀p∈a.pn++b,s.heap.get? p.1=some p.2/\H p.1=none/\p.1≠a.env.locals/\p.1∉sH a.outer/\∀v,p.2.data≠.cell v;rw[c,e];exact g
theorem SW{a:Value->Shared->Prop}(ok:X.Ok):(ZP X pn a).Ok:=
 ⟨ok.mod,ok.kind,ok.glob,ok.blt,ok.above,ok.inj,ok.has,ok.cab,ok.hd,ok.frames,ok.stk,ok.exf,ok.bs,ok.bsz,ok.noex,ok.exfs,ok.funs,ok.frf⟩
theorem SV{a:Value->Shared->Prop}(ok:(ZP X pn a).Ok):X.Ok:=
 ⟨ok.mod,ok.kind,ok.glob,ok.blt,ok.above,ok.inj,ok.has,ok.cab,ok.hd,ok.frames,ok.stk,ok.exf,ok.bs,ok.bsz,ok.noex,ok.exfs,ok.funs,ok.frf⟩
theorem SX(ok:X.Ok)(b:(X.A.mark (some (.ref a))).frames=X.A.frames):(SY X a pn).Ok:=
 ⟨ok.mod,ok.kind,ok.glob,ok.blt,ok.above,ok.inj,ok.has,ok.cab,fun z=>Bool.noConfusion z,b.trans ok.frames,ok.stk,ok.exf,ok.bs,ok.bsz,ok.noex,ok.exfs,ok.funs,ok.frf⟩
def OG(X:Cx)(j:Nat)(suite:List Stmt)(k:Nat)(d:D):Prop:=∀C:Addr,nsIn X.K X3 (Ka k)=some (some (.ref C))->ZA X.K C/\∀(pn:List (Addr×Obj)) (a:Addr) (oe:Obj) (vs:Array Value),(a,oe)∈pn->oe.cls=.ref C->oe.dict=none->oe.data=.fields vs->
 ∃(t:TS) (v:V),(∀F,jS X.K F d v)/\LY (SY X a pn) suite t/\∀(Z:St) (H:Hp) (Dn:Ends),Z.length=X.N.length->Z[j]? = some (some (.ref a))->(∀H',bR H H'->Dn.rt v H')->t Dn Z H
theorem Kc(j:Nat){b₀:Stmt}{A:List Stmt}{n y:Str}{a9:Pos}{Dc:Addr}{h:DS->Option Fl}{g:Nat->Option D}(f0:bR B O)(x:X.stack=X.env::X.outer)(N:X.env.frame=some X.env.locals)(b3:∀a,(X.A.mark (some (.ref a))).frames=X.A.frames)(hb:∀(pn:List (Addr×Obj)) (E1:Value->Shared->Prop) (a0:Addr->Hp->Prop),uY (SR X.K X.prog X.w) (ZP X pn E1) (Ex a0)->OK (ZP X pn E1) B O a0 body h)(hg:Gl X y)(c6:X.mg y=some (.ref Dc))(kD:ZA X.K Dc)(hs:∀k d,g k=some d->OG X j (b₀::A) k d/\∀C:Addr,nsIn X.K X3 (Ka k)=some (some (.ref C))->mroIn X.K C (.ref Dc)=some true)(hN:X.N.Nodup)(G:X.env.scope.names.lookup n=some .local)(hj:X.N[j]? = some n:=by rfl)(c7:(y==("__debug__" : Str))=false:=by decide) :
  zO X B O Y (.Try body [.ExceptHandler (some (.Name y np)) (some n) (b₀::A) a9] [] [] pos) (IB h g):=.mk fun U s Z H Dn I q=>by
 obtain⟨F,S,sk,o⟩:=q;have K:∀{E1:Value->Shared->Prop} {σ':St} {i:Hp} {l:Shared},Inv (ZP X (X.pn++U) E1) [] σ' i l->Inv X U σ' i l:=fun{E1 σ' i l} w=>uI w (SV w.ok) rfl rfl rfl rfl rfl rfl rfl rfl fun p E=>w.pin p (by simpa using E);refine wpAny_Try_except (W0 ((hb (X.pn++U) (fun e l=>∃σ' H1 s1,Inv (ZP X (X.pn++U) fun _ _=>False) [] σ' H1 s1/\SR X.K X.prog X.w X.stack H1 s1 (Ex fun c i=>h S=some (.ex c)/\bR O i) e l) (fun c i=>h S=some (.ex c)/\bR O i) ?pass).h [] s Z H Dn ?inv ⟨F,S,sk,?out⟩) ?ends ?exc)
 case pass=>intro b8 σ' H1 s1 e l w c;refine⟨σ',H1,s1,uI w (SW (SV w.ok)) rfl rfl rfl rfl rfl rfl rfl rfl fun p E=>w.pin p (S0 _ (by simpa using E)),c⟩
 case inv=>exact uI I (SW I.ok) rfl rfl rfl rfl rfl rfl rfl rfl fun p E=>I.pin p (by simpa using E)
 case out=>
  unfold IB at o;cases z:h S with
  |none=>rw[z]at o;exact o
  |some fl=>
   rw[z]at o;cases fl with
   |next S'=>exact o|ret d=>exact o|brk S'=>exact o|cont S'=>exact o|ex c=>exact fun i sm=>⟨rfl,sm⟩
 case ends=>
  intro fl l M;cases fl with
  |next=>obtain⟨σ',i,w,q⟩:=M;exact MT U l σ' i Dn (K w) q
  |brk=>obtain⟨σ',i,w,q⟩:=M;exact⟨σ',i,K w,q⟩|cont=>obtain⟨σ',i,w,q⟩:=M;exact⟨σ',i,K w,q⟩|ret u=>obtain⟨v,σ',i,w,r,q⟩:=M;exact⟨v,σ',i,K w,r,q⟩
 case exc=>
  intro e l hx;obtain⟨σ',H1,s1,I0,a,k,C,T,i,rfl,W,bare,un,hok,b2,ix,na,nT,fa,fT,k',ek,hS,sm⟩:=hx;have c8:k=k':=(by injection ek);subst c8;unfold IB at o;rw[hS]at o;cases eg:g k with
  |none=>simp only[eg]at o;exact False.elim o
  |some d=>
   simp only[eg]at o;obtain⟨R,a8⟩:=hs k d eg;obtain⟨kC,R⟩:=R C b2;have I1:Inv (ZP X (X.pn++U) fun _ _=>False) [] σ' i l:=I0.call' W un hok bare (fun b z=>absurd z (by simp));have fr:X.A.frames=some (X.env::X.outer):=(by rw[<-x];exact I.ok.frames);have st:l.heap.FunFrames X.base (X.env::X.outer):=(by have z:l.heap.FunFrames X.base X.stack:=I1.stack;rw[x]at z;exact z);refine QD fr st N ix fun h2 T2 a1 a2 a3 c0=>?_;refine uR (s:={l with heap:=h2}) (fr:=none) c0 fun h3 a6 a7=>?_;have frf:∀b∈sH X.stack,i b=none:=I1.stkFree;have L:∀b o,l.heap.get? b=some o->b≠T2:=fun b o z=>Y6 (X8 (Z1 z) a1);have k1:∀b o,b∉sH X.stack->b≠a->b≠T->l.heap.get? b=some o->h3.get? b=some o:=fun b o n1 n2 n3 z=>(by rw[a6.2 b (L b o z)];exact a2 b o (by rw[x]at n1;exact n1) n2 n3 z);have k2:∀b o,b≠a->b≠T->l.heap.get? b=some o->∃P,h3.get? b=some {o with slots:=P}:=fun b o n2 n3 z=>(by obtain⟨P,y'⟩:=a3 b o n2 n3 z;exact⟨P,by rw[a6.2 b (L b o z)];exact y'⟩);have I3:Inv (ZP X (X.pn++U) fun _ _=>False) [] σ' i {l with heap:=h3}:=I0.call' W (wN un na nT k1 k2) (uJ hok fa fT frf k1) bare (fun b z=>absurd z (by simp));have K3:X.K.In h3:=I3.kIn;have Q:=I.ok;have b5:∀{hz:Heap} {tz:Nat},Inv (ZP X (X.pn++U) fun _ _=>False) [] σ' i {l with heap:=hz,toks:=tz}->Inv (SY X a (X.pn++U)) [] σ' i {l with heap:=hz,toks:=tz}:=fun J=>uI J (SX Q (b3 a)) rfl rfl rfl rfl rfl rfl rfl rfl fun p E=>J.pin p E;have J3:Inv (SY X a (X.pn++U)) [] σ' i {l with heap:=h3}:=b5 I3;refine wpAny_handleBy_cons (codeAny_handlers_test (wD (X:=SY X a (X.pn++U)) J3 hg c6 ?_ c7)) (by intro q;cases q);obtain⟨d1,c9,d2,d0,e3,c3,d3,f3⟩:=id a7;refine KO (s:={l with heap:=h3}) kD (a8 C b2) K3 e3 c3.1 ?_;refine codeAny_handlers_suite_as ?_;refine uR (s:={l with heap:=h3}) (fr:=none) a7 fun h4 a5 b9=>?_;have l1:∀b o,b∉sH X.stack->b≠a->b≠T->l.heap.get? b=some o->h4.get? b=some o:=fun b o n1 n2 n3 z=>(by rw[a5.2 b (L b o z)];exact k1 b o n1 n2 n3 z);have l2:∀b o,b≠a->b≠T->l.heap.get? b=some o->∃P,h4.get? b=some {o with slots:=P}:=fun b o n2 n3 z=>(by obtain⟨P,y'⟩:=k2 b o n2 n3 z;exact⟨P,by rw[a5.2 b (L b o z)];exact y'⟩);have I4:Inv (ZP X (X.pn++U) fun _ _=>False) [] σ' i {l with heap:=h4}:=I0.call' W (wN un na nT l1 l2) (uJ hok fa fT frf l1) bare (fun b z=>absurd z (by simp));obtain⟨oe,vs,oT,ts,e4,c4,d4,f4⟩:=id b9;have J4:Inv (SY X a (X.pn++U++[(a,oe)])) [] σ' i {l with heap:=h4}:=by
    refine uI I4 (SX Q (b3 a)) rfl rfl rfl rfl rfl rfl rfl rfl fun p E=>?_;have c1:p∈(X.pn++U)++[(a,oe)]:=(by simpa using E);rcases List.mem_append.mp c1 with V|V
    ·exact I4.pin p (S0 _ V)
    ·have:p=(a,oe):=(by simpa using V);subst this;refine⟨e4,fa,fun z=>?_,fun z=>?_,fun v z=>?_⟩
     ·obtain⟨m,⟨oL,_,_,b0,_⟩,_⟩:=id I0.loc;have z':a=X.env.locals:=z;rw[<-z',na]at b0;cases b0
     ·have q1:a∈sH X.stack:=by
       rw[x];unfold sH;rw[V5,N];exact X5 _ z
      have q2:s1.heap.FunFrames X.base X.stack:=I0.stack;obtain⟨_,o',b1,_⟩:=q2.mem q1;rw[na]at b1;cases b1
     ·have z':oe.data=.cell v:=z;rw[d4]at z';cases z'
   refine sM (X:=SY X a (X.pn++U++[(a,oe)])) J4 hN hj (Or.inl G) (v:=.ref a) rfl (fun s5 I5=>?_) (Or.inr G);obtain⟨t,v,b7,ps,ht⟩:=R (X.pn++U++[(a,oe)]) a oe vs (T6 _ (by simp)) c4.1 c4.2 d4;have lσ:σ'.length=X.N.length:=I0.len;have jl:j<σ'.length:=(by rw[lσ];exact(List.getElem?_eq_some_iff.mp hj).1);refine W0 (ps [] s5 (σ'.set j (some (.ref a))) i {nx:=fun _ _=>False,rt:=fun u H2=>u=v/\bR i H2} I5 (ht _ _ _ (by rw[SZ];exact lσ) (iD jl) fun H2 z=>⟨rfl,z⟩)) (fun fl s6 h6=>?_) (fun _ _ z=>False.elim z);cases fl with
   |next=>obtain⟨_,_,_,z⟩:=h6;exact False.elim z|brk=>obtain⟨_,_,_,z⟩:=h6;exact False.elim z|cont=>obtain⟨_,_,_,z⟩:=h6;exact False.elim z
   |ret u=>obtain⟨v',σ6,H6,I6,rv,ev,a4⟩:=h6;subst ev;have b4:Inv X U σ6 H6 s6:=uI I6 Q rfl rfl rfl rfl rfl rfl rfl rfl fun p E=>I6.pin p (S0 _ (S0 _ E));obtain⟨m6,c5,_⟩:=id b4.loc;refine wpAny_nameGoes G c5 (by rw[I.ok.kind];rfl) fun h7 m7 c2 b6=>?_;exact⟨v',_,H6,XB b4 c2 b6,rv,o v' B H6 ⟨bR.refl _,sm.trans a4,f0.trans (sm.trans a4),fun _ _ _ f=>f⟩ (b7 B)⟩
variable{P:Program}{mg:Str->Option Value}{x qual:Str}{st:Stmt}{fd:V1}{N ps:List Str}{m:List D->M D}
theorem kB.dh{base:Heap}{f:Addr}{k:Nat}{g:DS->Option Fl}(F:kB K x qual st f fd)(M:aY N ps (aO st))(I:∀(a:Value) (A:Around) (outer:List Env) (s:Shared) (H:Hp) (E:XK),hU k (A.deeper (envOfC qual (aO st) s.heap.objs.size f a))->∀B O:Hp,bR B O->OK (nL kM P w K mg base N qual (aO st) f a A outer s H E).nox B O ZQ (gS st) g)(G:∀b r,b.length=ps.length->m b=some r->∃d,r=.ok d/\fin (g (iT N b))=some (.ok d)):uZ P w K mg base kM (k+1) f fd ps (SS K ps.length m):=by
 refine F.ok M (fun t H Q E h=>BZ h) fun a A outer s H t Q E C h=>?_;obtain⟨p,b,fh,lo,r,l,o⟩:=h;refine⟨_,(I a A outer s H E C p H fh).h,p,iT N b,wX fh lo r,?_⟩;cases z:m b with
 |none=>rw[z]at o;exact False.elim o
 |some y=>
  rw[z]at o;obtain⟨d,rfl,e⟩:=G b y l z;cases q:g (iT N b)with
  |none=>rw[q]at e;cases e
  |some J=>
   rw[q]at e;cases J with
   |next S=>have i:D.non=d:=(by injection e with e;injection e);subst i;exact fun σ' n j sk=>o .non n j sk.ext rfl
   |ret L=>have i:L=d:=(by injection e with e;injection e);subst i;exact fun v n j ex u=>o v n j ex u
   |brk S=>cases e|cont S=>cases e|ex c=>injection e with e;cases e
def Ec(f:DS->Option Fl):DS->Option Fl:=fun S=>match f S with
 |some (.ex _)=>none|x=>x
theorem Do{st:List Stmt}{f:DS->Option Fl}(h:OK X.nox B O ZQ st f):OK X B O Y st (Ec f):=.mk fun U s Z H e I ⟨F,S,sk,o⟩=>by
 refine h.h.nox U s Z H e I ⟨F,S,sk,?_⟩;unfold Ec at o;cases z:f S with
 |none=>rw[z]at o;exact False.elim o
 |some b=>
  rw[z]at o;cases b with
  |ex c=>exact False.elim o|next a=>exact o|ret d=>exact o|brk a=>exact o|cont a=>exact o
variable{C0 C1 C2 C3:Addr}{j:Nat}{p3 p4 p5:Pos}
structure Su(K:Z4)(mg:Str->Option Value)(C0 C1 C2 C3:Addr):Prop where
 n0:nsIn K X3 "FoldError" = some (some (.ref C0))
 n1:nsIn K X3 "NoSum" = some (some (.ref C1))
 n2:nsIn K X3 "NoText" = some (some (.ref C2))
 n3:nsIn K X3 "NoPart" = some (some (.ref C3))
 g0:mg "FoldError" = some (.ref C0)
 g1:mg "NoSum" = some (.ref C1)
 g2:mg "NoText" = some (.ref C2)
 g3:mg "NoPart" = some (.ref C3)
 gv:mg "ValueError" = none
 gi:mg "isinstance" = none
 gt:mg "int" = none
structure Uy(K:Z4)(C0 C1 C2 C3:Addr):Prop where
 e0:kitOne K (.ref C3) (.ref C0)=some true
 eV:kitOne K (.ref C3) (.type "ValueError")=some true
 e1:kitOne K (.ref C3) (.ref C1)=some false
 e2:kitOne K (.ref C3) (.ref C2)=some false
 self:mroIn K C3 (.ref C3)=some true
theorem KY{D:Addr}{b:Bool}(self:mroIn K C (.ref C)=some true)(m:mroIn K C (.ref D)=some b)(ty:typeIn K (.ref D)=some (.type "type"))(ic:isClsIn K D=true):kitOne K (.ref C) (.ref D)=some b:=by
 unfold kitOne;split
 ·next q=>have e:C=D:=Value.ref.inj (Ft.mp q);subst e;rw[self]at m;exact m
 ·have a:(clsIn K D).isSome=true:=ic;show(if((clsIn K D).isSome&&typeIn K (.ref D)==some (.type "type"))=true then subIn K (.ref C) (.ref D)else none)=some b;rw[a,ty,Z8 (by decide)];exact m
theorem Uy.of(h:mroIn K C3 (.ref C0)=some true)(g:mroIn K C3 (.ref C1)=some false)(f:mroIn K C3 (.ref C2)=some false)(a:mroIn K C3 (.ref C3)=some true)(e:mroIn K C3 (.type "ValueError")=some true)(d:typeIn K (.ref C0)=some (.type "type"))(c:typeIn K (.ref C1)=some (.type "type"))(b:typeIn K (.ref C2)=some (.type "type"))(k:isClsIn K C0=true)(j:isClsIn K C1=true)(i:isClsIn K C2=true):Uy K C0 C1 C2 C3:=by refine⟨KY a h d k,?_,KY a g c j,KY a f b i,a⟩;unfold kitOne;rw[Z6 (by intro q;cases Ft.mp q)];show(if kitMeta "ValueError" = true then subIn K (.ref C3) (.type "ValueError")else none)=some true;rw[Z8 (by decide +kernel)];exact e
theorem Xz{a:List Stmt}{g:Addr}(b:Nat)(c:D)(h:OG X j a b c)(i:nsIn X.K X3 (Ka b)=some (some (.ref C)))(l:mroIn X.K C (.ref g)=some true) :
  ∀k d,(if k=b then some c else none)=some d->OG X j a k d/\∀f:Addr,nsIn X.K X3 (Ka k)=some (some (.ref f))->mroIn X.K f (.ref g)=some true:=by
 intro k d e;split at e
 ·next q=>subst q;have n:c=d:=Z2 e;subst n;refine⟨h,fun f m=>?_⟩;have z:=m.symm.trans i;injection z with z;injection z with z;injection z with z;rw[z];exact l
 ·cases e
theorem JM(d h:Nat){c f:Str}{p6 p7 p8 p9 q1 q2 q3 W S R Q P N M L K J I G F E D A y x:Pos}{c0 c1}(T:Su X.K X.mg C0 C1 C2 C3)(g:ZA X.K C3)(e0:kitOne X.K (.ref C3) (.ref C0)=some true)(eV:kitOne X.K (.ref C3) (.type "ValueError")=some true)(e1:kitOne X.K (.ref C3) (.ref C1)=some false)(e2:kitOne X.K (.ref C3) (.ref C2)=some false)(hN:X.N.Nodup)(b:X.N[d]? = some c)(e:X.N[h]? = some f)(ne:d≠h)(k:X.env.scope.names.lookup c=some .local)(q:X.env.scope.names.lookup f=some .local)(n:(c==("__debug__" : Str))=false)(o:(c==("__classdict__" : Str))=false)(dG:(f==("__debug__" : Str))=false)(cG:(f==("__classdict__" : Str))=false)(m:Gl X "isinstance")(hV:Gl X "ValueError")(h0:Gl X "FoldError")(h1:Gl X "NoSum")(h2:Gl X "NoText")(hT:Gl X "int") :
  OG X d [.Assign [.Name f p1] (.BoolOp .And [.Call (.Name "isinstance" p2) [.Name c p3,.Name "FoldError" p4] [] p5,.Call (.Name "isinstance" p6) [.Name c p7,.Name "ValueError" p8] [] p9] q1) q2,
   .Return (some (.Subscript (.List [.Constant (.int 0) c0 q3,.Constant .none c1 W] S) (.Call (.Name "int" R) [.BoolOp .And [.Name f Q,.UnaryOp .Not (.Call (.Name "isinstance" P) [.Name c N,.Name "NoSum" M] [] L) K,.UnaryOp .Not (.Call (.Name "isinstance" J) [.Name c I,.Name "NoText" G] [] F) E] D] [] A) y)) x] 3 .non:=by
 intro C hC;have eC:C=C3:=(by have z:=hC.symm.trans T.n3;injection z with z;injection z with z;injection z);subst eC;refine⟨g,fun pn a oe vs l hc hd hf=>⟨_,.non,fun _=>rfl,GB (rM (i:=h) hN e (Or.inl q) (CJ (CI (X:=SY X a pn) d l hc hd hf g (fun u r=>by cases r;exact e0) m T.gi (wB (v:=.ref C0) h0 T.g0 rfl) b (Or.inl k) n o)
  (KD (CI (X:=SY X a pn) d l hc hd hf g (fun u r=>by cases r;exact eV) m T.gi (MY (v:=.ty "ValueError") hV T.gv PyProof.Rows.Boot.«ValueError» rfl) b (Or.inl k) n o))) rfl (Or.inr q))
  (MS (UT (Gm NK (VD (cH VE (cH xI eM))) (kP BF hT T.gt (by rfl) (cH (CJ (iU e (Or.inl q) dG cG) (CJ (KE (CI (X:=SY X a pn) d l hc hd hf g (fun u r=>by cases r;exact e1) m T.gi (wB (v:=.ref C1) h1 T.g1 rfl) b (Or.inl k) n o))
   (KD (KE (CI (X:=SY X a pn) d l hc hd hf g (fun u r=>by cases r;exact e2) m T.gi (wB (v:=.ref C2) h2 T.g2 rfl) b (Or.inl k) n o))))) eM)) (fun _ _=>rfl)))),fun Z H Dn lσ s t=>?_⟩⟩
 have jl:h<Z.length:=(by rw[lσ];exact(List.getElem?_eq_some_iff.mp e).1);have j:(Z.set h (some (V.bl true)))[d]? = some (some (V.ref a)):=(by rw[X4 (Y8 ne)];exact s);refine⟨s,true,rfl,?_⟩;rw[Z8 rfl];refine⟨s,?_⟩;refine⟨by show 2<=sizeLine;decide,fun p w=>?_⟩;refine⟨V.bl true,iD jl,true,rfl,?_⟩;rw[Z8 rfl];refine⟨j,false,rfl,true,rfl,?_⟩;rw[Z8 rfl];refine⟨j,false,rfl,?_⟩;refine .inr ⟨true,rfl,?_⟩;exact⟨p,[.int 0,.non],1,.non,rfl,rfl,iA.of aM,rfl,t _ (bG w)⟩
variable{e:Expr}{fa fb:DS->M VR}
section
variable{a b:Expr}
end
end PF
namespace L2
open PySem PySem.Spec PyProof.Rows
variable{y:V}{u:Value}
section
variable{κ:Type}[DecidableEq κ]
noncomputable def sJ(kvs:List (κ×V))(k:κ):Option V:=(kvs.find? fun kv=>decide (kv.1=k)).map (·.2)
noncomputable def qZ(kvs:List (κ×V))(k:κ)(v:V):List (κ×V):=
 if(kvs.any fun kv=>decide (kv.1=k))=true then kvs.map (fun kv=>if kv.1=k then(kv.1,v)else kv)else kvs++[(k,v)]
theorem sI{p:κ×V}{r:List (κ×V)}{k:κ}(e:p.1=k):sJ (p::r) k=some p.2:=by simp[sJ,T9,e]
theorem pH{p:κ×V}{r:List (κ×V)}{k:κ}(e:¬p.1=k):sJ (p::r) k=sJ r k:=by simp[sJ,T9,e]
theorem FG(k:κ):∀a:List (κ×V),(a.any fun b=>decide (b.1=k))=(sJ a k).isSome
 |[]=>rfl
 |p::r=>by
  rw[G3];by_cases e:p.1=k
  ·simp only[sI e,decide_eq_true e,Bool.true_or,Option.isSome_some]
  ·rw[pH e,decide_eq_false e,Bool.false_or];exact FG k r
theorem vH(a:List (κ×V))(k:κ)(v:V):(qZ a k v).length<=a.length+1:=by
 unfold qZ;split
 ·rw[Y9];lia
 ·rw[W3,Q3,List.length_nil];lia
theorem zA.isSome_eq{o:Option V}{u:Option Value}(r:zA o u):o.isSome=u.isSome:=by
 cases o with
 |none=>cases u with
  |none=>rfl|some _=>exact(show False from r).elim
 |some _=>cases u with
  |none=>exact(show False from r).elim|some _=>rfl
theorem KV.val{a:List (κ×V)}{f:List (κ×Value)}(r:KV a f)(k:κ):zA (sJ a k) (valueAt f k):=by
 unfold KV at r
 induction r with
 |nil=>exact True.intro
 |@cons p q l c h t i=>
  obtain⟨g,j⟩:=h;by_cases e:p.1=k
  ·have d:q.1=k:=g.symm.trans e;have b:valueAt (q::c) k=some q.2:=(by simp[valueAt,T9,d]);rw[sI e,b];exact j
  ·have d:¬q.1=k:=fun z=>e (g.trans z);have b:valueAt (q::c) k=valueAt c k:=(by simp[valueAt,T9,d]);rw[pH e,b];exact i
theorem KV.any{a:List (κ×V)}{c:List (κ×Value)}(r:KV a c)(k:κ):(a.any fun b=>decide (b.1=k))=c.any fun b=>decide (b.1=k):=by
 unfold KV at r
 induction r with
 |nil=>rfl|cons h t d=>rw[G3,G3,d,h.1]
theorem KV.repl{b:List (κ×V)}{d:List (κ×Value)}(r:KV b d)(k:κ)(f:RelV y u) :
  KV (b.map fun a=>if a.1=k then(a.1,y)else a) (d.map fun a=>if a.1=k then(a.1,u)else a):=by
 unfold KV at r ⊢
 induction r with
 |nil=>exact .nil
 |@cons p q l j h t g=>
  rw[Y4,Y4];refine .cons ?_ g;obtain⟨c,i⟩:=h;by_cases e:p.1=k
  ·rw[Z8 e,Z8 (c.symm.trans e)];exact⟨c,f⟩
  ·rw[Z6 e,Z6 (fun z=>e (c.trans z))];exact⟨c,i⟩
theorem KV.put{a:List (κ×V)}{b:List (κ×Value)}(r:KV a b)(k:κ)(c:RelV y u):KV (qZ a k y) (stored b k u):=by
 unfold qZ stored;rw[r.any k];by_cases e:(b.any fun d=>decide (d.1=k))=true
 ·rw[Z8 e,Z8 e];exact r.repl k c
 ·rw[Z6 e,Z6 e];exact Paired.snoc r ⟨rfl,c⟩
theorem KV.length{a:List (κ×V)}{vs:List (κ×Value)}(r:KV a vs):a.length=vs.length:=Paired.length r
end
variable{P:Program}{w:World}
theorem NI{k:fW}(r:RelV (kV k) u):(gG P w).is k u=true:=by
 cases k with
 |inl i=>obtain⟨t,e⟩:=(show ∃t,u=Value.int i t from r);subst e;exact GW P w i t|inr x=>obtain⟨t,e⟩:=(show ∃t,u=Value.str x t from r);subst e;exact GV P w x t
theorem AV:∀{ks:List fW} {us:List Value},bD (ks.map kV) us->ItemsAre (gG P w) ks us
 |[],_,r=>by rw[R1]at r;cases r;exact .nil
 |k::ks,_,r=>by
  rw[Y4]at r;cases r with
  |cons h t=>exact .cons (NI h) (AV t)
abbrev KT(H:Hp):List (List fW×V)->List (List fW×Addr×Value)->Prop:=Paired fun p q=>p.1=q.1/\H q.2.1=some (.tup (p.1.map kV))/\RelV p.2 q.2.2
variable{H:Hp}
theorem KT.val{a:List (List fW×V)}{f:List (List fW×Addr×Value)}(r:KT H a f)(k:List fW):zA (sJ a k) ((atKey f k).map (·.2)):=by
 induction r with
 |nil=>exact True.intro
 |@cons p q l c h t i=>
  obtain⟨g,_,j⟩:=h;by_cases e:p.1=k
  ·have d:q.1=k:=g.symm.trans e;have b:atKey (q::c) k=some q.2:=(by simp[atKey,T9,d]);rw[sI e,b];exact j
  ·have d:¬q.1=k:=fun z=>e (g.trans z);have b:atKey (q::c) k=atKey c k:=(by simp[atKey,T9,d]);rw[pH e,b];exact i
theorem KT.repl{a:List (List fW×V)}{d:List (List fW×Addr×Value)}(r:KT H a d)(k:List fW)(g:RelV y u) :
  KT H (a.map fun c=>if c.1=k then(c.1,y)else c) (d.map (putAt k u)):=by
 induction r with
 |nil=>exact .nil
 |@cons p q m l h t i=>
  rw[Y4,Y4];refine .cons ?_ i;obtain⟨b,f,j⟩:=h;unfold putAt;by_cases e:p.1=k
  ·rw[Z8 e,Z8 (b.symm.trans e)];exact⟨b,f,g⟩
  ·rw[Z6 e,Z6 (fun z=>e (b.trans z))];exact⟨b,f,j⟩
variable{b:Addr}
theorem KT.put{a:List (List fW×V)}{c:List (List fW×Addr×Value)}(r:KT H a c)(k:List fW)(g:H b=some (.tup (k.map kV)))(d:RelV y u) :
  KT H (qZ a k y) (storedH c k b u):=by
 have e:(a.any fun f=>decide (f.1=k))=(atKey c k).isSome:=(by rw[FG,(r.val k).isSome_eq,Option.isSome_map]);unfold qZ storedH;rw[e];by_cases q:(atKey c k).isSome=true
 ·rw[Z8 q,Z8 q];exact r.repl k d
 ·rw[Z6 q,Z6 q];exact Paired.snoc r ⟨rfl,g,d⟩
variable{H':Hp}
theorem KT.keeps{a:List (List fW×V)}{xs:List (List fW×Addr×Value)}(r:KT H a xs)(ht:∀b c,H b=some (.tup c)->H' b=some (.tup c)):KT H' a xs:=
 Paired.mapP r fun _ _ z=>⟨z.1,ht _ _ z.2.1,z.2.2⟩
variable{h:Heap}{a:Addr}{kvs:List (fW×V)}
theorem Fz{u:HO}(ok:pG P w H h)(e:Rd H a u):cD P w H h a u:=e.ok ok
theorem NT(ok:pG P w H h)(e:Rd H a (.dK kvs)):kvs.length<=sizeLine/\(a==sysModules)=false/\∃b,KV kvs b/\h.DictOf (gG P w) a b:=
 show cD P w H h a (.dK kvs)from Fz ok e
theorem Rc(ok:pG P w H h)(e:H a=some (.dK kvs)):kvs.length<=sizeLine/\(a==sysModules)=false/\∃b,KV kvs b/\h.DictOf (gG P w) a b:=NT ok (.inl e)
theorem CY{ks:List fW}(ok:pG P w H h)(e:H a=some (.tup (ks.map kV))):(tupleKind (gG P w)).is h ks a:=by obtain⟨_,b,r,o,f,d,n,c,_⟩:=(show cD P w H h a (.tup (ks.map kV))from ok a _ e);exact⟨o,b.toArray,n,f,d,c,by simpa using AV r⟩
theorem NO{b:List (List fW×V)}(ok:pG P w H h)(e:Rd H a (.dT b)):b.length<=sizeLine/\(a==sysModules)=false/\
  ∃d,KT H b d/\h.DictOfH (tupleKind (gG P w)) a d:=by
 obtain⟨z,y,d,r,o,v,A,u,s,n,k,j⟩:=(show cD P w H h a (.dT b)from Fz ok e);refine⟨z,y,d,r,o,v,A,u,s,n,k,fun x c=>?_,j⟩;have f:∀{l:List (List fW×V)} {m:List (List fW×Addr×Value)},KT H l m->∀x∈m,(tupleKind (gG P w)).is h x.1 x.2.1:=by
  intro l m q
  induction q with
  |nil=>intro x c;exact nomatch c
  |@cons p q D C g t i=>
   intro x c;rcases G4.mp c with e|c
   ·subst e;exact CY ok (by rw[<-g.1];exact g.2.1)
   ·exact i x c
 exact f r x c
theorem Qz{b:List (List fW×V)}(ok:pG P w H h)(e:H a=some (.dT b)):b.length<=sizeLine/\(a==sysModules)=false/\
  ∃c,KT H b c/\h.DictOfH (tupleKind (gG P w)) a c:=NO ok (.inl e)
def zK(H:Hp)(a:Addr)(y:V)(r:Option V):Prop:=
 (∃kvs k,Rd H a (.dK kvs)/\y=kV k/\r=sJ kvs k)\/∃kvs k b,Rd H a (.dT kvs)/\y=.ref b/\H b=some (.tup (k.map kV))/\r=sJ kvs k
def ZL(H:Hp)(a:Addr)(y v:V)(H':Hp):Prop:=
 (∃kvs k,H a=some (.dK kvs)/\y=kV k/\kvs.length<sizeLine/\H'=cL H a (.dK (qZ kvs k v)))\/
 ∃kvs k b,H a=some (.dT kvs)/\y=.ref b/\H b=some (.tup (k.map kV))/\kvs.length<sizeLine/\H'=cL H a (.dT (qZ kvs k v))
theorem zK.k{k:fW}(e:H a=some (.dK kvs)):zK H a (kV k) (sJ kvs k):=.inl ⟨kvs,k,.inl e,rfl,rfl⟩
variable{v:V}
theorem ZL.k{k:fW}(e:H a=some (.dK kvs))(b:kvs.length<sizeLine):ZL H a (kV k) v (cL H a (.dK (qZ kvs k v))):=.inl ⟨kvs,k,e,rfl,b,rfl⟩
variable{X:Cx}{U:List (Addr×Obj)}{Z:St}{s:Shared}{A:Around}{E Q:Value->Shared->Prop}{h':Heap}
section
variable{r:Value}{o:Option V}
theorem Inv.big(I:Inv X U Z H s):sysModules<s.heap.objs.size:=by have h:X3<s.heap.objs.size:=(I.mod.glob.keeps I.bk).lt;exact z7 (by decide) h
theorem RN(x:A.units+1<cLine)(I:Inv X U Z H s)(g:zK H a y (some v))(r:RelV y u)(h:∀f q,Inv X U Z H q->RelV v f->Q f q) :
  wpAny (model X.prog X.w) A (getItem (.ref a) u) Q E s:=by
 rcases g with⟨i,k,e,m,l⟩|⟨i,k,b,e,m,D,l⟩
 ·subst m;obtain⟨z,hd,w,d,n⟩:=NT I.hok e;obtain⟨f,hw,c⟩:=zA.some_of (v:=v) (o:=valueAt w k) (by rw[l];exact d.val k);exact wpAny_getItem_of (NI r) n.mapOf hw (h f _ (I.tok _) c)
 ·subst m;cases (show u=Value.ref b from r);obtain⟨z,hd,t,d,n⟩:=NO I.hok e;obtain⟨f,hw,c⟩:=zA.some_of (v:=v) (o:=(atKey t k).map (·.2)) (by rw[l];exact d.val k);obtain⟨p,C,j⟩:=Option.map_eq_some_iff.mp hw;refine wpAny_getItem_heap (N8 x) (CY I.hok D) n C ?_;rw[j];exact h f _ (I.tok _) c
theorem Ye(n:A.units+1<cLine)(I:Inv X U Z H s)(g:zK H a y o)(m:RelV y u)(h:∀j,Inv X U Z H j->Q (.bool o.isSome) j) :
  wpAny (model X.prog X.w) A (compareOp .In u (.ref a)) Q E s:=by
 rcases g with⟨d,k,e,f,l⟩|⟨d,k,b,e,f,p,l⟩
 ·subst f;obtain⟨z,hd,t,c,i⟩:=NT I.hok e;refine wpAny_in_of (NI m) hd i.mapOf ?_;rw[<-(c.val k).isSome_eq,<-l];exact h _ (I.tok _)
 ·subst f;cases (show u=Value.ref b from m);obtain⟨z,hd,r,c,i⟩:=NO I.hok e;refine wpAny_in_heap (N8 n) (CY I.hok p) hd i ?_;have q:=(c.val k).isSome_eq;rw[Option.isSome_map]at q;rw[<-q,<-l];exact h _ (I.tok _)
theorem EB{c:Nat}{ob:HO}(I:Inv X U Z H s)(d:Sr (H a))(f:Heap.SameBut a s.heap h')(he:∃q,h'.get? a=some q)(new:cD X.prog X.w (cL H a ob) h' a ob) :
  Inv X U Z (cL H a ob) {s with heap:=h',toks:=c}:=
 I.write (x:=a) (e:=a) d (.inl rfl) (fun b q g z=>(f.2 b g).trans z) he new
theorem Kf{b:List (fW×Value)}(z:kvs.length<=sizeLine)(hd:(a==sysModules)=false)(c:KV kvs b)(d:h'.DictOf (gG P w) a b) :
  cD P w H' h' a (.dK kvs):=⟨z,hd,b,c,d⟩
theorem RM{Q:Unit->Shared->Prop}(M:A.units+1<cLine)(I:Inv X U Z H s)(g:ZL H a y v H')(C:RelV y u)(D:RelV v r)(h:∀x,Inv X U Z H' x->Q () x) :
  wpAny (model X.prog X.w) A (setItem (.ref a) u r) Q E s:=by
 rcases g with⟨f,k,e,p,l,t⟩|⟨f,k,b,e,p,J,l,t⟩
 ·subst p t;obtain⟨z,hd,L,d,w⟩:=Rc I.hok e;have m:L.length<=sizeLine:=(by rw[<-d.length];exact z);have o:(qZ f k v).length<=sizeLine:=(by have:=vH f k v;lia);refine wpAny_setItem_pairs (hsz:=m) (NI C) w fun F i n=>h _ ?_;have he:∃q,F.get? a=some q:=let ⟨q,_,_,j,_⟩:=i;⟨q,j⟩;exact EB I (by rw[e];exact True.intro) n he (Kf o hd (d.put k D) i)
 ·subst p t;cases (show u=Value.ref b from C);obtain⟨z,hd,K,d,w⟩:=Qz I.hok e;have m:K.length<=sizeLine:=by rw[<-Paired.length d];exact z
  have o:(qZ f k v).length<=sizeLine:=(by have:=vH f k v;lia);refine wpAny_setItem_heap (hsz:=m) (N8 M) (CY I.hok J) w fun F i n=>h _ ?_;obtain⟨q,T,V,j,S,R,P,_,N⟩:=i;refine EB I (by rw[e];exact True.intro) n ⟨q,j⟩ ⟨o,hd,_,(d.put k J D).keeps fun c W G=>?_,q,T,V,j,S,R,P,N⟩;rw[aJ (Qa G e (fun z=>nomatch z))];exact G
end
section
variable{k:fW}
end
def YU(i:Expr):Prop:=∀ov iv,subscripted i false ov iv=operate [ov,iv] (getItem ov iv)
variable{prog:Program}{env:Env}{value:Expr}{pos:Pos}{id:String}
theorem MH{a:Expr}{T:String}(l:typeLookup (.type T) "__getitem__" = pure (some (.builtin id)))(k:YU a)(h:wpAny (model prog w) A (eval value env) (fun o f=>wpAny (model prog w) A (eval a env) (fun i c=>c.TypeIs o T/\wpAny (model prog w) A (getItem o i) Q E c) E f) E s) :
  wpAny (model prog w) A (eval (.Subscript value a pos) env) Q E s:=by
 refine Subscript_ (W0 h (fun o f j=>W0 j (fun i c d=>?_) fun _ _ x=>x) fun _ _ x=>x);obtain⟨hT,d⟩:=d;unfold subscriptTail;refine Z9 ?_;rw[getitemInPython_of_ne hT.not_modules];refine Z9 (Tb hT l ?_);have b:wpAny (model prog w) A (subscripted a false o i) (fun r e=>wpAny (model prog w) A (letTemporaryGo value o r >>= fun _=>pure r) Q E e) E c:=by rw[k o i];exact wpAny_operating (W0 d (fun r e g=>Z9 (wpAny_letTemporaryGo (Z7 g))) fun _ _ x=>x)
 first
  |exact Z7 (Z9 b)
  |exact Z9 (Z7 (Z9 b))
  |exact Z9 b
theorem HR{o:Option V}(I:Inv X U Z H s)(g:zK H a y o):s.TypeIs (.ref a) "dict" :=by
 rcases g with⟨c,k,e,_,_⟩|⟨c,k,b,e,_,_,_⟩
 ·obtain⟨_,_,h,_,d⟩:=NT I.hok e;exact d.typeIs
 ·obtain⟨_,_,f,_,d⟩:=NO I.hok e;exact d.typeIs
def Nx(td ty:TE):TE:=fun Z H Q=>td Z H fun x H1=>ty Z H1 fun y H2=>∃a v,x=.ref a/\zK H2 a y (some v)/\Q v H2
def Vp(ty td:TE):TE:=fun Z H Q=>ty Z H fun y H1=>td Z H1 fun x H2=>∃a o,x=.ref a/\zK H2 a y o/\Q (.bl o.isSome) H2
def Oo(td ty tv:TE):TS:=fun D Z H=>tv Z H fun v H1=>td Z H1 fun x H2=>ty Z H2 fun y H3=>∃a H4,x=.ref a/\ZL H3 a y v H4/\D.nx Z H4
variable{e:Expr}{pos' tpos:Pos}{tv:TE}
section
variable{o i:Expr}{td ty:TE}
theorem Bs(d:X.A.units+1<cLine)(f:PE X o td)(hi:PE X i ty)(e:YU i):PE X (.Subscript o i pos) (Nx td ty):=by intro U s Z H Q I h;refine MH PySem.F.slot_dict_getitem.lookup e (eL (f U s Z H _ I h) fun u c ⟨x,H1,I1,rx,q1⟩=>eL (hi U c Z H1 _ I1 q1) fun n m ⟨y,H2,I2,ry,a,v,ex,g,q2⟩=>?_);subst ex;obtain rfl:u=Value.ref a:=rx;exact⟨HR I2 g,RN d I2 g ry fun k l j b=>⟨v,H2,j,b,q2⟩⟩
theorem Ja(c:X.A.units+1<cLine)(hi:PE X i ty)(d:PE X o td):PC X .In i o (Vp ty td):=by intro U s Z H Q I h;refine eL (hi U s Z H _ I h) fun k b ⟨y,H1,I1,ry,q1⟩=>eL (d U b Z H1 _ I1 q1) fun u j ⟨x,H2,I2,rx,a,ov,ex,g,q2⟩=>?_;subst ex;obtain rfl:u=Value.ref a:=rx;exact Ye c I2 g ry fun f e=>⟨.bl ov.isSome,H2,e,rfl,q2⟩
theorem Bj(e:X.A.units+1<cLine)(j:PE X o td)(hi:PE X i ty)(d:PE X value tv)(f:swapsWith value (some (.Subscript o i pos')) pos.line X.env=pure false) :
  PS X (.Assign [.Subscript o i pos'] value pos) (Oo td ty tv):=by
 intro U s Z H D I h;refine wpAny_Assign_Subscript (eL (d U s Z H _ I h) fun r c ⟨v,H1,I1,rv,q1⟩=>eL (j U c Z H1 _ I1 q1) fun u b ⟨x,H2,I2,rx,q2⟩=>eL (hi U b Z H2 _ I2 q2) fun n m ⟨y,H3,I3,ry,a,H4,ex,g,q3⟩=>?_) f;subst ex;obtain rfl:u=Value.ref a:=rx;exact RM e I3 g ry rv fun l k=>⟨Z,H4,k,q3⟩
end
theorem XR(h:Heap)(a:sysModules<h.objs.size):cD P w H (h.push {cls:=.type "dict",data:=.dict #[]}) h.objs.size (.dK []):=
 ⟨Y3 _,beq_eq_false_iff_ne.mpr (Y8 (Y6 a)),[],.nil,Heap.DictOf.new h⟩
def Hs:TE:=fun _ H Q=>∀p,H p=none->Q (.ref p) (cL H p (.dK []))
theorem VF:PE X (.Dict [] [] pos) Hs:=fun U s Z H Q I h=>wpAny_Dict_empty ⟨.ref s.heap.objs.size,_,I.laid (a:=s.heap.objs.size) (o:=.dK []) (t':=s.toks) (fun _ _ q=>Z3 _ q) (Z5 _) (XR s.heap I.big),rfl,h _ (I.hok.fresh (Z5 _))⟩
end L2
namespace PF
open PySem PySem.Spec PySem.W L2
open PyProof.Rows hiding St InstAt
noncomputable def lA(k:fW):List fW->List D->Option D
 |k'::ks,d::l=>if k'=k then some d else lA k ks l
 |_,_=>none
noncomputable def putL(k:fW)(d:D):List fW->List D->List D
 |k'::ks,d'::l=>(if k'=k then d else d')::putL k d ks l|_,_=>[]
noncomputable def HK(k:fW)(ks:List fW):Bool:=ks.any fun k'=>decide (k'=k)
def xC(k:fW)(ks:List fW):List fW:=if HK k ks=true then ks else ks++[k]
def xA(k:fW)(d:D)(ks:List fW)(l:List D):List D:=if HK k ks=true then putL k d ks l else l++[d]
noncomputable def vS:D->Option fW
 |.int i=>some (.inl i)|.str x=>some (.inr x)|_=>none
variable{K:Z4}{H:Hp}{v:V}{kvs:List (fW×V)}
section
variable{F:Hp}
theorem KZ{d:D}{k:fW}(r:RV K F H d v)(e:vS d=some k):v=kV k:=by
 cases d<;>first|(simp[vS]at e;done)|skip
 ·have a:=Z2 e;subst a;exact r
 ·have a:=Z2 e;subst a;exact r
theorem uH{k:fW}:∀{kvs:List (fW×V)} {l:List D} {d:D},aX K F l (kvs.map (·.2))->lA k (kvs.map (·.1)) l=some d->∃v,sJ kvs k=some v/\jS K F d v
 |[],l,d,r,e=>by cases l<;>cases e
 |p::kvs,[],d,r,e=>by cases e
 |p::kvs,d'::l,d,r,e=>by
  obtain⟨v,t,h,q,r⟩:=r;rw[Y4]at h;injection h with h1 h2;subst h1 h2;rw[Y4,lA]at e;by_cases c:p.1=k
  ·rw[Z8 c]at e;have a:=Z2 e;subst a;exact⟨p.2,sI c,q⟩
  ·rw[Z6 c]at e;rw[pH c];exact uH r e
theorem AS{k:fW}:∀{kvs:List (fW×V)} {l:List D},aX K F l (kvs.map (·.2))->lA k (kvs.map (·.1)) l=none->sJ kvs k=none
 |[],l,r,e=>rfl|p::kvs,[],r,e=>by have h:_=[]:=r;simp at h
 |p::kvs,d'::l,r,e=>by
  obtain⟨v,t,h,q,r⟩:=r;rw[Y4]at h;injection h with h1 h2;subst h1 h2;rw[Y4,lA]at e;by_cases c:p.1=k
  ·rw[Z8 c]at e;cases e
  ·rw[Z6 c]at e;rw[pH c];exact AS r e
theorem MQ{k:fW}:(kvs.any fun a=>decide (a.1=k))=HK k (kvs.map (·.1)):=by unfold HK;rw[List.any_map];rfl
theorem UR{k:fW}:(qZ kvs k v).map (·.1)=xC k (kvs.map (·.1)):=by
 unfold qZ xC;rw[MQ];by_cases c:HK k (kvs.map (·.1))=true
 ·rw[Z8 c,Z8 c,V3];apply Q9;intro p _;show(if p.1=k then(p.1,v)else p).1=p.1;split<;>rfl
 ·rw[Z6 c,Z6 c];simp
theorem FZ{k:fW}{d:D}(q:jS K F d v):∀{kvs:List (fW×V)} {l:List D},aX K F l (kvs.map (·.2))->aX K F (putL k d (kvs.map (·.1)) l) ((kvs.map fun a=>if a.1=k then(a.1,v)else a).map (·.2))
 |[],l,r=>by cases l<;>rfl
 |p::kvs,[],r=>by have h:_=[]:=r;simp at h
 |p::kvs,d'::l,r=>by
  obtain⟨e,t,h,b,r⟩:=r;rw[Y4]at h;injection h with h1 h2;subst h1 h2;refine⟨(if p.1=k then(p.1,v)else p).2,_,rfl,?_,FZ q r⟩;by_cases c:p.1=k
  ·simp only[Z8 c];exact q
  ·simp only[Z6 c];exact b
theorem UP{k:fW}{d:D}{l:List D}(q:jS K F d v)(r:aX K F l (kvs.map (·.2))):aX K F (xA k d (kvs.map (·.1)) l) ((qZ kvs k v).map (·.2)):=by
 unfold qZ xA;rw[MQ];by_cases c:HK k (kvs.map (·.1))=true
 ·rw[Z8 c,Z8 c];exact FZ q r
 ·rw[Z6 c,Z6 c,N5];exact r.append (.one q)
end
variable{X:Cx}{B O:Hp}{Y:Addr->Hp->Prop}{e ix:Expr}{fa fb f:DS->M VR}{pos p2 pos':Pos}{x:Str}
section
variable{a b o i:Expr}
noncomputable def AL(dd y:D):Option D:=match dd with
 |.dic (.k ks) l=>(match vS y with
  |some k=>lA k ks l|none=>none)
 |_=>none
def Pd:R2:=fun x y H Q=>∃a v,x=.ref a/\zK H a y (some v)/\Q v H
theorem VV:zN X.K Pd AL:=fun F H o f d t s Q fh j i e q=>by
 cases o<;>first|(simp[AL]at e;done)|skip
 rename_i ks l;cases ks<;>first|(simp[AL]at e;done)|skip
 rename_i ks;obtain⟨a,p,rfl,⟨b,h,m,c⟩,r⟩:=j;subst m c;have e2:(match vS f with|some k=>lA k (b.map (·.1)) l|none=>none)=some d:=e;cases z:vS f with
 |none=>rw[z]at e2;cases e2
 |some k=>rw[z]at e2;have c:=KZ i z;subst c;obtain⟨v,n,g⟩:=uH r e2;exact⟨a,v,rfl,by rw[<-n];exact zK.k h,q v F H (bZ.refl fh) g⟩
theorem Dy(f:X.A.units+64<cLine)(e:DE X B O Y a fa)(d:DE X B O Y b fb)(c:YU b:=by intro _ _;rfl):DE X B O Y (.Subscript a b pos) (aF AL fa fb):=
 .mk fun U s Z H Q I h=>Bs (by lia) e.h d.h c U s Z H Q I (mI VV h)
noncomputable def RU(y dd:D):Option D:=match dd with
 |.dic (.k ks) l=>(match vS y with
  |some k=>some (.bl (lA k ks l).isSome)|none=>none)
 |_=>none
def Wp:R2:=fun y x H Q=>∃a o,x=.ref a/\zK H a y o/\Q (.bl o.isSome) H
theorem HA{F:Hp}{k:fW}{l:List D}(r:aX K F l (kvs.map (·.2))):(sJ kvs k).isSome=(lA k (kvs.map (·.1)) l).isSome:=by
 cases z:lA k (kvs.map (·.1)) l with
 |none=>rw[AS r z];rfl
 |some d=>obtain⟨v,e,_⟩:=uH r z;rw[e];rfl
theorem Eo:zN X.K Wp RU:=fun F H f n d s p Q fh i g e q=>by
 cases n<;>first|(simp[RU]at e;done)|skip
 rename_i ks l;cases ks<;>first|(simp[RU]at e;done)|skip
 rename_i ks;obtain⟨a,o,rfl,⟨b,h,j,c⟩,r⟩:=g;subst j c;have e2:(match vS f with|some k=>some (D.bl (lA k (b.map (·.1)) l).isSome)|none=>none)=some d:=e;cases z:vS f with
 |none=>rw[z]at e2;cases e2
 |some k=>rw[z]at e2;have c:=KZ i z;subst c;have m:=Z2 e2;subst m;refine⟨a,_,rfl,zK.k h,?_⟩;rw[HA r];exact q _ F H (bZ.refl fh) rfl
theorem Kb(f:X.A.units+64<cLine)(e:DE X B O Y a fa)(d:DE X B O Y b fb)(c:behindInMarks .In b=false:=by rfl):DT X B O Y (.Compare a [.In] [b] pos) (eW (aF RU fa fb)):=
 .mk fun U s Z H Q I h=>Ik (Ja (by lia) e.h d.h) c U s Z H Q I (mI Eo (pJ h))
noncomputable def Rr(i:Nat):DS->Option Fl:=fun S=>some (.next (S.set i (some (.owd (.k []) []))))
theorem Ke(i:Nat){a:Pos}(f:X.N.Nodup)(hi:X.N[i]? = some x:=by rfl)(d:Loc X.env.scope x:=by first|exact Or.inl rfl|exact Or.inr rfl)(e:swapsWith (.Dict [] [] a) (some (.Name x pos')) pos.line X.env=pure false:=by rfl)(hf:X.fn x=true\/X.env.scope.names.lookup x=some .local:=by first|exact .inl rfl|exact .inr rfl|assumption):zO X B O Y (.Assign [.Name x pos'] (.Dict [] [] a) pos) (Rr i):=.mk fun U s Z H g I q=>by refine rM f hi d VF e hf U s Z H g I ?_;obtain⟨F,S,b,o⟩:=q;intro p c;exact o _ F _ (b.setOwd (ks:=.k []) (vs:=[]) (kI b.ext.fh c) c (b.ext.fh.free c) ⟨[],aM,rfl,rfl⟩ aX.nil i)
noncomputable def OA(i:Nat)(g f:DS->M VR):DS->Option Fl:=fun S=>match S[i]? with
 |some (some (.owd (.k ks) l))=>eZ (f S) fun r=>match r with
  |.ok d=>eZ (g S) fun r2=>match vS (fS r2)with
   |some k=>if ks.length<big then some (.next (S.set i (some (.owd (.k (xC k ks)) (xA k d ks l)))))else none
   |none=>none
  |_=>none
 |_=>none
theorem Dt(i:Nat){p:Pos}{g:DS->M VR}(hu:X.A.units+64<cLine)(D:DE X B O Y ix g)(he:DE X B O Y e f)(hN:X.N[i]? = some x:=by rfl)(hv:SA X.env.scope x:=by first|exact Or.inl rfl|exact Or.inr (Or.inl rfl)|exact Or.inr (Or.inr rfl))(hd:(x==("__debug__" : Str))=false:=by decide)(E:(x==("__classdict__" : Str))=false:=by decide)(hs:swapsWith e (some (.Subscript (.Name x p) ix p2)) pos.line X.env=pure false:=by rfl) :
  zO X B O Y (.Assign [.Subscript (.Name x p) ix p2] e pos) (OA i g f):=.mk fun U s Z H N I q=>by
 refine Bj (by lia) (iU hN hv hd E) D.h he.h hs U s Z H N I ?_;obtain⟨F,S,w,o⟩:=q;unfold OA at o;cases z:S[i]? with
 |none=>rw[z]at o;exact False.elim o
 |some P=>
  cases P with
  |none=>rw[z]at o;exact False.elim o
  |some T=>
   cases T with
   |val d=>rw[z]at o;exact False.elim o|own l=>rw[z]at o;exact False.elim o
   |owd ks l=>
    cases ks with
    |t ks=>rw[z]at o;exact False.elim o|k ks=>
    rw[z]at o;refine⟨F,S,w,iH w o fun r v F1 H1 e1 q1 y=>?_⟩;cases r with
    |bor l=>exact False.elim y|bod ks l=>exact False.elim y
    |ok d=>
     have c:=w.step e1;obtain⟨a,R,J,h2,h3,h4,h5⟩:=c.owd i (.k ks) l z;refine⟨.ref a,J,F1,S,c,iH c y fun V v2 F2 H2 e2 W j=>?_⟩;have h:=c.step e2;have G:=RR.rv e2.fh W;generalize fS V=d2 at G j;cases u:vS d2 with
     |none=>rw[u]at j;exact False.elim j
     |some k=>
      rw[u]at j;have n:kZ X.K B O Y N (if ks.length<big then some (.next (S.set i (some (.owd (.k (xC k ks)) (xA k d ks l)))))else none):=j;have C:=KZ G u;subst C;by_cases A:ks.length<big
      ·rw[Z8 A]at n;obtain⟨L,Q,g1,g2,g3,⟨b,g4,K,g7⟩,g6⟩:=h.owd i (.k ks) l z;have ea:L=a:=(by rw[J]at g1;simpa using g1.symm);subst ea;have hl:b.length<sizeLine:=by
        have:b.length=ks.length:=(by rw[<-K,Y9]);rw[this];exact X8 A (jD (Z5 _))
       refine⟨L,_,rfl,ZL.k g4 hl,?_⟩;subst K g7;exact n Z F2 _ (h.mutd (m:=.dK (qZ b k v)) z g1 ⟨_,aM,UR,rfl⟩ (UP (jS.mono e2.ff q1) g6))
      ·rw[Z6 A]at n;exact False.elim n
noncomputable def dX:List D->Option (List Int)
 |[]=>some []|.int i::l=>(dX l).map (i::·)|_::_=>none
theorem lR:∀{l:List D} {ns:List Int},dX l=some ns->l=ns.map D.int
 |[],ns,e=>by have a:=Z2 e;subst a;rfl
 |.int i::l,ns,e=>by
  have e2:(dX l).map (i::·)=some ns:=e;cases z:dX l with
  |none=>rw[z]at e2;cases e2
  |some b=>rw[z]at e2;have a:=Z2 e2;subst a;rw[lR z];rfl
 |.non::_,_,e=>by cases e
 |.str _::_,_,e=>by cases e
 |.bl _::_,_,e=>by cases e
 |.tup _::_,_,e=>by cases e
 |.lst _::_,_,e=>by cases e
 |.scr _::_,_,e=>by cases e
 |.dic _ _::_,_,e=>by cases e
end
def iG(n k:Nat):Nat:=if n=0 then 0 else(n-1) / k+1
noncomputable def pickS{α:Type}(xs:List α)(k:Nat):List α:=(List.range (iG xs.length k)).filterMap fun i=>xs[i*k]?
variable{vs:List V}
theorem aX.pick{F:Hp}{l:List D}(r:aX K F l vs):∀a:List Nat,aX K F (a.filterMap fun i=>l[i]?) (a.filterMap fun i=>vs[i]?)
 |[]=>rfl
 |i::a=>by
  rw[V5,V5];cases z:l[i]? with
  |none=>have b:l.length<=i:=List.getElem?_eq_none_iff.mp z;rw[O1 (by rw[<-r.length];exact b)];exact aX.pick r a
  |some d=>obtain⟨v,e,q⟩:=r.get z;rw[e];exact .cons q (aX.pick r a)
variable{xs:List V}{us:List Value}
theorem bD.pick(r:bD xs us):∀a:List Nat,bD (a.filterMap fun i=>xs[i]?) (a.filterMap fun i=>us[i]?)
 |[]=>.nil
 |i::a=>by
  rw[V5,V5];cases z:xs[i]? with
  |none=>rw[r.none_of z];exact bD.pick r a
  |some d=>obtain⟨v,e,q⟩:=r.get z;rw[e];exact .cons q (bD.pick r a)
variable{α:Type}
theorem sS(a:List α)(k:Nat):pickS a k=((List.range (iG a.length k)).map (·*k)).filterMap fun i=>a[i]?:=by unfold pickS;rw[List.filterMap_map];rfl
theorem aX.pickS{F:Hp}{l:List D}(r:aX K F l vs)(k:Nat):aX K F (PF.pickS l k) (PF.pickS vs k):=by rw[sS,sS,r.length];exact r.pick _
theorem bD.pickS(r:bD xs us)(k:Nat):bD (PF.pickS xs k) (PF.pickS us k):=by rw[sS,sS,r.length];exact bD.pick r _
variable{n:Nat}
theorem PU{k:Nat}(a:1<=k):iG n k<=n:=by
 unfold iG;split
 ·lia
 ·have:=Nat.div_le_self (n-1) k;lia
theorem AJ(a:List α){k:Nat}(b:1<=k):(pickS a k).length<=a.length:=by unfold pickS;refine W2 (E2 _ _) ?_;rw[U7];exact PU b
variable{prog:Program}{w:World}{A:Around}{E:Value->Shared->Prop}{s:Shared}{sl:Addr}
theorem sN{t:Tok}{k:Int}{Q:Int×Int×Nat->Shared->Prop}(g:1<=k)(d:s.heap.IsSliceOf sl .none .none (.int k t))(h:Q (0,k,iG n k.toNat) s) :
  wpAny (model prog w) A (Builtin.Slice.sliceApplied (.ref sl) (pure (n:Int))) Q E s:=by
 obtain⟨os,a,f,b⟩:=id d;unfold Builtin.Slice.sliceApplied Builtin.Slice.sliceFields;refine Z9 (Z9 (X0 a b (x:=.none) rfl (Z9 (X0 a b (x:=.none) rfl (Z9 (X0 a b (x:=.int k t) rfl (Z7 ?_)))))));refine Z9 (slicePart_int ?_);show wpAny _ _ (if(k==0)=true then _ else _) _ _ s;rw[Z6 (by simp;lia)];refine Z9 (E8 (Z9 (E8 (Z9 (Z7 ?_)))));show wpAny _ _ (pure ((Builtin.Slice.sliceAdjust none none k (n:Int)).1,k,Builtin.Slice.slicePlaces (Builtin.Slice.sliceAdjust none none k (n:Int)).1 (Builtin.Slice.sliceAdjust none none k (n:Int)).2 k)) _ _ s;have e1:Builtin.Slice.sliceAdjust none none k (n:Int)=(0,(n:Int)):=(by unfold Builtin.Slice.sliceAdjust;simp only[show ¬(k<0) by lia,Y5]);have e:Builtin.Slice.slicePlaces 0 (n:Int) k=iG n k.toNat:=by
  unfold Builtin.Slice.slicePlaces iG;rw[Z8 (by lia:k>0)];obtain⟨m,rfl⟩:∃m:Nat,k=m:=⟨k.toNat,by lia⟩;by_cases c:n=0
  ·subst c;simp
  ·rw[Z8 (by lia),Z6 c];have:((n:Int)-0-1) / (m:Int)=(((n-1) / m:Nat):Int):=by
    rw[Int.natCast_ediv];congr 1;lia
   rw[this,T4];exact T4 _
 rw[e1];simp only;rw[e];exact Z7 h
section
variable{a b:Expr}
noncomputable def oB:D->D->Option D
 |.tup l,.int k=>if 2<=k/\k<=1000 then some (.tup (pickS l k.toNat))else none
 |_,_=>none
def Ou(K:Z4):R2:=fun x y H Q=>∃b xs k,x=.ref b/\y=.int k/\2<=k/\cA K H b xs/\∀p,H p=none->Q (.ref p) (cL H p (.tup (pickS xs k.toNat)))
theorem QB:zN X.K (Ou X.K) oB:=fun F H m j d o n Q fh g f e q=>by
 cases m<;>first|(simp[oB]at e;done)|skip
 cases j<;>first|(simp[oB]at e;done)|skip
 rename_i l k;have e2:(if 2<=k/\k<=1000 then some (D.tup (pickS l k.toNat))else none)=some d:=e;split at e2
 ·rename_i h;have i:=Z2 e2;subst i;obtain⟨x,b,rfl,ht,c⟩:=g;exact⟨x,b,k,rfl,f,h.1,cA.same fh ht,fun p a=>q _ _ _ (eN fh a) ⟨p,_,rfl,cA.of aM,(c.pickS k.toNat).mono (bG (fh.free a))⟩⟩
 ·cases e2
theorem Dw(w:DE X B O Y a fa)(u:DE X B O Y b fb):DE X B O Y (.Subscript a (.Slice none none (some b) p2) pos) (aF oB fa fb):=.mk fun U s Z H Q I q=>by
 refine PyProof.Rows.Subscript_ (eL (w.h U s Z H _ I (mI QB q)) fun v p ⟨x,H1,I1,r1,q1⟩=>?_);refine wpAny_Slice ?_;rw[evalPart_none,evalPart_some];refine Z7 (Z7 ?_);refine eL (u.h U p Z H1 _ I1 q1) fun l c ⟨y,H2,I2,r2,b',xs,k,ex,ey,hk,hx,q2⟩=>?_;subst ex ey;cases r1;obtain⟨t,rfl⟩:=r2;have e:Inv X U Z H2 {c with heap:=c.heap.push {cls:=.type "slice",data:=.fields #[.none,.none,.int k t]}}:=I2.kept (t':=c.toks) fun b ob q=>Z3 _ q;obtain⟨d,r,ht,f⟩:=e.tuple hx;show wpAny (model X.prog X.w) X.A (subscriptTail a (.Slice none none (some b) p2) (.ref b') (.ref c.heap.objs.size)) (EP X U Z Q) X.xe {c with heap:=c.heap.push {cls:=.type "slice",data:=.fields #[.none,.none,.int k t]}};have g:({c with heap:=c.heap.push {cls:=.type "slice",data:=.fields #[.none,.none,.int k t]}}:Shared).heap.IsSliceOf c.heap.objs.size .none .none (.int k t):=Heap.IsSliceOf.new ..;have i:((List.range (iG d.length k.toNat)).filterMap fun(j:Nat)=>d.toArray[((0:Int)+(j:Int)*k).toNat]?)=pickS d k.toNat:=by unfold pickS;apply HN;intro j _;have:((0:Int)+(j:Int)*k).toNat=j*k.toNat:=(by obtain⟨m,rfl⟩:∃m:Nat,k=m:=⟨k.toNat,by lia⟩;rw[Int.zero_add,<-Int.natCast_mul,T4,T4]);rw[this];simp
 refine tail_any (ops:=[.ref b',.ref c.heap.objs.size]) ht.typeIs L3.lookup ?_ (by with_unfolding_all rfl);refine mY (lo:=0) (step:=k) (n:=iG d.length k.toNat) ht g (fun C z A h=>?_) ?_ (fun h=>?_) (fun _=>?_)
 ·rw[Y7];exact sN (by lia) g h
 ·rw[i];refine W2 (AJ d (by lia)) ?_;rw[<-r.length];exact f
 ·rw[X6,X6]at h;have:=h.1.2;simp at this;lia
 ·rw[i];refine⟨.ref _,_,e.laid (t':=c.toks) (o:=.tup (pickS xs k.toNat)) (fun b ob q=>Z3 _ q) (Z5 _) ?_,rfl,q2 _ e.fresh⟩;exact⟨W2 (AJ xs (by lia)) f,_,bD.pickS r k.toNat,jH.new _ _⟩
end
noncomputable def gB(ns:List Nat)(i:Nat):Bool:=decide (i<ns.length)&&(List.range ns.length).all fun j=>decide (ns.getD j 0<=ns.getD i 0)&&(!decide (j<i) || decide (ns.getD j 0<ns.getD i 0))
variable{i:Nat}
theorem zX{ns:List Nat}{k:Nat}(h:gB ns i=true)(d:k<ns.length)(e:∀j,j<ns.length->(ns.getD k 0:Int)≥(ns.getD j 0:Nat)/\(j<k->(ns.getD k 0:Int)>(ns.getD j 0:Nat))):k=i:=by
 unfold gB at h;rw[X6]at h;have hi:i<ns.length:=of_decide_eq_true h.1;have a:=A9.mp h.2;rcases Nat.lt_trichotomy k i with c|c|c
 ·have b:=a k (by simpa using d);simp[c]at b;have f:=(e i hi).1;simp at f;lia
 ·exact c
 ·have b:=(e i hi).2 c;have f:=a i (by simpa using hi);have g:=a k (by simpa using d);simp at b g;lia
noncomputable def sX:List D->Option (List Nat)
 |[]=>some []|.tup l::r=>(sX r).map (l.length::·)|_::_=>none
noncomputable def lU:D->Option D
 |.lst l=>(match sX l with
  |some ns=>(match (List.range ns.length).find? (gB ns)with
   |some i=>l[i]?|none=>none)
  |none=>none)
 |_=>none
variable{U:List (Addr×Obj)}{Z:St}{h':Heap}{u:Value}
section
theorem XA{m:Str->Option Value}{l:Nat}(I:Inv X U Z H s)(t:s.heap.Ns X.env.locals m)(F:Fr {} X.env.locals h' m)(N:News {} X.env.locals h' (qW {} s.heap X.env.locals)):Inv X U Z H {s with heap:=h',toks:=l}:=by
 have keep:∀b o,b≠X.env.locals->s.heap.get? b=some o->h'.get? b=some o:=fun b o g e=>(N (b,o) (pO g rfl e)).1;refine I.step (g':=s.gens) (d':=s.drawn) (ch:=[]) (fun b c=>absurd c (by simp)) (fun b o k _ _ e _=>keep b o k e) (fun b o k _ _ e _=>⟨o.slots,keep b o k e⟩) (fun b o _ _ r=>r) (fun b o _ e=>?_) (fun _ _ q=>q) (fun _ _ _ q=>q) (fun b A q=>⟨#[],by simpa using q⟩) (fun p i=>?_) ?_ I.bare
 ·by_cases g:b=X.env.locals
  ·obtain⟨n,_,_,h,_⟩:=F.ns;exact⟨n,by rw[g];exact h⟩
  ·exact⟨o,keep b o g e⟩
 ·have z:p=m:=by
   obtain⟨o,E,G,h,hd,D,hf⟩:=t;obtain⟨C,w,x,d,f,v,j⟩:=i;rw[h]at d;have:=Z2 d;subst this;rw[hd]at f;injection f with z1 z2;subst z1;exact funext fun y=>(j y).symm.trans (hf y)
  rw[z];exact F.ns
 ·intro a o e;refine(I.hok a o e).stay (fun b u c q=>keep b u ?_ q) (fun _ q=>q) fun _ _ q=>q;rintro rfl;rcases c with rfl|c
  ·rw[I.free]at e;cases e
  ·rw[I.free]at c;cases c
theorem HB{F:Hp}:∀{l:List D} {ns:List Nat} {vs:List V},sX l=some ns->aX K F l vs->ns.length=vs.length/\∀i v,vs[i]? = some v->∃a xs,v=.ref a/\cA K F a xs/\xs.length=ns.getD i 0
 |[],ns,vs,e,r=>by have f:=Z2 e;have j:vs=[]:=r;subst f j;exact⟨rfl,fun i v h=>by simp at h⟩
 |.tup l::r,ns,vs,e,h=>by
  obtain⟨v,t,rfl,q,h⟩:=h;have e2:(sX r).map (l.length::·)=some ns:=e;cases z:sX r with
  |none=>rw[z]at e2;cases e2
  |some n=>
   rw[z]at e2;have f:=Z2 e2;subst f;obtain⟨m,k⟩:=HB z h;refine⟨by simp[m],fun i u g=>?_⟩;cases i with
   |zero=>have:v=u:=(by simpa using g);subst this;obtain⟨a,xs,d,c,b⟩:=q;exact⟨a,xs,d,c,by rw[<-b.length];rfl⟩
   |succ i=>obtain⟨a,xs,d,c,b⟩:=k i u (by simpa using g);exact⟨a,xs,d,c,by simpa using b⟩
 |.non::_,_,_,e,_=>by cases e
 |.int _::_,_,_,e,_=>by cases e
 |.bl _::_,_,_,e,_=>by cases e
 |.str _::_,_,_,e,_=>by cases e
 |.lst _::_,_,_,e,_=>by cases e
 |.scr _::_,_,_,e,_=>by cases e
 |.dic _ _::_,_,_,e,_=>by cases e
def wA(K:Z4):V->Hp->VK->Prop:=fun x H Q=>∃p vs ns i v,x=.ref p/\H p=some (.lst vs)/\ns.length=vs.length/\(∀i v,vs[i]? = some v->∃a xs,v=.ref a/\cA K H a xs/\xs.length=ns.getD i 0)/\gB ns i=true/\vs[i]? = some v/\Q v H
theorem Cp{x:V}{Q:VK}(hc:X.calm=true)(I:Inv X U Z H s)(W:RelV x u)(h:wA X.K x H Q) :
  wpAny (model X.prog X.w) X.A (call (.builtin "max") [u] [(Str.ofString "key",.builtin "len")]) (EP X U Z Q) X.xe s:=by
 obtain⟨p,vs,ns,i,v,rfl,l,E,t,hf,hv,q⟩:=h;cases W;obtain⟨z,g,n,r,c,e⟩:=I.lstM l;obtain⟨m,D,_⟩:=id I.loc;have C:p≠X.env.locals:=(by rintro rfl;rw[I.free]at l;cases l);have hi:i<ns.length:=(by unfold gB at hf;rw[X6]at hf;exact of_decide_eq_true hf.1);have tup:∀{j:Nat} {w:Value},g[j]? = some w->∃a y,w=.ref a/\a≠X.env.locals/\IsTup s.heap a y/\y.size=ns.getD j 0/\y.size<=sizeLine:=(by intro j w hw;have A:j<vs.length:=(by rw[c];exact(List.getElem?_eq_some_iff.mp hw).1);obtain⟨a,xs,e1,e2,e3⟩:=t j vs[j] (Y1 A);obtain⟨S,d,f⟩:=r.get (Y1 A);rw[hw]at d;have:=Z2 d;subst this;rw[e1]at f;cases f;obtain⟨M,K,J,R⟩:=I.tuple e2;refine⟨a,_,rfl,?_,J,by rw[Y7,<-K.length];exact e3,by rw[Y7,<-K.length];exact R⟩;rintro rfl;obtain⟨o,es,ep,ho,hd,_⟩:=D;obtain⟨o2,g1,g2,n2,g3⟩:=J;rw[ho]at g1;have:=Z2 g1;subst this;rw[hd]at g3;cases g3);refine kmb_max (h₀:={}) (L:=X.env.locals) (m:=m) (news:=qW {} s.heap X.env.locals) (vs:=g) (kf:=fun j=>((ns.getD j 0:Nat):Int)) (I.ok.hd hc) ⟨D,fun b o q=>absurd (q.symm.trans (show({}:Heap).get? b=none from rfl)) (by simp),Y3 _⟩ WC (fun h F N=>?_) (by rw[<-c,<-E];lia) (fun j w hw h tk own F N=>?_) (fun j w h' T hw hb F N=>?_)
 ·have:=(N (p,_) (pO C rfl e)).1;exact⟨_,this,rfl,n,rfl⟩
 ·obtain⟨a,y,rfl,na,ht,hs,hz⟩:=tup hw;obtain⟨o,g1,g2,n2,g3⟩:=ht;have k:=(N (a,o) (S0 _ (pO na rfl g1))).1;have P:=oH;refine len_tuple (s:={s with heap:=h,toks:=tk}) ⟨o,k,g2,n2,g3⟩ (by lia) ?_;have:=KskEnd.intro (k:=((ns.getD j 0:Nat):Int)) (s₁:={s with heap:=h,toks:=tk}) (t':=tk+1) (tk:=tk+1+1) F N (fun p l=>l);rw[hs];exact this
 ·have A:j<g.length:=(List.getElem?_eq_some_iff.mp hw).1;have G:j<ns.length:=(by rw[E,c];exact A);have ej:=zX hf G (fun k hk=>hb k (by rw[<-c,<-E];exact hk));subst ej;obtain⟨S,d,f⟩:=r.get hv;rw[hw]at d;have:=Z2 d;subst this;exact⟨v,H,XA I D F N,f,q⟩
theorem JH:SU X.K (wA X.K) lU:=fun F H x d y Q fh k e q=>by
 cases x<;>first|(simp[lU]at e;done)|skip
 rename_i l;have e2:(match sX l with
  |some ns=>(match (List.range ns.length).find? (gB ns)with
   |some i=>l[i]?|none=>none)
  |none=>none)=some d:=e
 obtain⟨a,g,rfl,ht,c⟩:=k;cases z:sX l with
 |none=>rw[z]at e2;cases e2
 |some ns=>
  rw[z]at e2;simp only at e2;cases w:(List.range ns.length).find? (gB ns)with
  |none=>rw[w]at e2;cases e2
  |some i=>rw[w]at e2;simp only at e2;obtain⟨v,t,h⟩:=c.get e2;obtain⟨s,r⟩:=HB z c;exact⟨a,g,ns,i,v,rfl,ht,s,fun j u p=>by obtain⟨b,f,o,n,m⟩:=r j u p;exact⟨b,f,o,cA.same fh n,m⟩,J1 w,t,q v F H (bZ.refl fh) h⟩
variable{a:Expr}{p kp:Pos}
theorem RL(h:Gl X "max")(n:X.mg "max" = none)(c:Gl X "len")(g:X.mg "len" = none)(o:DE X B O Y a fa)(hc:X.calm=true:=by rfl)
  (he:starEach [a] X.env=(false,eval a X.env)::starEach [] X.env:=by rfl)
  (i:backTo pos (starEach [a] X.env)=(false,eval a X.env)::backTo pos (starEach [] X.env):=by rfl)
  (b:(backTo pos (starEach [a] X.env)).any (·.1)=false:=by rfl) :
  DE X B O Y (.Call (.Name "max" p) [a] [⟨some "key",.Name "len" p2,kp⟩] pos) (cY lU fa):=.mk fun U s Z H Q I q=>by
 refine M5 (jX I h n (by decide +kernel:bootBuiltins "max" = some (.builtin "max")) ?_ (by decide) (by decide));refine zr ?_ i b rfl rfl;have un:SU X.K (fun x H Q=>∃y,[x]=[y]/\wA X.K y H Q) lU:=fun F H t d j Q fh f e q=>⟨j,rfl,JH F H t d j Q fh f e q⟩;have r:=(cH o.h eM he:PA X [a] _) pos U s Z H (fun l k=>∃y,l=[y]/\wA X.K y k Q) I (wW un q);refine eL r fun v w ⟨vs,k,I1,f,y,ey,q1⟩=>?_;subst ey;obtain⟨u,rfl,m⟩:=vals1 f;refine zd (jX I1 c g (by decide +kernel:bootBuiltins "len" = some (.builtin "len")) ?_ (by decide) (by decide));exact yz (Cp hc I1 m q1)
end
end PF
namespace PF
open PySem L2
variable{α β:Type}{f fa fb fc:DS->M VR}
section
variable{S:DS}{g h:DS->M VR}
@[simp] theorem Qd(a:α)(k:α->M β):mb (some (.ok a)) k=k a:=rfl
@[simp] theorem Tw(k:α->M β):mb none k=none:=rfl
@[simp] theorem Ww(c:Addr)(k:α->M β):mb (some (.error c)) k=some (.error c):=rfl
@[simp] theorem Kn(i:Nat):aC i S=match S[i]? with
 |some (some (.val d))=>some (.ok (.ok d))|some (some (.own l))=>some (.ok (.bor l))|some (some (.owd ks l))=>some (.ok (.bod ks l))|_=>none:=rfl
@[simp] theorem Yo(d:D):dC d S=some (.ok (.ok d)):=rfl
@[simp] theorem Rv(f:DS->M (List D)):mP f S=mb (f S) fun l=>some (.ok (.ok (.lst l))):=rfl
@[simp] theorem ZS(d:D):vr (some d)=some (.ok (.ok d)):=rfl
@[simp] theorem Sx:vr none=none:=rfl
@[simp] theorem Hl(d:D):fS (.ok d)=d:=rfl
@[simp] theorem Tn(ks:DK)(l:List D):fS (.bod ks l)=.dic ks l:=rfl
@[simp] theorem Tj(l:List D):fS (.bor l)=.lst l:=rfl
@[simp] theorem Kq(k:D->D->Option D):aF k fa fb S=mb (fa S) fun b=>mb (fb S) fun a=>vr (k (fS b) (fS a)):=rfl
@[simp] theorem Rn(k:D->Option D):cY k fa S=mb (fa S) fun a=>vr (k (fS a)):=rfl
@[simp] theorem Rb:eW f S=mb (f S) fun r=>match r with
 |.ok (.bl b)=>some (.ok b)|_=>none:=rfl
@[simp] theorem Ry(k b:D->D->Option D):yS k b fa fb fc S=mb (fa S) fun d=>mb (fb S) fun a=>match k (fS d) (fS a)with
 |some (.bl true)=>mb (fc S) fun c=>vr (b (fS a) (fS c))
 |some (.bl false)=>some (.ok (.ok (.bl false)))|_=>none:=rfl
@[simp] theorem Ko(t:DS->M Bool):pZ t S=mb (t S) fun b=>some (.ok (!b)):=rfl
@[simp] theorem Ui:YD f S=mb (f S) fun r=>match r with
 |.ok (.bl b)=>some (.ok (.ok (.bl (!b))))|_=>none:=rfl
@[simp] theorem Yp(t u:DS->M Bool):EF t u S=mb (t S) fun b=>if b=true then u S else some (.ok false):=rfl
@[simp] theorem Ru(t u:DS->M Bool):LN t u S=mb (t S) fun b=>if b=true then some (.ok true)else u S:=rfl
@[simp] theorem Ur:qC f g S=mb (f S) fun r=>match r with
 |.ok (.bl true)=>g S|.ok (.bl false)=>some (.ok (.ok (.bl false)))|_=>none:=rfl
@[simp] theorem Yl:Eb f g S=mb (f S) fun r=>match r with
 |.ok (.bl true)=>some (.ok (.ok (.bl true)))|.ok (.bl false)=>g S|_=>none:=rfl
@[simp] theorem Ym:aL S=some (.ok []):=rfl
@[simp] theorem Um(a:DS->M (List VR)):aD f a S=mb (f S) fun r=>mb (a S) fun b=>some (.ok (r::b)):=rfl
@[simp] theorem Mo:datas []=some []:=rfl
@[simp] theorem Rm(d:D)(r:List VR):datas (.ok d::r)=(datas r).map (d::·):=rfl
@[simp] theorem Yg(a:DS->M (List VR)):dS a S=mb (a S) fun c=>match datas c with
 |some b=>if b.length<=100000 then some (.ok (.ok (.tup b)))else none
 |none=>none:=rfl
@[simp] theorem Yn(a:DS->M (List VR)):qA a S=mb (a S) fun c=>match datas c with
 |some b=>if b.length<=100000 then some (.ok b)else none
 |none=>none:=rfl
@[simp] theorem Qh(d:D):mW (.ok d)=false:=rfl
@[simp] theorem Mn(ks:DK)(l:List D):mW (.bod ks l)=true:=rfl
@[simp] theorem Mm(l:List D):mW (.bor l)=true:=rfl
@[simp] theorem Uo(n:Nat)(m:List D->M D)(b:DS->M (List VR)):aR n m b S=mb (b S) fun a=>if a.length=n then mb (m (a.map fS)) fun d=>if a.any mW=true/\dU d=false then none else some (.ok (.ok d))else none:=rfl
@[simp] theorem Ed:dP S=some (.next S):=rfl
@[simp] theorem yP(p q:DS->Option Fl):aU p q S=match p S with
 |some (.next S')=>q S'|x=>x:=rfl
@[simp] theorem Jl(k:VR->Option Fl):eZ none k=none:=rfl
@[simp] theorem Mj(c:Addr)(k:VR->Option Fl):eZ (some (.error c)) k=some (.ex c):=rfl
@[simp] theorem Qf(r:VR)(k:VR->Option Fl):eZ (some (.ok r)) k=k r:=rfl
@[simp] theorem YA(i:Nat):bN i f S=eZ (f S) fun r=>match r with
 |.ok d=>some (.next (S.set i (some (.val d))))|_=>none:=rfl
@[simp] theorem Yk(i:Nat)(f:DS->M (List D)):yQ i f S=match f S with
 |none=>none|some (.error c)=>some (.ex c)|some (.ok l)=>some (.next (S.set i (some (.own l)))):=rfl
@[simp] theorem Rx(c:DS->M Bool)(p q:DS->Option Fl):qB c p q S=match c S with
 |none=>none|some (.error c)=>some (.ex c)|some (.ok b)=>if b=true then p S else q S:=rfl
@[simp] theorem Yi:cB f S=eZ (f S) fun r=>some (.ret (fS r)):=rfl
@[simp] theorem Mt(i:Nat):wJ i f S=match S[i]? with
 |some (some (.own l))=>eZ (f S) fun r=>match r with
  |.ok d=>if l.length<100000 then some (.next (S.set i (some (.own (l++[d])))))else none
  |_=>none
 |_=>none:=rfl
@[simp] theorem Rp(i:Nat):mO i g f S=match S[i]? with
 |some (some (.own l))=>eZ (f S) fun r=>match r with
  |.ok d=>eZ (g S) fun a=>match a with
   |.ok (.int k)=>match FE l.length k with
    |some j=>some (.next (S.set i (some (.own (l.set j d)))))|none=>none
   |_=>none
  |_=>none
 |_=>none:=rfl
@[simp] theorem To(i:Nat)(d:D):aQ i d S=some (S.set i (some (.val d))):=rfl
@[simp] theorem Wf:gL [] S=some S:=rfl
@[simp] theorem Tp(s:D->DS->Option DS)(r:List D->DS->Option DS)(d:D)(a:List D):bE s r (d::a) S=match s d S with
  |none=>none|some b=>r a b:=rfl
@[simp] theorem We(n:Nat)(s:List D->DS->Option DS)(l:List D):gK n s (.tup l) S=if l.length=n then s l S else none:=rfl
@[simp] theorem QQ(l:List D):items (.ok (.tup l))=some l:=rfl
@[simp] theorem Ml(l:List D):items (.ok (.lst l))=some l:=rfl
@[simp] theorem Mk(l:List Int):items (.ok (.scr l))=some (l.map .int):=rfl
@[simp] theorem Ee:iQ f S=mb (f S) fun r=>match items r with
 |some l=>some (.ok l)|none=>none:=rfl
@[simp] theorem Mq(a:DS->M (List VR)):jK a S=mb (a S) fun b=>match b with
 |[.ok (.int j)]=>if zM j=true then some (.ok (bY 0 j))else none
 |_=>none:=rfl
@[simp] theorem Mp(a:DS->M (List VR)):kL a S=mb (a S) fun b=>match b with
 |[.ok (.int i),.ok (.int j)]=>if zM i=true/\zM j=true then some (.ok (bY i j))else none
 |_=>none:=rfl
@[simp] theorem Zq(j:Int):zM j=true↔-1000000000<=j/\j<=1000000000:=by simp[zM]
@[simp] theorem yR(k:DS->M (List D))(set:D->DS->Option DS)(p:DS->Option Fl):lJ k set p S=match k S with
 |none=>none|some (.error c)=>some (.ex c)|some (.ok ds)=>eR set p ds S:=rfl
@[simp] theorem TX(n:Nat)(a:D):bF n [a]=some (.val a)::List.replicate (n-1) none:=rfl
@[simp] theorem fY(n:Nat)(a b:D):bF n [a,b]=some (.val a)::some (.val b)::List.replicate (n-2) none:=rfl
@[simp] theorem FO(n:Nat)(a b c:D):bF n [a,b,c]=some (.val a)::some (.val b)::some (.val c)::List.replicate (n-3) none:=rfl
@[simp] theorem Oc(n:Nat)(a b c d:D):bF n [a,b,c,d]=some (.val a)::some (.val b)::some (.val c)::some (.val d)::List.replicate (n-4) none:=rfl
@[simp] theorem Ob(n:Nat)(a b c d e:D):bF n [a,b,c,d,e]=some (.val a)::some (.val b)::some (.val c)::some (.val d)::some (.val e)::List.replicate (n-5) none:=rfl
@[simp] theorem Oq:List.replicate 0 (none:Option Slot)=[]:=rfl
@[simp] theorem Zp:List.replicate 1 (none:Option Slot)=[none]:=rfl
@[simp] theorem Zo:List.replicate 2 (none:Option Slot)=[none,none]:=rfl
@[simp] theorem MM:List.replicate 3 (none:Option Slot)=[none,none,none]:=rfl
@[simp] theorem Zn:List.replicate 4 (none:Option Slot)=[none,none,none,none]:=rfl
@[simp] theorem Zm:List.replicate 5 (none:Option Slot)=[none,none,none,none,none]:=rfl
@[simp] theorem Zl:List.replicate 6 (none:Option Slot)=[none,none,none,none,none,none]:=rfl
@[simp] theorem Zk:List.replicate 7 (none:Option Slot)=[none,none,none,none,none,none,none]:=rfl
@[simp] theorem Zj:List.replicate 8 (none:Option Slot)=[none,none,none,none,none,none,none,none]:=rfl
@[simp] theorem Zi:List.replicate 9 (none:Option Slot)=[none,none,none,none,none,none,none,none,none]:=rfl
@[simp] theorem Wi:List.replicate 10 (none:Option Slot)=[none,none,none,none,none,none,none,none,none,none]:=rfl
@[simp] theorem Wh:List.replicate 11 (none:Option Slot)=[none,none,none,none,none,none,none,none,none,none,none]:=rfl
@[simp] theorem Wg:List.replicate 12 (none:Option Slot)=[none,none,none,none,none,none,none,none,none,none,none,none]:=rfl
@[simp] theorem Qs(S:DS):fin (some (.next S))=some (.ok .non):=rfl
@[simp] theorem Ua(d:D):fin (some (.ret d))=some (.ok d):=rfl
@[simp] theorem Wv(d:D):kQ (some (.ok d))=some (.ok d):=rfl
@[simp] theorem Rz(b:Nat)(a:List Nat):AA b a S=List.replicate b none++a.map fun j=>(S[j]?).join:=rfl
@[simp] theorem Ef(b:Nat)(a:List Nat)(c:DS->M (List D))(set:D->DS->Option DS)(t:DS->M Bool):gE b a c set t f S=mb (c S) fun d=>if d.length<=100000 then(match iP set t f d (AA b a S)with
 |some l=>some (.ok l)|none=>none)else none:=rfl
@[simp] theorem Wr(k:Int->Int->Int)(i j:Int):iV k (.int i) (.int j)=some (.int (k i j)):=rfl
@[simp] theorem Wt(c:Int->Int->Bool)(k:Int->Int->Int)(i j:Int):eO c k (.int i) (.int j)=if c i j=true then some (.int (k i j))else none:=rfl
@[simp] theorem Ts(i j:Int):dF i j=true↔0<j:=by simp[dF]
@[simp] theorem Tu(i j:Int):rD i j=true↔0<j/\j<1073741824:=by simp[rD]
@[simp] theorem Mh(i j:Int):cK (.int i) (.int j)=some (.int (i+j)):=rfl
@[simp] theorem Mf(i j:Str):cK (.str i) (.str j)=if i.length+j.length<=100000 then some (.str (i++j))else none:=rfl
@[simp] theorem Me(l a:List D):cK (.tup l) (.tup a)=if l.length+a.length<=100000 then some (.tup (l++a))else none:=rfl
@[simp] theorem Mg(l a:List D):cK (.lst l) (.lst a)=if l.length+a.length<=100000 then some (.lst (l++a))else none:=rfl
@[simp] theorem Mc(i j:Int):bU (.int i) (.int j)=if dR i j=true then some (.int (i*j))else none:=rfl
@[simp] theorem Ma(l:List D)(k:Int):bU (.tup l) (.int k)=if lZ l.length k=true then some (.tup (List.replicate k.toNat l).flatten)else none:=rfl
@[simp] theorem Mb(l:List D)(k:Int):bU (.lst l) (.int k)=if lZ l.length k=true then some (.lst (List.replicate k.toNat l).flatten)else none:=rfl
theorem fH{i j:Int}(b:-18446744073709551616<i)(a:i<18446744073709551616):dR i j=true:=by simp[dR,b,a]
theorem CL{i j:Int}(b:-18446744073709551616<j)(a:j<18446744073709551616):dR i j=true:=by simp[dR,b,a]
@[simp] theorem Vd(i:Int):mH (.int i)=some (.int (-i)):=rfl
@[simp] theorem TC(l:List D):cZ (.tup l)=some (.int l.length):=rfl
@[simp] theorem Nf(l:List D):cZ (.lst l)=some (.int l.length):=rfl
@[simp] theorem Nd(l:List Int):cZ (.scr l)=some (.int l.length):=rfl
@[simp] theorem Nc(x:Str):cZ (.str x)=if x.length<=100000 then some (.int x.length)else none:=rfl
@[simp] theorem Nj(i:Int):BU (.int i)=some (.int i):=rfl
@[simp] theorem Sy(b:Bool):BU (.bl b)=some (.int (if b then 1 else 0)):=rfl
@[simp] theorem Nb(l:List D):qY (.tup l)=some (.tup l):=rfl
@[simp] theorem FH(l:List D):qY (.lst l)=some (.tup l):=rfl
noncomputable def Sg:D->M (List D)
 |.tup l=>some (.ok l)|.lst l=>some (.ok l)|.scr l=>some (.ok (l.map .int))|_=>none
@[simp] theorem Rw:uW f S=mb (f S) fun r=>Sg (fS r):=rfl
@[simp] theorem Uu(l:List D):Sg (.tup l)=some (.ok l):=rfl
@[simp] theorem Uw(l:List D):Sg (.lst l)=some (.ok l):=rfl
@[simp] theorem Uv(l:List Int):Sg (.scr l)=some (.ok (l.map .int)):=rfl
@[simp] theorem ZX(T:String)(d:D):oY T d=some (.bl (gP (wQ d) T)):=rfl
@[simp] theorem Xs:gP "bool" "bool" = true:=by decide
@[simp] theorem Xr:gP "bool" "int" = true:=by decide
@[simp] theorem Xq:gP "bool" "tuple" = false:=by decide
@[simp] theorem Xm:gP "int" "bool" = false:=by decide
@[simp] theorem Xl:gP "int" "int" = true:=by decide
@[simp] theorem Xk:gP "int" "tuple" = false:=by decide
@[simp] theorem Wz:gP "tuple" "bool" = false:=by decide
@[simp] theorem Wy:gP "tuple" "int" = false:=by decide
@[simp] theorem WX:gP "tuple" "tuple" = true:=by decide
@[simp] theorem Xj:gP "list" "bool" = false:=by decide
@[simp] theorem Xi:gP "list" "int" = false:=by decide
@[simp] theorem Xh:gP "list" "tuple" = false:=by decide
@[simp] theorem Xd:gP "str" "bool" = false:=by decide
@[simp] theorem Xc:gP "str" "int" = false:=by decide
@[simp] theorem Xa:gP "str" "tuple" = false:=by decide
@[simp] theorem Xb:gP "str" "str" = true:=by decide
@[simp] theorem Xg:gP "NoneType" "bool" = false:=by decide
@[simp] theorem Xf:gP "NoneType" "int" = false:=by decide
@[simp] theorem Xe:gP "NoneType" "tuple" = false:=by decide
@[simp] theorem Td:wQ .non = "NoneType" :=rfl
@[simp] theorem Vg(b:Bool):wQ (.bl b) = "bool" :=rfl
@[simp] theorem Tg(i:Int):wQ (.int i) = "int" :=rfl
@[simp] theorem Sz(x:Str):wQ (.str x) = "str" :=rfl
@[simp] theorem ZZ(l:List D):wQ (.tup l) = "tuple" :=rfl
@[simp] theorem Te(l:List D):wQ (.lst l) = "list" :=rfl
@[simp] theorem Th(ks:DK)(l:List D):wQ (.dic ks l) = "dict" :=rfl
@[simp] theorem Xp:gP "dict" "bool" = false:=by decide
@[simp] theorem Xo:gP "dict" "int" = false:=by decide
@[simp] theorem Xn:gP "dict" "tuple" = false:=by decide
@[simp] theorem Tc(l:List Int):wQ (.scr l) = "list" :=rfl
@[simp] theorem Zx(i j:Int):Mu (.int i) (.int j)=some (.bl (decide (i<j))):=rfl
@[simp] theorem Zy(i j:Int):Kv (.int i) (.int j)=some (.bl (decide (i<=j))):=rfl
@[simp] theorem Sb(i j:Int):JE (.int i) (.int j)=some (.bl (decide (i>j))):=rfl
@[simp] theorem Zz(i j:Int):Yr (.int i) (.int j)=some (.bl (decide (i≥j))):=rfl
@[simp] theorem Ut(i j:Int):lO (.int i) (.int j)=some (.bl (decide (i=j))):=rfl
@[simp] theorem Us(i j:Int):rH (.int i) (.int j)=some (.bl (!(decide (i=j)))):=rfl
@[simp] theorem Ys(i j:Bool):lO (.bl i) (.bl j)=some (.bl (i==j)):=rfl
@[simp] theorem Yq(i j:Bool):rH (.bl i) (.bl j)=some (.bl (!(i==j))):=rfl
@[simp] theorem Pt(l:List D)(i:Int):bM (.tup l) (.int i)=atI l i:=rfl
@[simp] theorem Pw(l:List D)(i:Int):bM (.lst l) (.int i)=atI l i:=rfl
@[simp] theorem Pu(l:List Int)(i:Int):bM (.scr l) (.int i)=(atI l i).map .int:=rfl
@[simp] theorem Uq(k:D->D->Option D):BC k fa fb S=mb (fa S) fun b=>mb (fb S) fun a=>match k (fS b) (fS a)with
 |some (.lst l)=>some (.ok l)|_=>none:=rfl
@[simp] theorem Mr:wI S=some (.ok none):=rfl
@[simp] theorem Ue:NX f S=mb (f S) fun r=>match r with
 |.ok (.int i)=>some (.ok (some i))|_=>none:=rfl
@[simp] theorem Rq(a fh:DS->M (Option Int)):ED f a fh S=mb (f S) fun r=>mb (a S) fun lo=>mb (fh S) fun hi=>vr (wZ (fS r) lo hi):=rfl
@[simp] theorem Ht(l:List D)(lo hi:Option Int):wZ (.tup l) lo hi=some (.tup (cutD l lo hi)):=rfl
@[simp] theorem Hu(l:List D)(lo hi:Option Int):wZ (.lst l) lo hi=some (.lst (cutD l lo hi)):=rfl
@[simp] theorem Jh(l:List D):dU (.tup l)=iI l:=by rw[dU]
@[simp] theorem Jk(i:Int):dU (.int i)=true:=by rw[dU]
@[simp] theorem Mi(b:Bool):dU (.bl b)=true:=by rw[dU]
@[simp] theorem Jj:dU .non=true:=by rw[dU]
@[simp] theorem Ji(x:Str):dU (.str x)=true:=by rw[dU]
@[simp] theorem Gs:iI []=true:=by rw[iI]
@[simp] theorem Ci(d:D)(l:List D):iI (d::l)=(dU d&&iI l):=by rw[iI]
@[simp] theorem Cg(l:List Int):iI (l.map D.int)=true:=by induction l with
 |nil=>simp|cons a l b=>simp[b]
end
theorem fE{l:List α}{i:Int}(a:0<=i):atI l i=l[i.toNat]?:=by
 unfold atI FE;rw[Z8 a];by_cases h:i<(l.length:Int)
 ·rw[Z8 h];rfl
 ·rw[Z6 h,O1 (by lia)];rfl
theorem Ep{l:List α}{i:Int}(a:i<0)(h:-(l.length:Int)<=i):atI l i=l[(i+l.length).toNat]?:=by unfold atI FE;rw[Z6 (by lia),Z8 h];rfl
theorem IP(l:List α):atI l (-1)=l.getLast?:=by
 cases l with
 |nil=>rfl
 |cons a r=>rw[Ep (by lia) (by simp;lia),Rt];congr 1;simp;lia
variable{fe:DS->M VR}{γ:Type}
theorem qQ{set:D->DS->Option DS}{t:DS->M Bool}(f:γ->D)(k:γ->D)(st:Option Slot->DS)(l:List γ)(o:Option Slot)(d:∀a o,a∈l->set (f a) (st o)=some (st (some (.val (f a)))))(c:∀a,a∈l->t (st (some (.val (f a))))=some (.ok true))(b:∀a,a∈l->fe (st (some (.val (f a))))=some (.ok (.ok (k a)))) :
  iP set t fe (l.map f) (st o)=some (l.map k):=by
 induction l generalizing o with
 |nil=>rfl
 |cons a l e=>rw[Y4,iP,d a o (by simp)];simp only;rw[c a (by simp)];simp only;rw[b a (by simp)];simp only;rw[e _ (fun a o h=>d a o (by simp[h])) (fun a h=>c a (by simp[h])) (fun a h=>b a (by simp[h]))];rfl
theorem iO{set:D->DS->Option DS}{t:DS->M Bool}(f:γ->D)(k:γ->D)(p:γ->Bool)(st:Option Slot->DS)(l:List γ)(o:Option Slot)(e:∀a o,a∈l->set (f a) (st o)=some (st (some (.val (f a)))))(d:∀a,a∈l->t (st (some (.val (f a))))=some (.ok (p a)))(c:∀a,a∈l->fe (st (some (.val (f a))))=some (.ok (.ok (k a)))) :
  iP set t fe (l.map f) (st o)=some ((l.filter p).map k):=by
 induction l generalizing o with
 |nil=>rfl
 |cons a l g=>
  rw[Y4,iP,e a o (by simp)];simp only;rw[d a (by simp)];have b:=g (some (.val (f a))) (fun a o h=>e a o (by simp[h])) (fun a h=>d a (by simp[h])) (fun a h=>c a (by simp[h]));cases q:p a with
  |true=>simp only;rw[c a (by simp)];simp only;rw[b,List.filter_cons_of_pos q];rfl
  |false=>simp only;rw[b,List.filter_cons_of_neg (by simp[q])]
end PF
namespace PF
open PySem PySem.Spec L2
open PyProof.Rows hiding St
abbrev PK:=Int×List Int
variable{prog:Program}{w:World}{A:Around}{E:Value->Shared->Prop}{s:Shared}{a b:Addr}{h:Heap}{n:Nat}
def gJ(prog:Program)(w:World)(h:Heap)(k:PK)(a:Addr):Prop:=∃o t b m,h.get? a=some o/\o.cls=.type "tuple" /\o.data=.seq #[.int k.1 t,.ref b] m/\IsTupleKey (intKind prog w) h k.2 b
theorem gJ.typeIs{k:PK}(x:gJ prog w s.heap k a):s.TypeIs (.ref a) "tuple" :=let ⟨o,_,_,_,b,hc,_⟩:=x;⟨o,b,hc⟩
theorem gJ.inj{x y:PK}(j:gJ prog w h x a)(i:gJ prog w h y a):x=y:=by obtain⟨o,t,b,m,k,_,hd,hi⟩:=j;obtain⟨g,l,p,n,d,_,c,e⟩:=i;obtain rfl:o=g:=Z2 (k.symm.trans d);rw[hd]at c;injection c with h1 _;have f:=V8 Array.toList h1;simp only[List.cons.injEq,Value.int.injEq,Value.ref.injEq,and_true]at f;obtain⟨⟨e1,_⟩,rfl⟩:=f;exact L5 e1 (hi.inj e)
noncomputable def gM(prog:Program)(w:World)(k:PK):Int:=reduceHash (Builtin.Tuple.tupleHashOf [(intKind prog w).hash k.1,tupleKeyHash (intKind prog w) k.2])
theorem Bm{k:PK}{Q:Int->Shared->Prop}(i:A.units+8<cLine)(f:gJ prog w s.heap k a)(h:∀tk,s.toks<=tk->Q (gM prog w k) {s with toks:=tk}) :
  wpAny (model prog w) A (pyHash (.ref a)) Q E s:=by
 have hT:=f.typeIs;obtain⟨o,t,b,m,g,_,hd,hi⟩:=f;unfold pyHash
 first|unfold pyHashByItsType|skip
 first|refine Z9 (wpAny_cRoomFor_or (.inr (by lia)) ?_)|skip
 refine Z9 (Tb hT F.slot_tuple_hash.lookup ?_);show wpAny _ _ (if(some (Value.builtin "tuple.__hash__")==some Value.none)=true then _ else _) Q E s;rw[Z6 (by rw[beq_builtin_none];exact W6)];refine Z9 (Tb hT F.slot_tuple_hash.lookup ?_);show wpAny _ _ (callSpecialIfBoundUnlessNone? (.ref a) "__hash__" _ >>= _) Q E s;refine Z9 (wpAny_callSpecialIfBoundUnlessNone?_slot hT F.slot_tuple_hash (W1 F.slot_tuple_hash hT F.entry_tuple_hash ?_ (F.args_tuple_hash_1 _)));show wpAny _ _ (Builtin.Tuple.tupleItemsOf (.ref a) >>= _) _ _ s;refine Z9 (M6 g hd ?_);refine Z9 ?_;rw[<-Q8];rw[T1];refine Z9 (Z9 ((intKind prog w).pyHash (P6 _ _ _ _) ?_));refine Z7 ?_;dsimp only;rw[T1];refine Z9 (Z9 (wpAny_pyHash_tuple (knd:=intKind prog w) (by show A.in1.units<cLine;simp;lia) hi ?_));refine Z7 ?_;dsimp only;rw[N2];refine Z7 ?_;show wpAny _ _ (retInt (Builtin.Tuple.tupleHashOf [(intKind prog w).hash k.1,tupleKeyHash (intKind prog w) k.2])) _ _ _;refine wpAny_ret_mkInt ?_;show wpAny _ _ (if(decide (-(2:Int) ^ 63<=Builtin.Tuple.tupleHashOf [(intKind prog w).hash k.1,tupleKeyHash (intKind prog w) k.2])&&decide (Builtin.Tuple.tupleHashOf [(intKind prog w).hash k.1,tupleKeyHash (intKind prog w) k.2]<2 ^ 63))=true then _ else _) Q E _;have c:=fun tk e=>h tk e;unfold gM reduceHash at c;by_cases d:(decide (-(2:Int) ^ 63<=Builtin.Tuple.tupleHashOf [(intKind prog w).hash k.1,tupleKeyHash (intKind prog w) k.2])&&decide (Builtin.Tuple.tupleHashOf [(intKind prog w).hash k.1,tupleKeyHash (intKind prog w) k.2]<2 ^ 63))=true
 ·rw[Z8 d];simp only[Z8 d]at c;exact Z7 (c _ (by show s.toks<=s.toks+1+_+1;lia))
 ·rw[Z6 d];simp only[Z6 d]at c;exact Z9 (T8 (Z7 (c _ (by show s.toks<=s.toks+1+_+1;lia))))
theorem KA{x y:PK}{P:Fin->Shared->Prop}(t:A.units+8<cLine)(p:gJ prog w s.heap x a)(k:gJ prog w s.heap y b)(h:P (.done (.ret (.bool (decide (x=y))))) s) :
  wpAny (model prog w) A (Builtin.«tuple.__eq__» ⟨[.ref a,.ref b],[]⟩) P E s:=by
 have j:=k.typeIs;obtain⟨q,m,o,na,d,_,i,f⟩:=p;obtain⟨ob,l,n,r,c,_,g,e⟩:=k;show wpAny _ _ (isInstance (.ref b) (.type "tuple") >>= _) _ _ s;refine Z9 (T3 j K4 ?_);simp only[V6,Y2,Y5];refine Z9 (M6 d i ?_);refine Z9 (M6 c g ?_);refine Z9 ?_;show wpAny _ _ (forIn [(Value.int x.1 m,Value.int y.1 l),(Value.ref o,Value.ref n)] _ _) _ _ _;rw[T1];refine Z9 ?_;dsimp only;refine Z9 ((intKind prog w).eqBool (a:=x.1) (b:=y.1) (P6 _ _ _ _) (P6 _ _ _ _) ?_);by_cases e1:x.1=y.1
 ·rw[decide_eq_true e1];simp only[V6,Y2,Y5];refine Z7 ?_;dsimp only;rw[T1];refine Z9 (Z9 (wpAny_eqBool_tuple (knd:=intKind prog w) (by lia) f e ?_));by_cases e2:x.2=y.2
  ·rw[decide_eq_true e2];simp only[V6,Y2,Y5];refine Z7 ?_;dsimp only;rw[N2];refine Z7 (Z7 ?_);rw[decide_eq_true (L5 e1 e2)]at h;exact h
  ·rw[decide_eq_false e2];rw[decide_eq_false (fun z=>e2 (by rw[z]))]at h;simp only[G9,V0];exact Z9 (Z7 (Z7 (Z7 (Z7 h))))
 ·rw[decide_eq_false e1];rw[decide_eq_false (fun z=>e1 (by rw[z]))]at h;simp only[G9,V0];exact Z9 (Z7 (Z7 (Z7 (Z7 h))))
theorem Gi{x y:PK}{Q:Bool->Shared->Prop}(g:A.units+9<cLine)(d:gJ prog w s.heap x a)(f:gJ prog w s.heap y b)(h:Q (decide (x=y)) s) :
  wpAny (model prog w) A (eqBool (.ref a) (.ref b)) Q E s:=by
 unfold eqBool
 try with_reducible refine X1 ?_
 show wpAny _ _ (if(Value.ref a==Value.ref b)=true then _ else _) Q E s;by_cases c:(Value.ref a==Value.ref b)=true
 ·rw[Z8 c];have e:a=b:=(by have:=eq_of_beq c;injection this);subst e;obtain rfl:=d.inj f;exact Z9 (T8 (Z7 (by simpa using h)))
 ·rw[Z6 c];exact Z9 (E4 (op:=.Eq) d.typeIs f.typeIs F.slot_tuple_eq
   (W1 F.slot_tuple_eq d.typeIs F.entry_tuple_eq (KA (by simp;lia) d f ⟨_,rfl,(fun e=>nomatch e),Q4 h⟩) (F.args_tuple_eq_2 _ _)) (by lia))
theorem FW{ks:List Int}{Q:Bool->Shared->Prop}(g:IsTupleKey (intKind prog w) s.heap ks a)(h:Q true s):wpAny (model prog w) A (eqIsQuiet (n+1) (.ref a)) Q E s:=by
 have hT:=g.typeIs;obtain⟨o,c,m,i,_,hd,hi⟩:=g;unfold eqIsQuiet;refine Z9 (Tb hT F.slot_tuple_eq.lookup ?_);show wpAny _ _ (isInstance (.ref a) (.type "tuple") >>= _) _ _ s;refine Z9 (T3 hT K4 ?_);simp only[V6,Y2,Y5];refine Z9 (R3 i hd ?_);refine Z9 ?_;show wpAny _ _ (forIn c _ _) _ _ s;rw[<-Q8];refine N4 _ (fun b r d=>r.1=none/\d=s/\∀v∈b,carriedByValue v=true) _ ?_ ?_ _ _ ⟨rfl,rfl,hi.byValue⟩
 ·rintro v b r d ⟨f,rfl,hall⟩;rw[eqIsQuiet_byValue _ (hall v X7)];refine Z9 (Z7 ?_);simp only[V6,Y2,Y5];exact Z7 ⟨rfl,rfl,fun u e=>hall u (X5 _ e)⟩
 ·rintro⟨k,j⟩ d ⟨f,rfl,_⟩;simp only at f;subst f;exact Z7 h
theorem GH{k:PK}{Q:Bool->Shared->Prop}(c:gJ prog w s.heap k a)(h:Q true s):wpAny (model prog w) A (eqIsQuiet 8 (.ref a)) Q E s:=by have hT:=c.typeIs;obtain⟨o,t,b,m,d,_,hd,hi⟩:=c;unfold eqIsQuiet;refine Z9 (Tb hT F.slot_tuple_eq.lookup ?_);show wpAny _ _ (isInstance (.ref a) (.type "tuple") >>= _) _ _ s;refine Z9 (T3 hT K4 ?_);simp only[V6,Y2,Y5];refine Z9 (R3 d hd ?_);refine Z9 ?_;show wpAny _ _ (forIn #[Value.int k.1 t,Value.ref b] _ _) _ _ s;rw[<-Q8];rw[T1,eqIsQuiet_byValue _ (show carriedByValue (Value.int k.1 t)=true from rfl)];refine Z9 (Z9 (Z7 ?_));simp only[V6,Y2,Y5];refine Z7 ?_;dsimp only;rw[T1];refine Z9 (Z9 (FW hi ?_));simp only[V6,Y2,Y5];refine Z7 ?_;dsimp only;rw[N2];exact Z7 (Z7 h)
theorem xW{ks:List Int}{a:List Value}(h:PySem.ItemsAre (intKind prog w) ks a):∀v∈a,∃i t,v=Value.int i t:=by
 induction h with
 |nil=>intro v d;cases d
 |@cons k v ks a e _ c=>
  intro u b;rcases G4.mp b with rfl|b
  ·obtain⟨t,rfl⟩:=J8 e;exact⟨k,t,rfl⟩
  ·exact c u b
theorem RW{ks:List Int}{Q:Bool->Shared->Prop}(g:IsTupleKey (intKind prog w) s.heap ks a)(h:Q true s):wpAny (model prog w) A (hashByValue (n+1) (.ref a)) Q E s:=by
 have hT:=g.typeIs;obtain⟨o,c,m,j,_,hd,hi⟩:=g;unfold hashByValue;refine Z9 (Tb hT F.slot_tuple_hash.lookup ?_);show wpAny _ _ (seqItems? (.ref a) >>= _) _ _ s;refine Z9 (R3 j hd ?_);refine Z9 ?_;show wpAny _ _ (forIn c _ _) _ _ s;rw[<-Q8];refine N4 _ (fun b r d=>r.1=none/\d=s/\∀v∈b,∃i t,v=.int i t) _ ?_ ?_ _ _ ⟨rfl,rfl,xW hi⟩
 ·rintro v b r d ⟨f,rfl,hall⟩;obtain⟨i,t,rfl⟩:=hall v X7;rw[show hashByValue n (.int i t)=pure true by cases n<;>rfl];refine Z9 (Z7 ?_);simp only[V6,Y2,Y5];exact Z7 ⟨rfl,rfl,fun u e=>hall u (X5 _ e)⟩
 ·rintro⟨l,k⟩ d ⟨f,rfl,_⟩;simp only at f;subst f;exact Z7 h
theorem Kw{k:PK}{Q:Bool->Shared->Prop}(c:gJ prog w s.heap k a)(h:Q true s):wpAny (model prog w) A (hashByValue 8 (.ref a)) Q E s:=by have hT:=c.typeIs;obtain⟨o,t,b,m,d,_,hd,hi⟩:=c;unfold hashByValue;refine Z9 (Tb hT F.slot_tuple_hash.lookup ?_);show wpAny _ _ (seqItems? (.ref a) >>= _) _ _ s;refine Z9 (R3 d hd ?_);refine Z9 ?_;show wpAny _ _ (forIn #[Value.int k.1 t,Value.ref b] _ _) _ _ s;rw[<-Q8,T1,show hashByValue 7 (.int k.1 t)=pure true from rfl];refine Z9 (Z9 (Z7 ?_));simp only[V6,Y2,Y5];refine Z7 ?_;dsimp only;rw[T1];refine Z9 (Z9 (RW hi ?_));simp only[V6,Y2,Y5];refine Z7 ?_;dsimp only;rw[N2];exact Z7 (Z7 h)
theorem RO{ks:List Int}{Q:Bool->Shared->Prop}(g:IsTupleKey (intKind prog w) s.heap ks a)(h:Q false s):wpAny (model prog w) A (ofAClassStatement (n+1) (.ref a)) Q E s:=by
 have hT:=g.typeIs;obtain⟨o,c,m,j,_,hd,hi⟩:=g;unfold ofAClassStatement;refine Z9 (S6 hT ?_);dsimp only;refine Z9 (Z7 ?_);simp only[V6,Y2,Y5];refine Z9 (R3 j hd ?_);refine Z9 ?_;show wpAny _ _ (forIn c _ _) _ _ s;rw[<-Q8];refine N4 _ (fun b r d=>r.1=none/\d=s/\∀v∈b,∃i t,v=.int i t) _ ?_ ?_ _ _ ⟨rfl,rfl,xW hi⟩
 ·rintro v b r d ⟨f,rfl,hall⟩;obtain⟨i,t,rfl⟩:=hall v X7;rw[show ofAClassStatement n (.int i t)=pure false by cases n<;>rfl];refine Z9 (Z7 ?_);simp only[Y2,Y5];exact Z7 ⟨rfl,rfl,fun u e=>hall u (X5 _ e)⟩
 ·rintro⟨l,k⟩ d ⟨f,rfl,_⟩;simp only at f;subst f;exact Z7 h
theorem YJ{k:PK}{Q:Bool->Shared->Prop}(c:gJ prog w s.heap k a)(h:Q false s):wpAny (model prog w) A (ofAClassStatement 8 (.ref a)) Q E s:=by have hT:=c.typeIs;obtain⟨o,t,b,m,d,_,hd,hi⟩:=c;unfold ofAClassStatement;refine Z9 (S6 hT ?_);dsimp only;refine Z9 (Z7 ?_);simp only[V6,Y2,Y5];refine Z9 (R3 d hd ?_);refine Z9 ?_;show wpAny _ _ (forIn #[Value.int k.1 t,Value.ref b] _ _) _ _ s;rw[<-Q8,T1,show ofAClassStatement 7 (.int k.1 t)=pure false from rfl];refine Z9 (Z9 (Z7 ?_));simp only[Y2,Y5];refine Z7 ?_;dsimp only;rw[T1];refine Z9 (Z9 (RO hi ?_));simp only[Y2,Y5];refine Z7 ?_;dsimp only;rw[N2];exact Z7 (Z7 h)
end PF
namespace PF
open PySem SetTable
theorem AM:∀{l m:List Nat},l.Nodup->(∀x∈l,x∈m)->l.length<=m.length
 |[],_,_,_=>Y3 _
 |a::l,m,hn,hs=>by have b:=List.nodup_cons.mp hn;have h:=AM (m:=m.erase a) b.2 fun x d=>(by have c:x≠a:=fun e=>b.1 (e▸d);exact(List.mem_erase_of_ne c).mpr (hs x (X5 _ d)));have f:=hs a X7;rw[List.length_erase_of_mem f]at h;have:=List.length_pos_of_mem f;rw[Q3];lia
variable{t:SetTable}
theorem rL(hd:t.dummies=#[])(j:Nat):(∃i,t.slot j=.live i/\t.place[i]? = some j)\/t.slot j=.empty:=by
 unfold SetTable.slot;dsimp only;by_cases h:(t.place[below t.place j]?==some j)=true
 ·rw[Z8 h];exact .inl ⟨_,rfl,by simpa using h⟩
 ·rw[Z6 h,hd];exact .inr (by rw[Z6];simp[has,below])
theorem OR(hd:t.dummies=#[])(c:t.place.size<=t.mask):∃j,j<=t.mask/\t.slot j=.empty:=by
 refine Classical.byContradiction fun b=>?_;have h:=AM (l:=List.range (t.mask+1)) (m:=t.place.toList) B3 fun j a=>by
  rcases rL hd j with⟨i,_,e⟩|e
  ·rw[<-T5]at e;exact M7 e
  ·exact absurd ⟨j,by have:=List.mem_range.mp a;lia,e⟩ b
 rw[U7,X2]at h;lia
def JF(t:SetTable):Nat->Probe->Probe
 |0,p=>p|n+1,p=>JF t n (t.advance p)
theorem OF(t:SetTable):∀(n m:Nat) (p:Probe),JF t (n+m) p=JF t m (JF t n p)
 |0,m,p=>by rw[S7];rfl
 |n+1,m,p=>by rw[Nat.add_right_comm];exact OF t n m _
theorem RY(t:SetTable)(p:Probe):(t.advance p).dummy=p.dummy:=by unfold advance;split<;>rfl
theorem GD(hd:t.dummies=#[])(c:Nat->Int)(h:Int):∀(d:Nat) (p:Probe),p.dummy=none->t.slot (JF t d p).j=.empty->∀f,d<f->
  (∃j,probe.go t c h f p=some (.empty j none)/\t.slot j=.empty)\/
  ∃j i k next,k<d/\probe.go t c h f p=some (.candidate j i next)/\t.slot j=.live i/\next.dummy=none/\t.slot (JF t k next).j=.empty
 |d,p,hp,he,0,hf=>absurd hf (J7 _)
 |d,p,hp,he,f+1,hf=>by
  unfold probe.go;rcases rL hd p.j with⟨i,e,_⟩|e
  ·rw[e];dsimp only;cases d with
   |zero=>rw[show JF t 0 p=p from rfl,e]at he;cases he
   |succ d=>
    have g:(t.advance p).dummy=none:=(RY t p).trans hp;by_cases hh:(c i==h)=true
    ·rw[Z8 hh];exact .inr ⟨_,_,d,_,M4 _,rfl,e,g,he⟩
    ·rw[Z6 hh];rcases GD hd c h d _ g he f (by lia)with⟨j,a,b⟩|⟨j,m,k,nx,l,a,b⟩
     ·exact .inl ⟨j,a,b⟩
     ·exact .inr ⟨j,m,k,nx,by lia,a,b⟩
  ·rw[e];dsimp only;rw[hp];exact .inl ⟨_,rfl,e⟩
def Up(xs:Array Nat):Prop:=∀(i k:Nat) (u v:Nat),i<k->xs[i]? = some u->xs[k]? = some v->u<v
variable{j:Nat}
theorem yX{a:Array Nat}(c:Up a):∀(f lo hi:Nat),hi-lo<=f->lo<=hi->hi<=a.size->(∀i v,i<lo->a[i]? = some v->v<j)->(∀i v,hi<=i->a[i]? = some v->j<=v)->
  below.go a j f lo hi<=a.size/\(∀i v,i<below.go a j f lo hi->a[i]? = some v->v<j)/\∀i v,below.go a j f lo hi<=i->a[i]? = some v->j<=v
 |0,lo,hi,h1,h2,h3,h4,h5=>by have e:lo=hi:=(by lia);subst e;exact⟨h3,h4,h5⟩
 |f+1,lo,hi,h1,h2,h3,h4,h5=>by
  unfold below.go;by_cases k:lo<hi
  ·rw[Z8 k];dsimp only;have h:(lo+hi) / 2<a.size:=(by lia);have d:a[(lo+hi) / 2]? = some a[(lo+hi) / 2]:=V7 h;have l:a.getD ((lo+hi) / 2) j=a[(lo+hi) / 2]:=(by simp[Array.getD,h]);rw[l];by_cases b:a[(lo+hi) / 2]<j
   ·rw[Z8 b];refine yX c f _ _ (by lia) (by lia) h3 (fun i v g e=>?_) h5;by_cases z:i=(lo+hi) / 2
    ·subst z;rw[d]at e;cases e;exact b
    ·exact z7 (c i _ v _ (by lia) e d) b
   ·rw[Z6 b];refine yX c f _ _ (by lia) (by lia) (by lia) h4 fun i v g e=>?_;by_cases z:i=(lo+hi) / 2
    ·subst z;rw[d]at e;cases e;lia
    ·have:=c _ i _ v (by lia) d e;lia
  ·rw[Z6 k];have e:lo=hi:=(by lia);subst e;exact⟨h3,h4,h5⟩
theorem rZ{a:Array Nat}(b:Up a)(j:Nat):below a j<=a.size/\(∀i v,i<below a j->a[i]? = some v->v<j)/\∀i v,below a j<=i->a[i]? = some v->j<=v:=
 yX b a.size 0 a.size (by lia) (by lia) (Z5 _) (fun i v h _=>absurd h (J7 _)) fun i v h e=>by rw[S8 h]at e;cases e
variable{i:Nat}
theorem LU{a:Array Nat}(b:Up a){v:Nat}(e:a[i]? = some v):below a (v+1)=i+1:=by
 obtain⟨f,d,c⟩:=rZ b (v+1);rcases Nat.lt_trichotomy (below a (v+1)) (i+1)with h|h|h
 ·have:=c i v (by lia) e;lia
 ·exact h
 ·have hi:i+1<a.size:=(by lia);have e2:=V7 hi;have:=d (i+1) _ h e2;have:=b i (i+1) v _ (by lia) e e2;lia
theorem LR{a:Array Nat}(b:Up a):below a 0=0:=by
 obtain⟨e,c,d⟩:=rZ b 0;rcases C8 (below a 0)with h|h
 ·exact h
 ·have:=c 0 _ h (V7 (by lia));lia
theorem Ao(h:t.slot j=.empty):t.place[below t.place j]?≠some j:=fun e=>by unfold SetTable.slot at h;dsimp only at h;rw[Z8 (by rw[e];simp)]at h;cases h
theorem Hg{d:Array Nat}(f:Up d)(p:d[below d j]?≠some j):Up (insertAt d (below d j) j):=by
 obtain⟨r,q,m⟩:=rZ f j;have lo:∀i v,i<below d j->d[i]? = some v->v<j:=q;have hi:∀i v,below d j<=i->d[i]? = some v->j<v:=fun i v l e=>by
  have a:=m i v l e;refine Nat.lt_of_le_of_ne a fun z=>?_;rcases W7 (below d j) i with g|g
  ·have o:below d j<d.size:=by
    have:i<d.size:=(Array.getElem?_eq_some_iff.mp e).1;lia
   have e2:=V7 o;have:=f _ i _ _ g e2 e;have:=m _ _ (Z5 _) e2;lia
  ·have:i=below d j:=(by lia);rw[this,<-z]at e;exact p e
 have gt:∀i,(insertAt d (below d j) j)[i]? = if i<below d j then d[i]? else if i=below d j then some j else d[i-1]?:=fun i=>by
  rw[<-T5,SetTable.toList_insertAt];by_cases a:i<below d j
  ·rw[Z8 a,Re (by rw[R4,X2];lia),La a,T5]
  ·rw[Z6 a,R0 (by rw[R4,X2];lia),R4,X2,J6 r];by_cases b:i=below d j
   ·rw[Z8 b,b,z8];rfl
   ·rw[Z6 b,show i-below d j=(i-1-below d j)+1 by lia,zo,List.getElem?_drop,T5,show below d j+(i-1-below d j)=i-1 by lia]
 intro i k u v h e1 e2;rw[gt]at e1 e2;by_cases a:i<below d j
 ·rw[Z8 a]at e1;have n:=lo i u a e1;by_cases b:k<below d j
  ·rw[Z8 b]at e2;exact f i k u v h e1 e2
  ·rw[Z6 b]at e2;by_cases c:k=below d j
   ·rw[Z8 c]at e2;cases e2;exact n
   ·rw[Z6 c]at e2;have:=hi (k-1) v (by lia) e2;lia
 ·rw[Z6 a]at e1;rw[Z6 (by lia),Z6 (by lia)]at e2;by_cases c:i=below d j
  ·rw[Z8 c]at e1;cases e1;exact hi (k-1) v (by lia) e2
  ·rw[Z6 c]at e1;exact f (i-1) (k-1) u v (by lia) e1 e2
noncomputable def lp(m:Nat):Nat->Nat->Nat->Nat×Nat
 |0,i,p=>(i,p)|n+1,i,p=>lp m n ((i*5+1+p / 32)%(m+1)) (p / 32)
theorem WK(m:Nat):∀n i p,(lp m n i p).2=p / 32 ^ n
 |0,i,p=>by show p=p / 1;lia
 |n+1,i,p=>by show(lp m n _ (p / 32)).2=_;rw[WK m n,Nat.div_div_eq_div_mul,Nat.pow_succ,L8]
theorem WL(m:Nat):∀n i p,i<=m->(lp m n i p).1<=m
 |0,i,p,h=>h|n+1,i,p,h=>WL m n _ _ (B9 (E9 (i*5+1+p / 32) (Nat.succ_pos m)))
theorem KU(m:Nat):∀n k i p,lp m (n+k) i p=lp m k (lp m n i p).1 (lp m n i p).2
 |0,k,i,p=>by rw[S7];rfl
 |n+1,k,i,p=>by rw[Nat.add_right_comm];exact KU m n k _ _
theorem GX(m:Nat)(f:m=7\/m=31)(i j p:Nat)(hi:i<=m)(c:j<=m)(d:p<2 ^ 64):∃n,n<=13+m/\1<=n/\(lp m n i p).1=j:=by
 have b:∀a,a<=m->∃k,k<=m/\(lp m k a 0).1=j:=by
  rcases f with rfl|rfl
  ·exact(by decide +kernel:∀j,j<=7->∀a,a<=7->∃k,k<=7/\(lp 7 k a 0).1=j) j c
  ·exact(by decide +kernel:∀j,j<=31->∀a,a<=31->∃k,k<=31/\(lp 31 k a 0).1=j) j c
 obtain⟨k,h,e⟩:=b _ (WL m 13 i p hi);refine⟨13+k,by lia,by lia,?_⟩;rw[KU];have g:(lp m 13 i p).2=0:=(by rw[WK];exact Nat.div_eq_of_lt (z7 d (by decide)));rw[g];exact e
theorem uD(m i:Nat):runEnd m i-i<=9:=by unfold runEnd;split<;>lia
theorem ES(t:SetTable):∀(r:Nat) (p:Probe),p.more=r->
  JF t (r+1) p={j:=(p.i*5+1+p.perturb / 32)%(t.mask+1),more:=runEnd t.mask ((p.i*5+1+p.perturb / 32)%(t.mask+1))-(p.i*5+1+p.perturb / 32)%(t.mask+1),i:=(p.i*5+1+p.perturb / 32)%(t.mask+1),perturb:=p.perturb / 32,dummy:=p.dummy}
 |0,p,h=>by show t.advance p=_;unfold advance;rw[Z6 (by lia)];rfl
 |r+1,p,h=>by show JF t (r+1) (t.advance p)=_;have e:t.advance p={p with j:=p.j+1,more:=p.more-1}:=(by unfold advance;rw[Z8 (by lia)]);rw[ES t r _ (by rw[e];show p.more-1=r;lia),e]
theorem BL(t:SetTable):∀(n:Nat) (p:Probe),p.more<=9->∃d,d<=10*(n+1)/\(JF t d p).j=(lp t.mask (n+1) p.i p.perturb).1/\(JF t d p).i=(lp t.mask (n+1) p.i p.perturb).1/\(JF t d p).perturb=(lp t.mask (n+1) p.i p.perturb).2/\(JF t d p).more<=9
 |0,p,h=>by refine⟨p.more+1,by lia,?_⟩;rw[ES t _ p rfl];exact⟨rfl,rfl,rfl,uD _ _⟩
 |n+1,p,h=>by obtain⟨d,hd,e1,e2,a,b⟩:=BL t n p h;refine⟨d+((JF t d p).more+1),by lia,?_⟩;rw[OF,ES t _ _ rfl,KU t.mask (n+1) 1,e2,a];exact⟨rfl,rfl,rfl,uD _ _⟩
theorem RZ(a:t.mask=7\/t.mask=31){p:Probe}(g:p.more<=9)(f:p.i<=t.mask)(c:p.perturb<2 ^ 64)(b:j<=t.mask):∃d,d<10*turns t.mask/\(JF t d p).j=j:=by obtain⟨n,h,i,e⟩:=GX t.mask a p.i j p.perturb f b c;obtain⟨k,rfl⟩:∃k,n=k+1:=⟨n-1,by lia⟩;obtain⟨d,hd,e1,_⟩:=BL t k p g;exact⟨d,by unfold turns;lia,e1.trans e⟩
end PF
namespace PF
open PySem PySem.Spec L2 SetTable
open PyProof.Rows hiding St
variable{prog:Program}{w:World}{A:Around}{E:Value->Shared->Prop}{s:Shared}{α β:Type}{a:Addr}{ep:Nat}{t:SetTable}
section
variable{M:Value->Prop}
def SG(prog:Program)(w:World)(M:Value->Prop)(h:Heap)(k:PK)(e:Int×Value):Prop:=(e.1=gM prog w k/\M e.2)/\∃b,e.2=.ref b/\gJ prog w h k b
theorem Aw{x:Addr}{k:PK}{l:List Value}{Q:Bool->Shared->Prop}(g:gJ prog w s.heap k x)(j:∀y∈l,∃b c,y=Value.ref b/\gJ prog w s.heap c b)(h:Q false s) :
  wpAny (model prog w) A (searchCouldBeSeen (.ref x) l) Q E s:=by
 unfold searchCouldBeSeen;refine Z9 ?_;refine N4 _ (fun a r d=>r.1=none/\d=s/\∀y∈a,∃b c,y=Value.ref b/\gJ prog w s.heap c b) _ ?_ ?_ _ _ ⟨rfl,rfl,j⟩
 ·rintro v a r d ⟨f,rfl,hall⟩;obtain⟨b,c,rfl,i⟩:=hall v X7;have nx:∀y∈a,∃b c,y=Value.ref b/\gJ prog w d.heap c b:=fun u e=>hall u (X5 _ e);dsimp only;split
  ·exact Z7 ⟨rfl,rfl,nx⟩
  ·refine Z9 (GH g ?_);simp only[V6,Y2,Y5];refine Z9 (GH i ?_);simp only[V6,Y2,Y5];refine Z9 (YJ g ?_);simp only[Y2,Y5];refine Z9 (YJ i ?_);simp only[Y2,Y5];exact Z7 ⟨rfl,rfl,nx⟩
 ·rintro⟨n,m⟩ d ⟨f,rfl,_⟩;simp only at f;subst f;exact Z7 h
theorem uF{F:α->β->Prop}:∀{l:List α} {m:List β} {i:Nat} {b:β},Paired F l m->m[i]? = some b->∃a,a∈l/\F a b
 |_,_,i,_,.nil,e=>by simp at e
 |_,_,0,_,.cons r t,e=>by simp at e;subst e;exact⟨_,X7,r⟩
 |_,_,i+1,_,.cons r t,e=>by obtain⟨a,d,c⟩:=uF t (i:=i) (by simpa using e);exact⟨a,X5 _ d,c⟩
theorem OU{x:Addr}{k:PK}{o:Obj}{g:Array (Int×Value)}{ks:List PK}{Q:SetFound->Shared->Prop}(H:s.heap.get? a=some o)(hd:o.data=.set g ep t)(hf:t.fits g.size=true)(S:Paired (SG prog w M s.heap) ks g.toList)(C:t.dummies=#[])(X:t.mask=7\/t.mask=31)(J:gJ prog w s.heap k x)(W:k∉ks)(hu:A.units+12<cLine)(h:∀j,t.slot j=.empty->Q (.free j false) s) :
  ∀(d c:Nat) (st:Option Probe),(st.getD (t.probeStart (gM prog w k))).dummy=none->t.slot (JF t d (st.getD (t.probeStart (gM prog w k)))).j=.empty->d<10*turns t.mask->d<c->
   wpAny (model prog w) A (setSearchFrom a (.ref x) (gM prog w k) true c st) Q E s:=by
 intro d
 induction d using Nat.strongRecOn with
 |_ d N=>
 intro c st h1 h2 h3 h4;obtain⟨f,rfl⟩:∃f,c=f+1:=⟨c-1,by lia⟩;unfold setSearchFrom;refine Z9 (R5 H hd hf ?_);dsimp only;have hg:t.gaveWay=false:=(by unfold SetTable.gaveWay;rcases X with e|e<;>rw[e]<;>rfl);rw[hg];simp only[Y2,Y5];unfold SetTable.probe;rcases GD C _ _ d _ h1 h2 _ h3 with⟨j,e,n⟩|⟨j,i,T,nx,v,e,n,r,p⟩
 ·rw[e];exact Z7 (h j n)
 ·rw[e];dsimp only;have G:t.place[i]? = some j:=by
   rcases rL C j with⟨i',e1,e2⟩|e1
   ·rw[n]at e1;injection e1 with e1;subst e1;exact e2
   ·rw[n]at e1;cases e1
  have F:t.place.size=g.size:=(by simp only[SetTable.fits,X6,Ft]at hf;exact hf.1);have hi:i<g.size:=(by rw[<-F];exact(Array.getElem?_eq_some_iff.mp G).1);obtain⟨m,I,e1,b,e2,R⟩:∃m,m∈ks/\SG prog w M s.heap m g[i]:=(by obtain⟨q,D,K⟩:=uF S (i:=i) (b:=g[i]) (by rw[T5,V7 hi]);exact⟨q,D,K⟩);have l:g[i]? = some (g[i].1,Value.ref b):=(by rw[V7 hi,<-e2]);have u:m≠k:=fun z=>W (by rw[<-z];exact I);have L:∀y∈List.map (fun x=>x.snd) (Array.filter (fun x=>x.fst==gM prog w k) g).toList,∃b m,y=Value.ref b/\gJ prog w s.heap m b:=fun y V=>(by obtain⟨e3,D,rfl⟩:=List.mem_map.mp V;have K:e3∈g.toList:=(by rw[Array.toList_filter]at D;exact(List.mem_filter.mp D).1);obtain⟨i3,h7⟩:=List.mem_iff_getElem?.mp K;obtain⟨q,_,_,b',h8,h9⟩:=uF S h7;exact⟨b',q,h8,h9⟩);by_cases P:(!t.led)=true
  ·rw[Z8 P];refine Z9 (Aw J L ?_);simp only[Y2,Y5];rw[l];dsimp only;refine Z9 (X1 (Gi (by lia) R J ?_));rw[decide_eq_false u];refine Z9 (R5 H hd hf ?_);dsimp only;rw[show t.sameMemory t.moves t.mask=some true by unfold SetTable.sameMemory;simp];simp only[G8,Y2,Y5,V0];rw[n];dsimp only;rw[l];dsimp only;refine Z9 (wpAny_isSame_ref_self ?_);refine Z9 (Z7 ?_);simp only[V0];exact N T v f (some nx) r p (by lia) (by lia)
  ·rw[Z6 P];rw[l];dsimp only;refine Z9 (X1 (Gi (by lia) R J ?_));rw[decide_eq_false u];refine Z9 (R5 H hd hf ?_);dsimp only;rw[show t.sameMemory t.moves t.mask=some true by unfold SetTable.sameMemory;simp];simp only[G8,Y2,Y5,V0];rw[n];dsimp only;rw[l];dsimp only;refine Z9 (wpAny_isSame_ref_self ?_);refine Z9 (Z7 ?_);simp only[V0];exact N T v f (some nx) r p (by lia) (by lia)
end
end PF
namespace PF
open PySem SetTable
theorem AZ{f g:Nat->Option Nat}:∀{l:List Nat},(∀x∈l,f x=g x)->l.filterMap f=l.filterMap g
 |[],_=>rfl|a::l,h=>by rw[V5,V5,h a X7,AZ fun x b=>h x (X5 _ b)]
variable{j:Nat}
theorem rF{f g:Nat->Option Nat}{c:Nat}(hf:f j=none)(n:g j=some c)(k:∀i,i≠j->g i=f i):∀{l:List Nat},l.Nodup->j∈l->(l.filterMap g).Perm (c::l.filterMap f)
 |[],_,h=>nomatch h
 |a::l,hn,h=>by
  have d:=List.nodup_cons.mp hn;by_cases e:a=j
  ·subst e;rw[V5,V5,hf,n];dsimp only;rw[AZ fun x o=>k x fun z=>d.1 (z▸o)]
  ·have m:=rF hf n k d.2 ((G4.mp h).resolve_left fun z=>e z.symm);rw[V5,V5,k a e];cases f a with
   |none=>exact m|some b=>exact(List.Perm.cons b m).trans (List.Perm.swap c b _)
theorem NN(a:Array (Option Nat))(m:Nat):∀(n fuel i p:Nat),n<fuel->(a.getD (lp m n i p).1 (some 0)).isNone=true->∃j,layClean.free m a fuel i p=some j/\(a.getD j (some 0)).isNone=true
 |n,0,i,p,h,_=>absurd h (J7 _)
 |n,f+1,i,p,h,hn=>by
  unfold layClean.free;cases q:(List.range (runEnd m i+1-i)).find? (fun k=>(a.getD (i+k) (some 0)).isNone)with
  |some k=>exact⟨i+k,rfl,by have:=J1 q;exact this⟩
  |none=>
   cases n with
   |zero=>exfalso;have b:=List.find?_eq_none.mp q 0 (List.mem_range.mpr (by unfold runEnd;split<;>lia));exact b hn
   |succ n=>exact NN a m n f _ _ (by lia) hn
theorem QF(m:Nat)(b:m=7\/m=31)(i j p:Nat)(hi:i<=m)(c:j<=m)(a:p<2 ^ 64):∃n,n<turns m/\(lp m n i p).1=j:=by obtain⟨n,d,_,e⟩:=GX m b i j p hi c a;exact⟨n,by unfold turns;lia,e⟩
theorem OD(h:Int):bits h<2 ^ 64:=by unfold bits;have b:=V4 h (show(2 ^ 64:Int)≠0 by decide);have a:=V9 h (show(0:Int)<2 ^ 64 by decide);lia
def IV(owner:Array (Option Nat))(c:Nat):Prop:=owner.size=32/\((List.range 32).filterMap fun j=>owner.getD j none).Perm (List.range c)
theorem WN{a:Array (Option Nat)}{c:Nat}(h:IV a c)(hc:c<32)(x:Int):∃j,layClean.free 31 a (turns 31) (bits x%(31+1)) (bits x)=some j/\IV (a.setIfInBounds j (some c)) (c+1):=by
 obtain⟨o,m⟩:=h;obtain⟨d,q,e0⟩:∃j,j<32/\a.getD j none=none:=by
  refine Classical.byContradiction fun r=>?_;have g:=m.length_eq;rw[U7]at g;have s:((List.range 32).filterMap fun j=>a.getD j none).length=(List.range 32).length:=by
   rw[List.filterMap_length_eq_length];intro j k;cases e:a.getD j none with
   |none=>exact absurd ⟨j,List.mem_range.mp k,e⟩ r|some v=>rfl
  rw[U7]at s;lia
 have e1:(a.getD d (some 0)).isNone=true:=(by have:d<a.size:=(by lia);simp only[Array.getD,this,dif_pos]at e0 ⊢;rw[e0];rfl);obtain⟨n,p,e2⟩:=QF 31 (.inr rfl) (bits x%(31+1)) d (bits x) (B9 (E9 _ (by decide))) (by lia) (OD x);obtain⟨j,u,l⟩:=NN a 31 n (turns 31) _ _ p (by rw[e2];exact e1);have k:j<32:=(by refine Classical.byContradiction fun z=>?_;have:¬j<a.size:=(by lia);simp[Array.getD,this]at l);have b:j<a.size:=(by lia);refine⟨j,u,by simpa using o,?_⟩;have hf:a.getD j none=none:=(by simp only[Array.getD,b,dif_pos]at l ⊢;simpa using l);refine(rF (f:=fun j=>a.getD j none) (j:=j) (c:=c) hf ?_ ?_ B3 (List.mem_range.mpr k)).trans ?_
 ·simp[Array.getD,b]
 ·intro i hi;simp only[Array.getD,Array.size_setIfInBounds];split
  ·rename_i g;exact Array.getElem_setIfInBounds_ne g (Y8 hi)
  ·rfl
 ·have t:List.range (c+1)=List.range c++[c]:=List.range_succ;rw[t];exact(List.Perm.cons c m).trans (D4 (l₁:=[c]) (l₂:=List.range c))
theorem HC(b:Array Int)(m:b.size<=32):∃a,layClean 31 b=some a/\IV a b.size:=by
 unfold layClean;have go:∀(l:List Int) (a:Array (Option Nat)) (c:Nat),IV a c->c+l.length<=32->∃d,l.foldl (fun g h=>do
   let (a,k) <-g
   let j <-layClean.free 31 a (turns 31) (bits h%(31+1)) (bits h)
   pure (a.setIfInBounds j (some k),k+1)) (some (a,c))=some (d,c+l.length)/\IV d (c+l.length):=by
  intro l
  induction l with
  |nil=>intro a c h _;exact⟨a,rfl,h⟩
  |cons x l i=>
   intro a c h n;rw[Q3]at n;obtain⟨j,e1,p⟩:=WN h (by lia) x;obtain⟨f,e2,o⟩:=i _ (c+1) p (by lia);refine⟨f,?_,?_⟩
   ·rw[A8];show List.foldl _ (do let j <-layClean.free 31 a (turns 31) (bits x%(31+1)) (bits x);pure (a.setIfInBounds j (some c),c+1)) l=_;rw[e1];rw[Q3,show c+(l.length+1)=c+1+l.length by lia];exact e2
   ·rw[Q3,show c+(l.length+1)=c+1+l.length by lia];exact o
 obtain⟨f,e,h⟩:=go b.toList (Array.replicate 32 none) 0 ⟨by simp,by decide⟩ (by simpa using m);rw[<-Array.foldl_toList];refine⟨f,?_,by simpa using h⟩;rw[e];rfl
theorem Na{l:List Nat}(h:l.Pairwise (·<·)):Up l.toArray:=fun i k u v a e1 e2=>by rw[List.getElem?_toArray]at e1 e2;obtain⟨c,rfl⟩:=List.getElem?_eq_some_iff.mp e1;obtain⟨b,rfl⟩:=List.getElem?_eq_some_iff.mp e2;exact List.pairwise_iff_getElem.mp h i k c b a
theorem Cv(g:Array Int)(f m:Nat)(led plain:Bool)(q:g.size<=32):∃place k,SetTable.laid 31 f m led plain g=some ({mask:=31,place,dummies:=#[],finger:=f,led,moves:=m,plain},k)/\place.size=g.size/\k.toList.Perm (List.range g.size)/\Up place:=by
 obtain⟨i,e,s,o⟩:=HC g q;unfold SetTable.laid;rw[e];refine⟨_,_,rfl,?_,?_,?_⟩
 ·rw[Y7,Y9];have p:=o.length_eq;rw[U7]at p;rw[<-p,<-Y9 (f:=fun x:Nat×Nat=>x.2)];rw[K0];congr 2;funext j;cases i.getD j none<;>rfl
 ·show(List.map (fun x:Nat×Nat=>x.2) _).Perm _;rw[K0];refine(List.Perm.of_eq ?_).trans o;congr 1;funext j;cases i.getD j none<;>rfl
 ·refine Na (?_:List.Pairwise (·<·) (List.map (fun x:Nat×Nat=>x.1) _));rw[K0];refine List.Pairwise.filterMap _ (fun a u h b r t l=>?_) (List.pairwise_lt_range (n:=32));have z:∀{c d:Nat},Option.map (fun x:Nat×Nat=>x.1) (Option.map (fun x=>(c,x)) (i.getD c none))=some d->d=c:=fun{c d} h=>by
   cases e:i.getD c none with
   |none=>rw[e]at h;cases h|some v=>rw[e]at h;exact(Z2 h).symm
  rw[z r,z l];exact h
end PF
namespace PF
open PySem PySem.Spec L2 SetTable
open PyProof.Rows hiding St
variable{prog:Program}{w:World}{A:Around}{E:Value->Shared->Prop}{s:Shared}{h h':Heap}{a b:Addr}{ep:Nat}{t:SetTable}{α β:Type}
section
variable{M:Value->Prop}
structure sF(prog:Program)(w:World)(M:Value->Prop)(h:Heap)(a:Addr)(ks:List PK):Prop where
 ex:∃o es ep t,h.get? a=some o/\o.ExactSet/\o.data=.set es ep t/\Paired (SG prog w M h) ks es.toList/\t.place.size=es.size/\t.dummies=#[]/\t.plain=true/\t.led=!w.params.followText "set-order" /\Up t.place/\
  (t.mask=7/\es.size<=4\/t.mask=31/\es.size<=18)
theorem gJ.but{k:PK}{o:Obj}{z:Array (Int×Value)}(x:gJ prog w h k b)(q:h.get? a=some o)(hd:o.data=.set z ep t)(p:Heap.SameBut a h h'):gJ prog w h' k b:=by obtain⟨u,r,c,m,e,hc,g,hi⟩:=x;have y:b≠a:=(by rintro rfl;rw[q]at e;cases e;rw[hd]at g;cases g);obtain⟨s,i,n,d,l,f,j⟩:=hi;have v:c≠a:=(by rintro rfl;rw[q]at d;cases d;rw[hd]at f;cases f);exact⟨u,r,c,m,(p.2 b y).trans e,hc,g,s,i,n,(p.2 c v).trans d,l,f,j⟩
theorem xY(a:Array α)(p:Nat)(x:α):(insertAt a p x).toList=a.toList.take p++x::a.toList.drop p:=by exact SetTable.toList_insertAt a p x
theorem HH(a:Array α)(p:Nat)(x:α):(insertAt a p x).size=a.size+1:=by rw[<-X2,xY];simp;lia
theorem rO{F:α->β->Prop}:∀{l b:List α} {m a:List β},Paired F l m->Paired F b a->Paired F (l++b) (m++a)
 |_,_,_,_,.nil,h=>h|_,_,_,_,.cons r t,h=>.cons r (rO t h)
theorem vD{F:α->β->Prop}:∀{l:List α} {m:List β} (n:Nat),Paired F l m->Paired F (l.take n) (m.take n)
 |_,_,0,_=>.nil|_,_,n+1,.nil=>.nil|_,_,n+1,.cons r t=>.cons r (vD n t)
theorem vG{F:α->β->Prop}:∀{l:List α} {m:List β} (n:Nat),Paired F l m->Paired F (l.drop n) (m.drop n)
 |_,_,0,h=>by simpa using h
 |_,_,n+1,.nil=>.nil|_,_,n+1,.cons r t=>vG n t
theorem fZ{F:α->β->Prop}:∀{l:List α} {m:List β},Paired F l m->l.length=m.length
 |_,_,.nil=>rfl|_,_,.cons r t=>by simp[fZ t]
theorem KG{F:α->β->Prop}{l:List α}{m:Array β}{a:α}{b:β}(p:Nat)(h:Paired F l m.toList)(r:F a b):Paired F (l.take p++a::l.drop p) (insertAt m p b).toList:=by rw[xY];exact rO (vD p h) (.cons r (vG p h))
theorem vE{F:α->β->Prop}{m d:List β}(p:List.Perm m d):∀{l:List α},Paired F l m->∃a,List.Perm l a/\Paired F a d:=by
 induction p with
 |nil=>intro l h;exact⟨l,.refl _,h⟩
 |cons x _ i=>
  intro l h;cases h with
  |cons r t=>obtain⟨a,k,j⟩:=i t;exact⟨_,k.cons _,.cons r j⟩
 |swap x y l=>
  intro l h;cases h with
  |cons r t=>
   cases t with
   |cons f e=>exact⟨_,.swap _ _ _,.cons f (.cons r e)⟩
 |trans _ _ c b=>intro l h;obtain⟨u,s,o⟩:=c h;obtain⟨g,q,n⟩:=b o;exact⟨g,s.trans q,n⟩
theorem UM{o:Obj}{d:Array (Int×Value)}{ks:List PK}{Q:Unit->Shared->Prop}(k:s.heap.get? a=some o)(r:o.ExactSet)(hd:o.data=.set d ep t)(G:Paired (SG prog w M s.heap) ks d.toList)(hf:t.fits d.size=true)(n:t.plain=true)(p:t.led=!w.params.followText "set-order")(F:d.size<=18)(h:∀h' f,Heap.SameBut a s.heap h'->sF prog w M h' a f->f.Perm ks->Q () {s with heap:=h'}):wpAny (model prog w) A (setRelay a 20) Q E s:=by
 unfold setRelay;refine Z9 (R5 k hd hf ?_);dsimp only;rw[Z6 (by rw[show sizeAbove 20=32 from rfl,W9];decide)];have m:(d.map fun x=>x.1).size=d.size:=Array.size_map ..;obtain⟨place,c,e,z,y,l⟩:=Cv (d.map fun x=>x.1) t.finger (t.movedTo 31) t.led t.plain (by lia);rw[show t.relaid (d.map fun x=>x.1) 20=some ({mask:=31,place,dummies:=#[],finger:=t.finger,led:=t.led,moves:=t.movedTo 31,plain:=t.plain},c)from e];rw[m]at z y;have u:List.Perm (c.filterMap (d[·]?)).toList d.toList:=(by rw[Array.toList_filterMap];exact(y.filterMap _).trans (by rw[filterMap_getElem?_range]));have g:(c.filterMap (d[·]?)).size=d.size:=(by rw[<-X2,u.length_eq,X2]);refine Z9 (show wpAny (model prog w) A (do
   let j:=c.filterMap (d[·]?)
   if j.size != d.size then unsupported "internal:set-table-lost-an-element"
   pure (j,({mask:=31,place,dummies:=#[],finger:=t.finger,led:=t.led,moves:=t.movedTo 31,plain:=t.plain}:SetTable))) _ _ _ from ?_)
 dsimp only;rw[show((c.filterMap (d[·]?)).size != d.size)=false by rw[g];simp];simp only[Y2,Y5];refine Z7 ?_;dsimp only;obtain⟨f,D,C⟩:=vE u.symm G;have v:=V2 s.heap a (Obj.putSet (c.filterMap (d[·]?)) {mask:=31,place,dummies:=#[],finger:=t.finger,led:=t.led,moves:=t.movedTo 31,plain:=t.plain});refine wpAny_storeSet_of k hd ?_ (by rw[g,W9];lia);have i:=U2 (Obj.putSet (c.filterMap (d[·]?)) {mask:=31,place,dummies:=#[],finger:=t.finger,led:=t.led,moves:=t.movedTo 31,plain:=t.plain}) k (by rw[putSet_of _ _ hd];rfl);rw[putSet_of _ _ hd]at i;exact h _ f v ⟨⟨_,_,_,_,i,r,rfl,Paired.mapP C fun q e ⟨z1,b,z2,z3⟩=>⟨z1,b,z2,z3.but k hd v⟩,by rw[g];exact z,rfl,n,p,l,.inr ⟨rfl,by rw[g];exact F⟩⟩⟩ D.symm
theorem Ld{x:Addr}{k:PK}{ks:List PK}{Q:Bool->Shared->Prop}(hS:sF prog w M s.heap a ks)(P:gJ prog w s.heap k x)(hM:M (.ref x))(hn:k∉ks)(hl:ks.length<18)(hu:A.units+12<cLine)(h:∀h' z,Heap.SameBut a s.heap h'->sF prog w M h' a z->z.Perm (k::ks)->Q true {s with heap:=h'}) :
  wpAny (model prog w) A (setAddHashed a (.ref x) (gM prog w k)) Q E s:=by
 obtain⟨o,i,ep,t,y,G,hd,V,m,l,n,F,K,D⟩:=hS.ex;have hm:t.mask=7\/t.mask=31:=D.imp (·.1) (·.1);have hz:i.size=ks.length:=(by rw[<-X2,fZ V]);have u:t.fill=i.size:=(by unfold SetTable.fill;rw[l,m];rfl);have N:t.place.size<=t.mask:=(by rcases D with⟨e,W⟩|⟨e,W⟩<;>lia);have hf:t.fits i.size=true:=(by unfold SetTable.fits;rw[u];simp only[m,B4,G1,U5];lia);unfold setAddHashed setAddHashedIn;refine X1 (Z9 (R5 y hd hf ?_));dsimp only;rw[show byScan (.ref x) i=false from rfl];simp only[Y2,Y5];obtain⟨j0,R,e0⟩:=OR l N;obtain⟨d,T,S⟩:=RZ hm (p:=t.probeStart (gM prog w k)) (uD _ _) (B9 (E9 _ (Nat.succ_pos _))) (OD _) R;have a0:turns t.mask<=46:=(by unfold turns;lia);refine Z9 (OU y hd hf V l hm P hn hu (fun j hj=>?_) d 100000 none rfl (by rw[show(none:Option Probe).getD (t.probeStart (gM prog w k))=t.probeStart (gM prog w k)from rfl,S];exact e0) T (by lia));dsimp only;refine Z9 (R5 y hd hf ?_);dsimp only;have L:(t.put j).1.plain=true:=n;rw[Z8 L];refine Z9 (Kw P ?_);simp only[V0,G9,G1];have d1:(t.put j).1.dummies=#[]:=(by show(if has t.dummies j then _ else t.dummies)=#[];rw[l];rfl);have I:(t.put j).1.place.size=i.size+1:=(by show(insertAt t.place _ j).size=_;rw[HH,m]);have g:(t.put j).1.fill=i.size+1:=(by unfold SetTable.fill;rw[d1,I];rfl);have f:(insertAt i (t.put j).2 (gM prog w k,Value.ref x)).size=i.size+1:=HH _ _ _;have v:=V2 s.heap a (Obj.putSet (insertAt i (t.put j).2 (gM prog w k,Value.ref x)) (t.put j).1);have H:Paired (SG prog w M (s.heap.update a (Obj.putSet (insertAt i (t.put j).2 (gM prog w k,Value.ref x)) (t.put j).1))) (ks.take (t.put j).2++k::ks.drop (t.put j).2) (insertAt i (t.put j).2 (gM prog w k,Value.ref x)).toList:=
  Paired.mapP (KG _ V ⟨⟨rfl,hM⟩,x,rfl,P⟩) fun q e ⟨q1,b,q2,q3⟩=>⟨q1,b,q2,q3.but y hd v⟩
 have C:(ks.take (t.put j).2++k::ks.drop (t.put j).2).Perm (k::ks):=(by refine List.perm_middle.trans ?_;rw[D5]);refine Z9 (wpAny_storeSet_of y hd ?_ (by rw[f,W9];lia));have r:=U2 (Obj.putSet (insertAt i (t.put j).2 (gM prog w k,Value.ref x)) (t.put j).1) y (by rw[putSet_of _ _ hd];rfl);rw[putSet_of _ _ hd]at r;by_cases c:(t.put j).1.tooFull=true
 ·rw[Z8 c];have h5:i.size=4:=by
   unfold SetTable.tooFull at c;rw[g]at c;simp only[U5]at c;have X:(t.put j).1.mask=t.mask:=rfl;rw[X]at c;lia
  rw[show grown (i.size+1)=20 by rw[h5];rfl];refine Z9 (UM (s:={s with heap:=_}) r G rfl H ?_ n F (by rw[f];lia) fun W J b2 S2 p2=>?_)
  ·unfold SetTable.fits;rw[g,I,f];simp only[B4,G1,U5];show i.size+1<=t.mask;lia
  ·exact Z7 (h W J (v.trans b2) S2 (p2.trans C))
 ·rw[Z6 c];refine Z7 (h _ _ v ⟨⟨_,_,_,_,r,G,rfl,H,by rw[I,f],d1,n,F,Hg K (Ao hj),?_⟩⟩ C);unfold SetTable.tooFull at c;rw[g]at c;simp only[U5]at c;have X:(t.put j).1.mask=t.mask:=rfl;rw[X]at c ⊢;rw[f];lia
end
variable{I:Addr}
section
variable{M:Value->Prop}
theorem gJ.stay{k:PK}(x:gJ prog w h k a)(i:∀b o,h.get? b=some o->o.cls=.type "tuple" ->h'.get? b=some o):gJ prog w h' k a:=by obtain⟨o,t,b,m,j,hc,hd,ob,d,n,e,c,g,f⟩:=x;exact⟨o,t,b,m,i _ _ j hc,hc,hd,ob,d,n,i _ _ e c,c,g,f⟩
theorem sF.stay{ks:List PK}(x:sF prog w M h a ks)(d:∀b o,h.get? b=some o->o.cls=.type "tuple" \/b=a->h'.get? b=some o):sF prog w M h' a ks:=by obtain⟨o,i,j,t,f,c,hd,g,r⟩:=x.ex;exact⟨⟨o,i,j,t,d _ _ f (.inr rfl),c,hd,Paired.mapP g fun q e ⟨z1,b,z2,z3⟩=>⟨z1,b,z2,z3.stay fun b o e1 e2=>d b o e1 (.inl e2)⟩,r⟩⟩
abbrev YT(prog:Program)(w:World)(h:Heap):List PK->List Value->Prop:=Paired fun q v=>∃b,v=Value.ref b/\gJ prog w h q b
theorem sF.notTup{ks:List PK}(x:sF prog w M h a ks){o:Obj}(e:h.get? b=some o)(hc:o.cls=.type "tuple"):b≠a:=by rintro rfl;obtain⟨f,g,i,t,d,c,_⟩:=x.ex;rw[e]at d;cases d;rw[c.1]at hc;injection hc with hc;exact absurd hc (by decide)
theorem nY{F:α->β->Prop}:∀{l:List α} {m:List β} {i:Nat} {b:β},Paired F l m->m[i]? = some b->∃a,l[i]? = some a/\F a b
 |_,_,i,_,.nil,e=>by simp at e
 |_,_,0,_,.cons r t,e=>by simp at e;subst e;exact⟨_,rfl,r⟩
 |_,_,i+1,_,.cons r t,e=>by obtain⟨a,d,c⟩:=nY t (i:=i) (by simpa using e);exact⟨a,by simpa using d,c⟩
theorem UB{R:Result->Shared->Prop}{l S:Addr}{items:Array Value}{ks:List PK}(hh:A.in1.handled=none)(a0:l≠I)(u:S≠I)(a3:S≠l)(a1:ks.Nodup)(hz:ks.length<=18)(hu:A.units+20<cLine)(hM:∀v∈items.toList,M v) :
  ∀(k i:Nat) (s:Shared) (d:List PK),items.size-i=k->i<=items.size->s.heap.IsListIter I l i/\s.heap.IsList l items->sF prog w M s.heap S d->d.Perm (ks.take i)->YT prog w s.heap ks items.toList->
   (∀a m,(∀b o,b≠S->b≠I->s.heap.get? b=some o->a.heap.get? b=some o)->a.gens=s.gens->a.drawn=s.drawn->a.os=s.os->sF prog w M a.heap S m->m.Perm ks->R (.ok (.ret .none)) a)->
   codeAny (model prog w) A (.builtin "set.update.loop" ⟨[.ref S,.ref I],[]⟩) R s:=by
 have W:=(Walks.list (prog:=prog) (w:=w) hh I l a0 items).toS;have g:∀{h:Heap} {i:Nat} {b:Addr} {o:Obj},h.IsListIter I l i->h.get? b=some o->o.cls=.type "tuple" ->b≠I:=fun{h i b o} x e hc z=>(by subst z;obtain⟨o',J,N,_⟩:=x;rw[e]at J;cases J;rw[N]at hc;injection hc with hc;exact absurd hc (by decide));intro k
 induction k with
 |zero=>intro i s d hk hi f hS y L hR;have a2:i=items.size:=(by lia);subst a2;have p:=fZ L;refine SL F.entry_set_update_loop ?_;rw[R6 B6 _];show wpAny _ A.in1 (pyNext (.ref I) >>= _) _ _ s;refine Z9 (W.done s _ _ f fun a n=>?_);show wpAny _ A.in1 (ret Value.none) _ _ a;have kp:∀b o,b≠I->s.heap.get? b=some o->a.heap.get? b=some o:=fun b o r e=>n.heap b o (by simpa using r) e;rw[R8 (by rw[p,X2];exact Z5 _)]at y;exact Z7 (hR a d (fun b o _ r e=>kp b o r e) n.gens n.drawn n.os (hS.stay fun b o e hc=>kp b o (hc.elim (g f.1 e) fun z=>z▸u) e) y)
 |succ k ih=>
  intro i s d hk hi f hS y L hR;have E:i<items.size:=(by lia);have p:ks.length=items.size:=(fZ L).trans X2;refine SL F.entry_set_update_loop ?_;rw[R6 B6 _];show wpAny _ A.in1 (pyNext (.ref I) >>= _) _ _ s;refine Z9 (W.item i s _ _ E f fun v a hP C n=>?_);have kp:∀b o,b≠I->s.heap.get? b=some o->a.heap.get? b=some o:=fun b o r e=>n.heap b o (by simpa using r) e;have G:sF prog w M a.heap S d:=hS.stay fun b o e hc=>kp b o (hc.elim (g f.1 e) fun z=>z▸u) e;have H:YT prog w a.heap ks items.toList:=Paired.mapP L fun q v ⟨b,e1,e2⟩=>⟨b,e1,e2.stay fun b o e hc=>kp b o (g f.1 e hc) e⟩;obtain⟨q,hq,b,rfl,r⟩:=nY H (show items.toList[i]? = some v by rw[T5];exact hP);have D:q∉d:=fun z=>by
   have z':=y.mem_iff.mp z;obtain⟨j,K⟩:=List.mem_iff_getElem?.mp z';rw[List.getElem?_take]at K;split at K
   ·rename_i a6;have z2:=(List.getElem?_inj (i:=j) (j:=i) (by lia) a1).mp (K.trans hq.symm);lia
   ·cases K
  have a5:d.length=i:=(by rw[y.length_eq,R4];lia);show wpAny _ A.in1 (holding [Value.ref b] (setAdd S (Value.ref b)) >>= _) _ _ a;refine Z9 (X1 ?_);unfold setAdd;refine X1 ?_;refine Z9 (Bm (by simp;lia) r fun tk T=>?_);refine Ld (s:={a with toks:=tk}) G r (hM _ (M7 (show items.toList[i]? = some (Value.ref b) by rw[T5];exact hP))) D (by lia) (by simp;lia) fun h' Q V a4 X=>?_;have t:∀c o,c≠S->a.heap.get? c=some o->h'.get? c=some o:=fun c o hc e=>(V.2 c hc).trans e;refine Z7 ⟨P9 B6 _,ih (i+1) {a with heap:=h',toks:=tk} Q (by lia) E ?_ a4 ?_ ?_ ?_⟩
  ·exact W.frame (i+1) a h' tk C T fun c hc o e=>t c o (by
    simp at hc;rcases hc with rfl|rfl
    ·exact Y8 u
    ·exact Y8 a3) e
  ·refine(X.trans (y.cons q)).trans ?_;rw[A5,hq];exact D4 (l₁:=[q])
  ·exact Paired.mapP H fun q v ⟨b,e1,e2⟩=>⟨b,e1,e2.stay fun b o e hc=>t b o (G.notTup e hc) e⟩
  ·intro P m k3 g3 d3 o3 S3 p3;exact hR P m (fun c o J N e=>k3 c o J N (t c o J (kp c o N e))) (g3.trans n.gens) (d3.trans n.drawn) (o3.trans n.os) S3 p3
end
variable{Q:Value->Shared->Prop}
section
variable{M:Value->Prop}
noncomputable abbrev kF(w:World):Obj:={cls:=.type "set",dict:=none,data:=.set #[] 0 (.fresh 0 0 (!w.params.followText "set-order"))}
theorem UA(v:Value)(h:Q (.ref s.heap.objs.size) {s with heap:=s.heap.push (kF w)}) :
  codeAny (model prog w) A (.call (.builtin "set.__new__") ⟨[.type "set",v],[]⟩) (wants Q E) s:=by
 refine codeAny_of_tree (show wpAny _ A.in1 (do checkBuiltinCall "set.__new__" ⟨[.type "set",v],[]⟩;again (.builtin "set.__new__" ⟨[.type "set",v],[]⟩)) _ _ s from ?_);refine Z9 (S5 (F.newCall_set_1 v) (Z7 ⟨P9 F.plain_set_new _,SL F.entry_set_new ?_⟩));rw[R6 F.plain_set_new _];unfold Builtin.«set.__new__» Builtin.Frozenset.newClass;have a:=sub_set_self;obtain⟨b,g,d,tk,os⟩:=s;dsimp only;wp_walk;refine M2 (Z7 ?_);dsimp only;simp only[newObj];exact Z9 (wpAny_alloc (Z7 (Z7 h)))
theorem sF.new(e:h.get? a=some (kF w)):sF prog w M h a []:=⟨⟨_,_,_,_,e,⟨rfl,rfl,rfl⟩,rfl,.nil,rfl,rfl,rfl,rfl,fun _ _ _ _ _ e=>by simp[SetTable.fresh]at e,.inl ⟨rfl,by simp⟩⟩⟩
theorem FP{l:Addr}{items:Array Value}{ks:List PK}(hh:A.handled=none)(hl:s.heap.IsList l items)(hI:YT prog w s.heap ks items.toList)(H:ks.Nodup)(hz:ks.length<=18)(hu:A.units+30<cLine)(h:∀(h':Heap) (tk:Nat) (a:List PK),sF prog w (·∈items.toList) h' s.heap.objs.size a->a.Perm ks->(∀b o,s.heap.get? b=some o->h'.get? b=some o)->Q (.ref s.heap.objs.size) {s with heap:=h',toks:=tk}) :
  wpAny (model prog w) A (call (.type "set") [.ref l]) Q E s:=by
 obtain⟨c,tl,a1⟩:=F.called_set.mro;have I:=F.called_set.made;have W:=F.called_set.sub;refine L7 (codeAny_of_tree (show wpAny _ _ (callAny (.type "set") _) _ _ _ from ?_));refine Z7 ⟨Code.quiet_builtin _ (by decide +kernel),SL F.entry_type_call ?_⟩;rw[Around.under_plain (weight_type_call_type "set" [.ref l] []) rfl];have h1:=F.called_set.notType;have h2:=F.called_set.canCreate;have a4:=F.typeCall_set_1 (.ref l)
 repeat (any_goals (first|assumption|wp_step))
 refine N0 (UA (.ref l) (E:=E) (Q:=fun v P=>v=.ref s.heap.objs.size/\P={s with heap:=s.heap.push (kF w)}) ⟨rfl,rfl⟩) fun r P G=>?_;cases r with
 |error e=>exact G
 |ok fl=>
  cases fl with
  |ret obj=>
   obtain⟨rfl,rfl⟩:=G;have hS:(s.heap.push (kF w)).get? s.heap.objs.size=some (kF w):=X9 _ rfl;have hT:Shared.TypeIs {s with heap:=s.heap.push (kF w)} (.ref s.heap.objs.size) "set" :=⟨_,hS,rfl⟩;have a3:=F.called_set.init.lookup;have a5:=F.called_set.init.bind (.ref s.heap.objs.size)
   repeat (any_goals (first|assumption|wp_step))
   have n:l<s.heap.objs.size:=let ⟨S,k,_⟩:=hl;Z1 k;refine N0 (codeAny_call_builtin (R:=wants (fun r N=>r=.none/\∃h' tk a,N={s with heap:=h',toks:=tk}/\sF prog w (·∈items.toList) h' s.heap.objs.size a/\a.Perm ks/\∀b o,s.heap.get? b=some o->h'.get? b=some o) E)
    F.called_set.init.plain F.entry_set_init (check_set_init_1 hT ?_)) fun r₂ N j=>?_
   ·obtain⟨S,k,x,V,u⟩:=hl;obtain⟨T,i,D,f⟩:=S;simp only at x u;subst x;subst u;have m:(s.heap.push (kF w)).get? l=some {cls:=.type "list",dict:=i,data:=.seq items V,slots:=f}:=Z3 _ k;have X:=F.sub_list_set;have a0:=F.sub_list_frozenset;have a2:(Value.type "list" ==Value.type "dict")=false:=(by decide);have t:(s.heap.push (kF w)).IsList l items:=⟨_,m,rfl,V,rfl⟩;unfold Builtin.«set.__init__» noKeywords Builtin.Frozenset.updateFrom;generalize J:pyIter=PI;wp_walk;subst J;refine wpAny_pyIter_list t (Z9 (zy ?_));have z:(s.heap.push (kF w)).objs.size=s.heap.objs.size+1:=(by rw[O6]);refine UB (M:=(·∈items.toList)) (A:=A.in1.in1) (items:=items) (ks:=ks) (by simpa using hh) (by rw[z];exact Y6 (N9 n)) (by rw[z];exact Y6 (M4 _)) (SB n) H hz (by simp;lia) (fun _ h=>h) (items.size-0) 0 _ [] (by lia) (Y3 _)
     ⟨⟨_,X9 _ rfl,rfl,rfl⟩,t.push _⟩ (.new (Z3 _ hS)) (.refl _) (Paired.mapP hI fun q v ⟨b,e1,e2⟩=>⟨b,e1,e2.stay fun b o e _=>Z3 _ (Z3 _ e)⟩) fun s' a kp g d os L p=>?_
    obtain⟨h',g',d',y,C⟩:=s';have eg:g'=s.gens:=g;have ed:d'=s.drawn:=d;have eo:C=s.os:=os;subst eg;subst ed;subst eo;show wpAny _ _ _ _ _ _;refine Z7 ?_;show wpAny _ _ (ret Value.none) _ _ _;refine Z7 ⟨rfl,h',y,a,rfl,L,p,fun b o e=>kp b o (Y6 (Z1 e)) (by rw[z];exact Y6 (N9 (Z1 e))) (Z3 _ (Z3 _ e))⟩
   ·cases r₂ with
    |error e=>exact j
    |ok K=>
     cases K with
     |ret r=>
      obtain⟨rfl,h',tk,a,rfl,L,p,kp⟩:=j
      repeat (any_goals (first|assumption|wp_step))
      exact h _ _ _ L p kp
     |_=>exact j.elim
  |_=>exact G.elim
end
theorem AH:PySem.Slot "set_iterator" "__next__" "set_iterator.__next__" :=
 .of (owner:="set_iterator") (n:="__next__") (by rw[O7,P4];kernel_rfl) (by decide +kernel) (by decide +kernel) (by decide +kernel) (by first|exact .inl (by decide +kernel)|exact .inr (by decide +kernel)) (by rw[Q2];kernel_rfl)
theorem Gw:entryFor table "set_iterator.__next__" = some Builtin.«set_iterator.__next__»:=A2 (by kernel_rfl)
theorem Gp:Manifest.owners.lookup (String.ofList ['r','o','t','a','r','e','t','i','_','t','e','s'].reverse)=some Manifest.sig_set_iterator:=by kernel_rfl
theorem Gz(a:Value):argsOk "set_iterator.__next__" ⟨[a],[]⟩:=by unfold argsOk;rw[F0 (id:="set_iterator.__next__") (n:=['_','_','t','x','e','n','_','_']) (o:=['r','o','t','a','r','e','t','i','_','t','e','s']) (by kernel_rfl) Gp];kernel_rfl
theorem Fx:PySem.Slot "set_iterator" "__iter__" "set_iterator.__iter__" :=
 .of (owner:="set_iterator") (n:="__iter__") (by rw[O7,P4];kernel_rfl) (by decide +kernel) (by decide +kernel) (by decide +kernel) (by first|exact .inl (by decide +kernel)|exact .inr (by decide +kernel)) (by rw[Q2];kernel_rfl)
theorem Qu:entryFor table "set_iterator.__iter__" = some Builtin.«dict_keyiterator.__iter__»:=zw (id':="dict_keyiterator.__iter__") (by kernel_rfl) rfl (by decide +kernel) (by kernel_rfl)
theorem Sh(a:Value):argsOk "set_iterator.__iter__" ⟨[a],[]⟩:=by unfold argsOk;rw[F0 (id:="set_iterator.__iter__") (n:=['_','_','r','e','t','i','_','_']) (o:=['r','o','t','a','r','e','t','i','_','t','e','s']) (by kernel_rfl) Gp];kernel_rfl
theorem Qt:entryFor table "set.__iter__" = some Builtin.«frozenset.__iter__»:=zw (id':="frozenset.__iter__") (by kernel_rfl) rfl (by decide +kernel) (by kernel_rfl)
variable{i n:Nat}{it:Addr}
def oX(w:World)(a:Addr)(ep:Nat)(es:Array (Int×Value)):Array (Int×Value):=if w.params.followText "set-order" then pickOrder (w.params.setOrder a ep) es else es
theorem MV(f:Nat->Nat):∀(n k:Nat) (l:List α) (out:Array α),l.length<=n->(pickOrder.go f n k l out).toList.Perm (out.toList++l)
 |0,k,l,out,h=>by have:l=[]:=L1 (by lia);subst this;simp[pickOrder.go]
 |n+1,k,l,out,h=>by
  unfold pickOrder.go;cases e:l[f k%l.length]? with
  |none=>
   dsimp only;have:l=[]:=by
    rcases za l with z|⟨c,b,z⟩
    ·exact z
    ·exfalso;have a:0<l.length:=(by rw[z];simp);rw[Y1 (E9 _ a)]at e;cases e
   subst this;simp
  |some x=>dsimp only;obtain⟨hi,rfl⟩:=List.getElem?_eq_some_iff.mp e;refine(MV f n (k+1) _ _ (by rw[List.length_eraseIdx_of_lt hi];lia)).trans ?_;rw[Array.toList_push,P2];refine y9 _ ?_;show List.Perm (l[f k%l.length]::l.eraseIdx (f k%l.length)) l;rw[List.eraseIdx_eq_take_drop_succ];refine List.perm_middle.symm.trans (.of_eq ?_);rw[<-O2 hi,D5]
theorem nR(a:Addr)(c:Nat)(b:Array (Int×Value)):(oX w a c b).toList.Perm b.toList:=by
 unfold oX;split
 ·refine(MV _ _ _ _ _ (by simp)).trans (.of_eq (by simp))
 ·exact .refl _
structure sE(prog:Program)(w:World)(h:Heap)(a:Addr)(es:Array (Int×Value))(ep:Nat)(t:SetTable):Prop where
 ex:∃o,h.get? a=some o/\o.ExactSet/\o.data=.set es ep t
 ft:t.fits es.size=true
 pl:t.plain=true
 ld:t.led=!w.params.followText "set-order"
 up:Up t.place
theorem NC{d:Array (Int×Value)}{j:Nat}{Q:Option (Value×Nat)->Shared->Prop}(S:sE prog w s.heap a d ep t)(n:w.params.followText "set-order" = false->below t.place j=i)(h:∀f,(w.params.followText "set-order" = false->i<d.size->below t.place f=i+1)->Q (((oX w a ep d)[i]?).map fun e=>(e.2,f)) s):wpAny (model prog w) A (setNext a j i ep) Q E s:=by
 obtain⟨o,m,p,hd⟩:=S.ex;have k:t.place.size=d.size:=(by have:=S.ft;simp only[SetTable.fits,X6,Ft]at this;exact this.1);unfold setNext;refine Z9 (R5 m hd S.ft ?_);dsimp only;unfold setsByText;refine Z9 (Z9 (M2 (Z7 ?_)));by_cases c:w.params.followText "set-order" = true
 ·rw[Z8 (show(model prog w).w.params.followText "set-order" = true from c),Z6 (by simp)];unfold setWalk;refine Z9 (Z9 (R5 m hd S.ft ?_));dsimp only;unfold setsByText;refine Z9 (Z9 (M2 (Z7 ?_)));rw[Z8 (show(model prog w).w.params.followText "set-order" = true from c)];refine Z9 (M2 (Z7 ?_));have b:=h j fun z=>(by rw[c]at z;cases z);unfold oX at b;rw[Z8 c]at b;exact Z7 b
 ·have g:w.params.followText "set-order" = false:=(by simpa using c);rw[Z6 (show ¬(model prog w).w.params.followText "set-order" = true from c)];split
  ·rename_i z;have l:(!t.plain&&decide (d.size>1))=true:=z;rw[S.pl]at l;simp at l
  ·refine Z9 (show wpAny (model prog w) A (if(!t.led&&!d.isEmpty)=true then unsupported "set:maker-not-led" else pure ()) _ E s from ?_);rw[Z6 (by rw[S.ld,g];simp)];refine Z7 ?_;rw[n g];by_cases hi:i<d.size
   ·rw[V7 hi,V7 (by rw[k];exact hi)];have b:=h (t.place[i]+1) fun _ _=>LU S.up (V7 _);unfold oX at b;rw[Z6 c,V7 hi]at b;exact Z7 b
   ·rw[S8 (by lia),S8 (by lia)];have b:=h j fun _ z=>absurd z hi;unfold oX at b;rw[Z6 c,S8 (by lia)]at b;exact Z7 b
def kU(h:Heap)(it a:Addr)(i sl n ep:Nat):Prop:=∃o,h.get? it=some o/\o.cls=.type "set_iterator" /\o.data=.fields #[.int sl 0,.int i 0,.ref a,.int n 0,.int ep 0]
theorem kU.typeIs{b:Nat}(x:kU s.heap it a i b n ep):s.TypeIs (.ref it) "set_iterator" :=let ⟨o,c,hc,_⟩:=x;⟨o,c,hc⟩
theorem UE{f:Array (Int×Value)}{m:Nat}{Q:Option Value->Shared->Prop}(c:kU s.heap it a i m f.size ep)(S:sE prog w s.heap a f ep t)(p:w.params.followText "set-order" = false->below t.place m=i)(hi:i<f.size){e:Int×Value}(he:(oX w a ep f)[i]? = some e)(h:∀h' b,kU h' it a (i+1) b f.size ep->(w.params.followText "set-order" = false->below t.place b=i+1)->Heap.SameBut it s.heap h'->Q (some e.2) {s with heap:=h'}):wpAny (model prog w) A (pyNext (.ref it)) Q E s:=by
 obtain⟨o,k,hc,hd⟩:=id c;obtain⟨q,j,n,l⟩:=S.ex;unfold pyNext;refine Z9 (Ta (T7 (name:=Str.ofString "__next__") c.typeIs AH (W1 AH c.typeIs Gw ?_ (Gz _))));refine Z9 (Z7 ?_);refine Z9 (G0 k hd ?_);dsimp only;refine Z9 (B5 j l S.ft ?_);rw[Z6 (by simp)];simp only[T4];refine Z9 (NC S p fun b g=>?_);rw[he];dsimp only[Option.map_some];refine Z9 (SC k hd (by simp) ?_);have d:=U2 (Obj.mapFields (·.setIfInBounds 0 (rawInt (b:Int)))) k (Os (U8 hd _));refine Z9 (SC d (U8 hd _) (by simp) ?_);refine Z7 ⟨_,rfl,Z7 (h _ b ⟨_,U2 _ d (Os (U8 (U8 hd _) _)),?_,?_⟩ (fun z=>g z hi) ((V2 ..).trans (V2 ..)))⟩
 ·rw[N6,N6];exact hc
 ·rw[U8 (U8 hd _)];simp[rawInt]
theorem As{d:Array (Int×Value)}{g:Nat}{Q:Option Value->Shared->Prop}(hh:A.handled=none)(c:kU s.heap it a d.size g d.size ep)(S:sE prog w s.heap a d ep t)(n:w.params.followText "set-order" = false->below t.place g=d.size)(h:∀h',Heap.ExtBut it s.heap h'->Q none {s with heap:=h'}):wpAny (model prog w) A (pyNext (.ref it)) Q E s:=by obtain⟨o,i,hc,hd⟩:=id c;obtain⟨q,e,j,f⟩:=S.ex;unfold pyNext;refine Z9 (Ta (T7 (name:=Str.ofString "__next__") c.typeIs AH (W1 AH c.typeIs Gw ?_ (Gz _))));refine Z9 (Z7 ?_);refine Z9 (G0 i hd ?_);dsimp only;refine Z9 (B5 e f S.ft ?_);rw[Z6 (by simp)];simp only[T4];refine Z9 (NC S n fun k l=>?_);have p:(oX w a ep d)[d.size]? = none:=S8 (by rw[<-X2,(nR a ep d).length_eq,X2];exact Z5 _);rw[p];dsimp only[Option.map_none];refine Z9 (SC i hd (by simp) (Z9 ?_));simp only[newExc,newTuple];refine Z9 (W5 ?_ (by size_fits));refine Z9 (m:=firstArgMember _ _) (S5 (a:=Value.none) (by first|rfl|(simp only[firstArgMember];rfl)) (W5 ?_ (by size_fits)));simp only[raiseNew];refine Z9 (F5 ?_);rw[show A.in1.handled=none from hh];refine Z9 (Z7 (E7 ?_));refine Z9 (T3 (T:="StopIteration") (b:=true) ⟨_,X9 _ rfl,rfl⟩ GT (Z7 ?_));exact h _ (((V2 ..).extBut.push _).push _)
theorem sE.stay{b:Array (Int×Value)}(S:sE prog w h a b ep t)(k:∀o,h.get? a=some o->h'.get? a=some o):sE prog w h' a b ep t:=
 let ⟨o,c,r⟩:=S.ex
 ⟨⟨o,k o c,r⟩,S.ft,S.pl,S.ld,S.up⟩
theorem OS{es:Array (Int×Value)}(hh:A.handled=none)(j:a≠I):WalksS prog w A I [I,a] [I] (fun x y=>y=x) es.size (fun i v=>∃e,(oX w a ep es)[i]? = some e/\e.2=v)
  (fun i s=>(∃c,kU s.heap I a i c es.size ep/\(w.params.followText "set-order" = false->below t.place c=i))/\sE prog w s.heap a es ep t) where
 sub:=fun b d=>by simp at d;simp[d]
 grefl:=fun _=>rfl
 gtrans:=fun _ _ _ x y=>y.trans x
 frame:=fun i s n tk ⟨⟨c,⟨o,ho,r⟩,hs⟩,S⟩ _ k=>⟨⟨c,⟨o,k I (by simp) o ho,r⟩,hs⟩,S.stay fun o e=>k a (by simp) o e⟩
 item:=fun i s Q E hi ⟨⟨c,hit,hs⟩,S⟩ hQ=>by have m:i<(oX w a ep es).size:=(by rw[<-X2,(nR a ep es).length_eq,X2];exact hi);refine UE hit S hs hi (V7 m) fun n g f h d=>?_;exact hQ _ _ ⟨_,V7 m,rfl⟩ ⟨⟨g,f,h⟩,S.stay fun o e=>(d.2 a j).trans e⟩ ⟨fun b o l e=>(d.2 b (by simpa using l)).trans e,rfl,rfl,rfl,Z5 _⟩
 done:=fun s Q E ⟨⟨c,hit,hs⟩,S⟩ hQ=>As hh hit S hs fun n p=>hQ _ ⟨fun b o d e=>p b o (by simpa using d) e,rfl,rfl,rfl,Z5 _⟩
 self:=fun i s Q E ⟨⟨c,hit,hs⟩,S⟩ hQ=>by refine J9 hit.typeIs Fx (W1 Fx hit.typeIs Qu (show wpAny _ _ (ret (.ref I)) _ _ s from ?_) (Sh _));exact Z7 ⟨_,rfl,"set_iterator",_,hit.typeIs,AH.lookup,hQ⟩
theorem UD{d:Array (Int×Value)}(S:sE prog w s.heap a d ep t)(h:Q (.ref s.heap.objs.size) {s with heap:=s.heap.push {cls:=.type "set_iterator",data:=.fields #[.int 0 0,.int 0 0,.ref a,.int d.size 0,.int ep 0]}}):wpAny (model prog w) A (pyIter (.ref a)) Q E s:=by
 obtain⟨o,b,c,hd⟩:=S.ex;have hT:s.TypeIs (.ref a) "set" :=⟨o,b,c.1⟩;refine J9 hT F.slot_set_iter (W1 F.slot_set_iter hT Qt ?_ (F.args_set_iter_1 _));unfold Builtin.«frozenset.__iter__»;refine Z9 (m:=Builtin.Frozenset.slot0 _ _) (Z7 ?_);unfold Builtin.Frozenset.sizeOf;refine Z9 (Z9 (B5 b hd S.ft (Z7 ?_)));unfold setDrawn;refine Z9 (Z9 (R5 b hd S.ft ?_));dsimp only;unfold setsByText;refine Z9 (Z9 (M2 (Z7 (Z7 ?_))));split
 ·rename_i z;have e:(!(model prog w).w.params.followText "set-order" &&(!t.plain&&decide (d.size>1)))=true:=z;rw[S.pl]at e;simp at e
 ·refine Z9 (Z7 ?_);refine Z9 (wpAny_setEpoch_of b hd S.ft ?_);refine Z9 (W5 (Z7 ⟨_,rfl,"set_iterator",_,⟨_,X9 _ rfl,rfl⟩,AH.lookup,?_⟩) (by size_fits));exact h
theorem IG{es:Array (Int×Value)}{Q:List Value->Shared->Prop}(hh:A.handled=none)(S:sE prog w s.heap a es ep t)(hz:es.size<=18)(h:∀h' tk H,(∀b o,s.heap.get? b=some o->h'.get? b=some o)->s.heap.objs.size<=h'.objs.size->H.Perm (es.toList.map (·.2))->Q H {s with heap:=h',toks:=tk}):wpAny (model prog w) A (collect (.ref a)) Q E s:=by
 obtain⟨o,u,j,hd⟩:=S.ex;have hT:s.TypeIs (.ref a) "set" :=⟨o,u,j.1⟩;have f:=Z1 u;unfold collect;refine Z9 (zy (SL F.entry_proto_collect ?_));rw[R6 F.plain_proto_collect _];refine(show wpAny _ A.in1 (newList [] >>= fun l=>again (.builtin "list.__iadd__" ⟨[l,.ref a],[]⟩)) _ _ s from Z9 (W5 (Z7 ⟨P9 IR _,SL F.entry_list_iadd ?_⟩)));rw[R6 IR _];have X:sE prog w (s.heap.push {cls:=.type "list",data:=.seq ([]:List Value).toArray}) a es ep t:=S.stay fun o e=>Z3 _ e;have D:Shared.TypeIs {s with heap:=s.heap.push {cls:=.type "list",data:=.seq ([]:List Value).toArray}} (.ref a) "set" :=⟨o,Z3 _ u,j.1⟩;show wpAny _ A.in1 (Builtin.List.listExtendWith (.ref s.heap.objs.size) (.ref a) (.ref s.heap.objs.size)) _ _ _;unfold Builtin.List.listExtendWith;refine Z9 (S6 D ?_);have M:Builtin.List.listSameRef (.ref s.heap.objs.size) (.ref a)=false:=(by simp[Builtin.List.listSameRef,SB f]);rw[Z6 (by rw[M];decide)];refine Z9 (UD (s:={s with heap:=_}) X ?_);refine Z9 (X1 ?_);unfold Builtin.List.listLengthHint;have k:Shared.TypeIs {s with heap:=(s.heap.push {cls:=.type "list",data:=.seq ([]:List Value).toArray}).push {cls:=.type "set_iterator",data:=.fields #[.int 0 0,.int 0 0,.ref a,.int es.size 0,.int ep 0]}} (.ref a) "set" :=⟨o,Z3 _ (Z3 _ u),j.1⟩;refine Z9 (Tb k F.slot_set_len.lookup ?_);generalize m:("set.__len__" : String)=id0
 wp_delta
 rw[show splitId id0=some ("set","__len__")from by subst m;decide +kernel];subst m;refine Z9 (T3 (b:=true) k sub_set_self ?_);rw[Z6 (by simp)];dsimp only;rw[Z8]
 ·refine Z9 (S6 k (Z7 ?_));rw[Z8]
  ·refine Z9 (T8 ?_);have y:(s.heap.push {cls:=.type "list",data:=.seq ([]:List Value).toArray}).objs.size=s.heap.objs.size+1:=(by rw[O6]);have q:((s.heap.push {cls:=.type "list",data:=.seq ([]:List Value).toArray}).push {cls:=.type "set_iterator",data:=.fields #[.int 0 0,.int 0 0,.ref a,.int es.size 0,.int ep 0]}).get? s.heap.objs.size=some {cls:=.type "list",data:=.seq ([]:List Value).toArray}:=Z3 _ (X9 _ rfl);refine Z9 (show wpAny _ A.in1 (updateSeq s.heap.objs.size (·.push .none) >>= fun _=>updateSeq s.heap.objs.size (·.pop)) _ _ _ from Z9 (M0 q rfl ?_));have p:=U2 (Obj.mapSeq (·.push Value.none)) q rfl;refine M0 p rfl ?_;have G:=U2 (Obj.mapSeq (·.pop)) p rfl;have g:∀b o,b≠s.heap.objs.size->((s.heap.push {cls:=.type "list",data:=.seq ([]:List Value).toArray}).push {cls:=.type "set_iterator",data:=.fields #[.int 0 0,.int 0 0,.ref a,.int es.size 0,.int ep 0]}).get? b=some o->((((s.heap.push {cls:=.type "list",data:=.seq ([]:List Value).toArray}).push {cls:=.type "set_iterator",data:=.fields #[.int 0 0,.int 0 0,.ref a,.int es.size 0,.int ep 0]}).update s.heap.objs.size (Obj.mapSeq (·.push Value.none))).update s.heap.objs.size (Obj.mapSeq (·.pop))).get? b=some o:=
    fun b o J e=>(S4 _ _ (Y8 J)).trans ((S4 _ _ (Y8 J)).trans e)
   have K:s.heap.objs.size≠(s.heap.push {cls:=.type "list",data:=.seq ([]:List Value).toArray}).objs.size:=(by rw[y];exact Y6 (M4 _));have C:a≠(s.heap.push {cls:=.type "list",data:=.seq ([]:List Value).toArray}).objs.size:=(by rw[y];exact Y6 (N9 f));refine Z7 ⟨P9 F.plain_extend_loop _,codeAny_extend_loopS (OS (A:=A.in1) (t:=t) (ep:=ep) (es:=es) (by simpa using hh) C) (by rw[W9];lia) _ (by simp only[G4,N7,E6,not_or];exact⟨K,SB f⟩) _ es.size 0 _ _ _ rfl (Y3 _)
    ⟨⟨0,⟨_,g _ _ (Y8 K) (X9 _ rfl),rfl,rfl⟩,fun _=>LR S.up⟩,S.stay fun o e=>g _ _ (Y6 f) (Z3 _ (Z3 _ e))⟩ G (ItemsOf.nil _) fun I d c' v r c=>?_⟩
   refine(show wpAny _ A (load s.heap.objs.size >>= _) _ _ I from Z9 (wpAny_load r (Z7 ?_)));obtain⟨h',N,W,x,z⟩:=I;have R:N=s.gens:=v.gens;have T:W=s.drawn:=v.drawn;have P:z=s.os:=v.os;subst R;subst T;subst P;refine h h' x d.toList (fun b o e=>v.heap b o ?_ (g b o (Y6 (Z1 e)) (Z3 _ (Z3 _ e)))) (P7 (Z1 r)) ?_
   ·have:=Z1 e;simp only[G4,N7,E6,not_or];exact⟨Y6 this,by rw[y];exact Y6 (N9 this)⟩
   ·have e:d.toList=(oX w a ep es).toList.map (·.2):=by
     have L:(oX w a ep es).size=es.size:=(by rw[<-X2,(nR a ep es).length_eq,X2]);refine B8 fun i=>?_;rw[W8,T5,T5];by_cases hi:i<es.size
     ·have n:i<d.size:=(by rw[c.1];exact hi);obtain⟨e1,e2,V⟩:=c.2 i _ (V7 n);rw[e2,V7 n,<-V];rfl
     ·rw[S8 (by rw[c.1];lia),S8 (by lia)];rfl
    rw[e];exact(nR a ep es).map _
  ·decide +kernel
 ·decide +kernel
end PF
namespace PF
open PySem PySem.W PyProof.Rows
def Tr{α:Type}(lt:Nat->Nat->Bool)(n:Nat):KasT α->(α->Prop)->Prop
 |.ret a,Q=>Q a|.ask i j k,Q=>i<n/\j<n/\Tr lt n (k (lt i j)) Q
variable{α β:Type}{n:Nat}
theorem Tr.bind{lt:Nat->Nat->Bool}{f:α->KasT β}{Q:β->Prop}:∀{t:KasT α},Tr lt n t (fun a=>Tr lt n (f a) Q)->Tr lt n (t.bind f) Q
 |.ret _,h=>h|.ask _ _ _,h=>⟨h.1,h.2.1,Tr.bind h.2.2⟩
theorem Tr.mono{lt:Nat->Nat->Bool}{Q b:α->Prop}(h:∀a,Q a->b a):∀{t:KasT α},Tr lt n t Q->Tr lt n t b
 |.ret _,x=>h _ x|.ask _ _ _,x=>⟨x.1,x.2.1,Tr.mono h x.2.2⟩
theorem Tr.wp{lt:Nat->Nat->Bool}{cmp:Nat->Nat->(Bool->Shared->Prop)->Shared->Prop}{I:Shared->Prop}{Q:α->Shared->Prop}(hc:∀i j C s,i<n->j<n->I s->(∀b,I b->C (lt i j) b)->cmp i j C s) :
  ∀{t:KasT α} {P:α->Prop} {s:Shared},Tr lt n t P->I s->(∀a b,P a->I b->Q a b)->t.kasWp cmp Q s
 |.ret a,P,s,h,hs,hq=>hq a s h hs|.ask i j k,P,s,h,hs,hq=>hc i j _ s h.1 h.2.1 hs fun b c=>Tr.wp hc h.2.2 c hq
structure Lt(lt:Nat->Nat->Bool)(n:Nat):Prop where
 tr:∀i j k,i<n->j<n->k<n->lt i j=true->lt j k=true->lt i k=true
 to:∀i j,i<n->j<n->i≠j->lt i j=true\/lt j i=true
 as:∀i j,i<n->j<n->lt i j=true->lt j i=false
abbrev PR(p:Array Nat)(n:Nat):Prop:=p.toList.Perm (List.range n)
def Sd(lt:Nat->Nat->Bool)(p:Array Nat)(k:Nat):Prop:=∀i j,i<j->j<k->lt (p.getD i 0) (p.getD j 0)=true
theorem PR.size{p:Array Nat}(h:PR p n):p.size=n:=by rw[<-X2,h.length_eq,U7]
variable{i:Nat}
theorem PR.lt{p:Array Nat}(h:PR p n)(hi:i<n):p.getD i 0<n:=by have a:i<p.size:=(by rw[h.size];exact hi);have e:p.getD i 0=p[i]:=(by simp[Array.getD,a]);rw[e];exact List.mem_range.mp (h.mem_iff.mp (by rw[<-D0];exact P0 _))
variable{j:Nat}
theorem PR.ne{p:Array Nat}(h:PR p n)(hi:i<n)(c:j<n)(a:i≠j):p.getD i 0≠p.getD j 0:=fun e=>by have b:i<p.size:=(by rw[h.size];exact hi);have ht:j<p.size:=(by rw[h.size];exact c);have e1:p.getD i 0=p[i]:=(by simp[Array.getD,b]);have e2:p.getD j 0=p[j]:=(by simp[Array.getD,ht]);have nd:p.toList.Nodup:=h.nodup_iff.mpr B3;rw[e1,e2,<-D0,<-D0]at e;exact a ((M3 nd).mp e)
section
variable{lt:Nat->Nat->Bool}(L:Lt lt n)
include L
theorem uA{p:Array Nat}(a:PR p n)(hi:i<n)(c:j<n)(b:i≠j)(h:lt (p.getD i 0) (p.getD j 0)=false):lt (p.getD j 0) (p.getD i 0)=true:=by
 rcases L.to _ _ (a.lt hi) (a.lt c) (a.ne hi c b)with e|e
 ·rw[h]at e;cases e
 ·exact e
theorem Sd.snoc{p:Array Nat}{k:Nat}(a:PR p n)(h:Sd lt p k)(f:0<k)(c:k<n)(e:lt (p.getD (k-1) 0) (p.getD k 0)=true):Sd lt p (k+1):=fun i j b d=>by
 by_cases z:j=k
 ·subst z;by_cases y:i=j-1
  ·subst y;exact e
  ·exact L.tr _ _ _ (a.lt (by lia)) (a.lt (by lia)) (a.lt c) (h i (j-1) (by lia) (by lia)) e
 ·exact h i j b (by lia)
theorem LV{p:Array Nat}(a:PR p n):∀(f m:Nat),0<m->m+f<=n->Sd lt p m->Tr lt n (kas_asc p f m) fun k=>m<=k/\k<=m+f/\Sd lt p k/\(k=m+f\/lt (p.getD k 0) (p.getD (k-1) 0)=true)
 |0,m,h0,hm,h=>⟨Z5 _,Z5 _,h,.inl rfl⟩
 |f+1,m,h0,hm,h=>by
  refine⟨a.lt (by lia),a.lt (by lia),?_⟩;cases c:lt (p.getD m 0) (p.getD (m-1) 0)with
  |true=>exact(show Tr lt n (.ret m) _ from⟨Z5 _,by lia,h,.inr c⟩)
  |false=>refine(show Tr lt n (kas_asc p f (m+1)) _ from(LV a f (m+1) (by lia) (by lia) (Sd.snoc L a h h0 (by lia) (uA L a (by lia) (by lia) (by lia) c))).mono fun k z=>?_);exact⟨by lia,by lia,z.2.2.1,z.2.2.2.imp (fun e=>by lia) id⟩
def Fd(lt:Nat->Nat->Bool)(p:Array Nat)(k:Nat):Prop:=∀i j,i<j->j<k->lt (p.getD j 0) (p.getD i 0)=true
omit L in
theorem tD{p q:Array Nat}(h:p[i]? = q[j]?):p.getD i 0=q.getD j 0:=by rw[zv,zv,h]
omit L in
theorem rev_getD{p:Array Nat}{m:Nat}(a:m<=p.size)(k:Nat):(kas_rev p 0 m).getD k 0=if k<m then p.getD (m-1-k) 0 else p.getD k 0:=by
 have e:=getElem?_mirror_all (xs:=p) (i:=0) a k;rw[show mirror p 0 m ((m-0) / 2)=kas_rev p 0 m from rfl]at e;by_cases h:k<m
 ·rw[Z8 ⟨Y3 _,h⟩,show 0+m-1-k=m-1-k by lia]at e;rw[Z8 h];exact tD e
 ·rw[Z6 (fun z=>h z.2)]at e;rw[Z6 h];exact tD e
omit L in
theorem UL{p:Array Nat}{m:Nat}(a:PR p n):PR (kas_rev p 0 m) n:=(Array.perm_iff_toList_perm.mp (mirror_perm p 0 m _)).trans a
omit L in
theorem Ia{p:Array Nat}{m:Nat}(a:PR p n)(b:m<=n)(h:Fd lt p m):Sd lt (kas_rev p 0 m) m:=fun i j d c=>by rw[rev_getD (by rw[a.size];exact b),rev_getD (by rw[a.size];exact b),Z8 (by lia),Z8 c];exact h _ _ (by lia) (by lia)
theorem Fd.snoc{p:Array Nat}{k:Nat}(a:PR p n)(h:Fd lt p k)(f:0<k)(c:k<n)(e:lt (p.getD k 0) (p.getD (k-1) 0)=true):Fd lt p (k+1):=fun i j b d=>by
 by_cases z:j=k
 ·subst z;by_cases y:i=j-1
  ·subst y;exact e
  ·exact L.tr _ _ _ (a.lt c) (a.lt (by lia)) (a.lt (by lia)) e (h i (j-1) (by lia) (by lia))
 ·exact h i j b (by lia)
theorem NU{p:Array Nat}(a:PR p n):∀(f m:Nat),0<m->m+f<=n->Fd lt p m->Tr lt n (kas_desc f p m 0) fun r=>r.1=p/\r.2.2=0/\m<=r.2.1/\r.2.1<=m+f/\Fd lt p r.2.1
 |0,m,h0,hm,h=>⟨rfl,rfl,Z5 _,Z5 _,h⟩
 |f+1,m,h0,hm,h=>by
  refine⟨a.lt (by lia),a.lt (by lia),?_⟩;cases c:lt (p.getD m 0) (p.getD (m-1) 0)with
  |true=>refine(show Tr lt n (kas_desc f p (m+1) 0) _ from(NU a f (m+1) (by lia) (by lia) (Fd.snoc L a h h0 (by lia) c)).mono fun k z=>?_);exact⟨z.1,z.2.1,by lia,by lia,z.2.2.2.2⟩
  |false=>refine(show Tr lt n (.ask (p.getD (m-1) 0) (p.getD m 0) fun d=>if d=true then .ret (p,m,0)else kas_desc f p (m+1) (0+1)) _ from⟨a.lt (by lia),a.lt (by lia),?_⟩);rw[uA L a (by lia) (by lia) (by lia) c];exact⟨rfl,rfl,Z5 _,by show m<=m+(f+1);lia,h⟩
theorem TM{p:Array Nat}{m:Nat}(a:PR p n)(c:0<m)(b:m<=n)(h:Fd lt p m):Tr lt n (kas_tail3 m n p) fun r=>0<r.1/\r.1<=n/\PR r.2 n/\Sd lt r.2 r.1:=
 Tr.bind ((LV L (UL a) (n-m) m c (by lia) (Ia a b h)).mono fun k z=>⟨by show 0<k;lia,by show k<=n;lia,UL a,z.2.2.1⟩)
theorem YG{p:Array Nat}(e:PR p n)(f:2<=n):Tr lt n (kas_count n p) fun r=>0<r.1/\r.1<=n/\PR r.2 n/\Sd lt r.2 r.1:=by
 refine Tr.bind ((LV L e (n-1) 1 (by lia) (by lia) fun i j h f=>by lia).mono fun k ⟨a,b,c,d⟩=>?_);by_cases e1:(k==n)=true
 ·rw[Z8 e1];exact⟨by show 0<k;lia,by show k<=n;lia,e,c⟩
 ·rw[Z6 e1];have m:k≠n:=fun z=>e1 (by rw[z];simp);by_cases e2:k>1
  ·rw[Z8 e2];refine⟨e.lt (by lia),e.lt (by lia),?_⟩;rw[c 0 (k-1) (by lia) (by lia)];exact⟨by show 0<k;lia,by show k<=n;lia,e,c⟩
  ·rw[Z6 e2];have g:k=1:=(by lia);subst g;have l:lt (p.getD 1 0) (p.getD 0 0)=true:=by
    rcases d with z|z
    ·lia
    ·exact z
   refine Tr.bind ((NU L e (n-(1+1)) (1+1) (by lia) (by lia) fun i j h f=>?_).mono fun r ⟨r1,r2,r3,r4,r5⟩=>?_)
   ·have:i=0/\j=1:=(by lia);rw[this.1,this.2];exact l
   ·rw[Z6 (by lia),r1];exact TM L e (by lia) (by lia) r5
theorem xF{p:Array Nat}{k:Nat}(a:PR p n)(b:k<n)(h:Sd lt p k):∀(f l r:Nat),r-l<=f->l<=r->r<=k->(∀i,i<l->lt (p.getD i 0) (p.getD k 0)=true)->(∀i,r<=i->i<k->lt (p.getD k 0) (p.getD i 0)=true)->
  Tr lt n (kas_place p k f l r) fun m=>m<=k/\(∀i,i<m->lt (p.getD i 0) (p.getD k 0)=true)/\∀i,m<=i->i<k->lt (p.getD k 0) (p.getD i 0)=true
 |0,l,r,h1,h2,h3,h4,h5=>by have e:l=r:=(by lia);subst e;exact⟨h3,h4,h5⟩
 |f+1,l,r,h1,h2,h3,h4,h5=>by
  unfold kas_place;by_cases e:l≥r
  ·rw[Z8 e];have e:l=r:=(by lia);subst e;exact⟨h3,h4,h5⟩
  ·rw[Z6 e];refine⟨a.lt b,a.lt (by lia),?_⟩;cases c:lt (p.getD k 0) (p.getD ((l+r) / 2) 0)with
   |true=>
    refine(show Tr lt n (kas_place p k f l ((l+r) / 2)) _ from xF a b h f _ _ (by lia) (by lia) (by lia) h4 fun i hi d=>?_);by_cases z:i=(l+r) / 2
    ·rw[z];exact c
    ·exact L.tr _ _ _ (a.lt b) (a.lt (by lia)) (a.lt (by lia)) c (h _ i (by lia) d)
   |false=>
    have g:=uA L a b (show(l+r) / 2<n by lia) (by lia) c;refine(show Tr lt n (kas_place p k f ((l+r) / 2+1) r) _ from xF a b h f _ _ (by lia) (by lia) h3 (fun i hi=>?_) h5);by_cases z:i=(l+r) / 2
    ·rw[z];exact g
    ·exact L.tr _ _ _ (a.lt (by lia)) (a.lt (by lia)) (a.lt b) (h i _ (by lia) (by lia)) g
theorem YR:∀(f:Nat) (p:Array Nat) (k:Nat),PR p n->0<k->k+f=n->Sd lt p k->Tr lt n (kas_bin f p k) fun r=>PR r n/\Sd lt r n
 |0,p,k,hp,h0,hk,h=>by have e:k=n:=(by lia);subst e;exact⟨hp,h⟩
 |f+1,p,k,hp,h0,hk,h=>by
  refine Tr.bind ((xF L hp (by lia) h k 0 k (by lia) (by lia) (by lia) (fun i hi=>absurd hi (J7 _)) fun i v u=>by lia).mono fun m ⟨a,b,c⟩=>?_);refine YR f _ (k+1) ((Array.perm_iff_toList_perm.mp (bubble_perm p k _)).trans hp) (by lia) (by lia) ?_;have s:∀i,(bubble p k (k-m)).getD i 0=if i=m then p.getD k 0 else if m<i/\i<=k then p.getD (i-1) 0 else p.getD i 0:=fun i=>by
   have e:=getElem?_bubble (xs:=p) (src:=k) (by rw[hp.size];lia) (k-m) (by lia) i;rw[show k-(k-m)=m by lia]at e;by_cases z:i=m
   ·rw[Z8 z]at e ⊢;exact tD e
   ·rw[Z6 z]at e ⊢;by_cases y:m<i/\i<=k
    ·rw[Z8 y]at e ⊢;exact tD e
    ·rw[Z6 y]at e ⊢;exact tD e
  intro i j d t;rw[s,s];by_cases l:i=m
  ·rw[Z8 l,Z6 (by lia),Z8 (by lia)];exact c _ (by lia) (by lia)
  ·rw[Z6 l];by_cases g:j=m
   ·rw[Z8 g,Z6 (by lia)];exact b i (by lia)
   ·rw[Z6 g];by_cases q:m<i/\i<=k
    ·rw[Z8 q,Z8 (by lia)];exact h _ _ (by lia) (by lia)
    ·rw[Z6 q];by_cases o:m<j/\j<=k
     ·rw[Z8 o];exact h _ _ (by lia) (by lia)
     ·rw[Z6 o];exact h _ _ d (by lia)
theorem MJ(f:2<=n):Tr lt n (kas_sort n) fun p=>PR p n/\Sd lt p n:=by
 refine Tr.bind ((YG L (p:=(List.range n).toArray) (.refl _) f).mono fun r ⟨a,b,c,d⟩=>?_);by_cases e:r.1<n
 ·rw[Z8 e];refine YR L _ _ _ c (by lia) (by lia) ?_;rw[Nat.max_eq_left (by lia)];exact d
 ·rw[Z6 e];have:r.1=n:=(by lia);rw[this]at d;exact⟨c,d⟩
end
end PF
namespace PF
open PySem PySem.Spec L2
open PyProof.Rows hiding St
noncomputable def vR:List Int->List Int->Bool
 |[],[]=>false|[],_::_=>true|_::_,[]=>false|a::l,b::m=>if a=b then vR l m else decide (a<b)
theorem CS:∀l,vR l l=false
 |[]=>rfl|a::l=>by unfold vR;rw[Z8 rfl];exact CS l
theorem WJ:∀l m,vR l m=true->vR m l=false
 |[],[],h=>nomatch h|[],_::_,_=>rfl|_::_,[],h=>nomatch h
 |a::l,b::m,h=>by
  unfold vR at h ⊢;by_cases e:a=b
  ·rw[Z8 e]at h;rw[Z8 e.symm];exact WJ l m h
  ·rw[Z6 e]at h;rw[Z6 (Y8 e)];have c:=of_decide_eq_true h;exact decide_eq_false (by omega)
theorem WI:∀l m,l≠m->vR l m=true\/vR m l=true
 |[],[],h=>absurd rfl h|[],_::_,_=>.inl rfl|_::_,[],_=>.inr rfl
 |a::l,b::m,h=>by
  unfold vR;by_cases e:a=b
  ·rw[Z8 e,Z8 e.symm];exact WI l m fun z=>h (by rw[e,z])
  ·rw[Z6 e,Z6 (Y8 e)];rcases Int.lt_or_gt_of_ne e with z|z
   ·exact .inl (decide_eq_true z)
   ·exact .inr (decide_eq_true z)
theorem WH:∀l m k,vR l m=true->vR m k=true->vR l k=true
 |[],m,[],h1,h2=>by cases m<;>simp[vR]at h1 h2
 |[],_,_::_,_,_=>rfl|_::_,[],_,h1,_=>nomatch h1|_::_,_::_,[],_,h2=>nomatch h2
 |a::l,b::m,c::k,h1,h2=>by
  unfold vR at h1 h2 ⊢;by_cases e:a=b
  ·by_cases e2:b=c
   ·rw[Z8 e]at h1;rw[Z8 e2]at h2;rw[Z8 (e.trans e2)];exact WH l m k h1 h2
   ·rw[Z6 e2]at h2;rw[e,Z6 e2];exact h2
  ·rw[Z6 e]at h1;have f:=of_decide_eq_true h1;by_cases e2:b=c
   ·rw[<-e2,Z6 e];exact h1
   ·rw[Z6 e2]at h2;have d:=of_decide_eq_true h2;rw[Z6 (by omega)];exact decide_eq_true (by omega)
def pF(x y:PK):Bool:=if x.1=y.1 then vR x.2 y.2 else decide (x.1<y.1)
theorem KS(x y:PK)(h:pF x y=true):pF y x=false:=WJ (x.1::x.2) (y.1::y.2) h
theorem KQ(x y z:PK)(h:pF x y=true)(a:pF y z=true):pF x z=true:=WH (x.1::x.2) (y.1::y.2) (z.1::z.2) h a
theorem KR(x y:PK)(h:x≠y):pF x y=true\/pF y x=true:=WI (x.1::x.2) (y.1::y.2) fun z=>h (by injection z with z1 z2;exact L5 z1 z2)
variable{prog:Program}{w:World}{A:Around}{E Q:Value->Shared->Prop}{s:Shared}{a b:Addr}
theorem Cq:∀{x y:List Int} {xs ys:List Value} {a b:Addr} {P:Fin->Shared->Prop} {J ob:Obj} {na R:Nat},s.heap.get? a=some J->J.data=.seq xs.toArray na->s.heap.get? b=some ob->ob.cls=.type "tuple" ->ob.data=.seq ys.toArray R->
  PySem.ItemsAre (intKind prog w) x xs->PySem.ItemsAre (intKind prog w) y ys->P (.done (.ret (.bool (vR x y)))) s->wpAny (model prog w) A (Builtin.«tuple.__lt__» ⟨[.ref a,.ref b],[]⟩) P E s:=by
 intro x y xs ys a b P J ob na R L N D Q M hx hy h;refine(show wpAny _ _ (isInstance (.ref b) (.type "tuple") >>= _) _ _ s from Z9 (T3 (T:="tuple") ⟨_,D,Q⟩ K4 ?_));simp only[V6,Y2,Y5];refine Z9 (M6 L N (Z9 (M6 D M (Z9 ?_))));refine N4 _ (fun j r H=>r.1=none/\H=s/\∃G F f d,j=List.zip f d/\PySem.ItemsAre (intKind prog w) G f/\PySem.ItemsAre (intKind prog w) F d/\vR G F=vR x y/\(xs.length<ys.length↔f.length<d.length))
  _ ?_ ?_ _ _ ⟨rfl,rfl,x,y,xs,ys,by simp,hx,hy,rfl,Iff.rfl⟩
 ·rintro⟨u,v⟩ j r H ⟨K,rfl,G,F,f,d,p,m,i,c,g⟩;cases m with
  |nil=>simp at p
  |@cons o u' l t V C=>
   cases i with
   |nil=>simp at p
   |@cons n v' k q S z=>
    simp only[List.zip_cons_cons,List.cons.injEq,Prod.mk.injEq]at p;obtain⟨⟨rfl,rfl⟩,rfl⟩:=p;obtain⟨X,rfl⟩:=J8 V;obtain⟨W,rfl⟩:=J8 S;refine Z9 ((intKind prog w).eqBool (a:=o) (b:=n) V S ?_);rw[show vR (o::l) (n::k)=if o=n then vR l k else decide (o<n)from rfl]at c;by_cases I:o=n
    ·rw[Z8 I]at c;rw[decide_eq_true I];simp only[V6,Y2,Y5];exact Z7 ⟨rfl,rfl,l,k,t,q,rfl,C,z,c,by simpa using g⟩
    ·rw[Z6 I]at c;rw[decide_eq_false I];simp only[G9,V0];refine Z9 (T8 (Z9 (show wpAny _ _ (compareOp .Lt (.int o X) (.int n W)) _ _ _ from lt_int ?_)));rw[c];exact Z9 (Z7 (Z7 (Z7 h)))
 ·rintro⟨r1,r2⟩ H ⟨K,rfl,G,F,f,d,p,m,i,c,g⟩;simp only at K;subst K;refine Z7 ?_;have e:decide (xs.toArray.size<ys.toArray.size)=vR x y:=by
   rw[<-c,Y7,Y7];rw[Bool.eq_iff_iff,U5,g];cases m with
   |nil=>
    cases i with
    |nil=>simp[vR]|cons _ _=>simp[vR]
   |cons _ _=>
    cases i with
    |nil=>simp[vR]|cons _ _=>simp at p
  show P (.done (.ret (.bool (decide (xs.toArray.size<ys.toArray.size))))) H;rw[e];exact h
theorem Hi{x y:List Int}(p:A.units<cLine)(o:IsTupleKey (intKind prog w) s.heap x a)(n:IsTupleKey (intKind prog w) s.heap y b)(h:Q (.bool (vR x y)) s):wpAny (model prog w) A (compareOp .Lt (.ref a) (.ref b)) Q E s:=by have c:=o.typeIs;have m:=n.typeIs;obtain⟨q,xs,na,f,_,k,i⟩:=o;obtain⟨ob,ys,r,d,l,j,g⟩:=n;refine(show wpAny _ _ (richCompare .Lt (.ref a) (.ref b)) Q E s from E4 (op:=.Lt) c m F.slot_tuple_lt (W1 F.slot_tuple_lt c F.entry_tuple_lt ?_ (F.args_tuple_lt_2 _ _)) p);exact Cq (xs:=xs.toList) (ys:=ys.toList) f (by simpa using k) d l (by simpa using j) i g ⟨_,rfl,(fun e=>nomatch e),h⟩
theorem Gh{x y:PK}{Q:Bool->Shared->Prop}(t:A.units+9<cLine)(p:gJ prog w s.heap x a)(o:gJ prog w s.heap y b)(h:Q (pF x y) s):wpAny (model prog w) A (keyLt' (tuples' true) (.ref a) (.ref b)) Q (fun _ _=>False) s:=by
 obtain⟨q,l,n,na,g,_,j,d⟩:=p;obtain⟨ob,k,m,r,f,_,i,c⟩:=o;refine PySem.W.kat_lt g j f i (show PySem.W.KatLex prog w A true _ Q [(Value.int x.1 l,Value.int y.1 k),(Value.ref n,Value.ref m)] 0 s from PySem.W.kat_cons ((intKind prog w).eqBool (a:=x.1) (b:=y.1) (P6 _ _ _ _) (P6 _ _ _ _) ?_));unfold pF at h;by_cases e:x.1=y.1
 ·rw[Z8 e]at h;rw[decide_eq_true e];refine PySem.W.kat_yes (PySem.W.kat_cons (wpAny_eqBool_tuple (knd:=intKind prog w) (by omega) d c ?_));by_cases e2:x.2=y.2
  ·rw[decide_eq_true e2];refine PySem.W.kat_yes (PySem.W.kat_nil ?_);rw[e2,CS]at h;exact h
  ·rw[decide_eq_false e2];exact PySem.W.kat_no (PySem.W.kat_one _ _ (Hi (by omega) d c h))
 ·rw[Z6 e]at h;rw[decide_eq_false e];exact PySem.W.kat_no (oneLt_int h)
variable{i n:Nat}{α:Type}{h:Heap}
theorem Cr(x:PK):pF x x=false:=CS (x.1::x.2)
abbrev kd:PK:=(0,[])
theorem Qe{ks:List PK}(a:ks.Nodup):Lt (fun i j=>pF (ks.getD i kd) (ks.getD j kd)) ks.length where
 tr:=fun i j k _ _ _=>KQ _ _ _
 as:=fun i j _ _=>KS _ _
 to:=fun i j hi c b=>KR _ _ fun e=>b (by rw[S9,S9,Y1 hi,Y1 c]at e;exact(M3 a).mp e)
theorem jL{F:PK->Value->Prop}{ks:List PK}{a:List Value}(h:Paired F ks a)(hi:i<a.length):F (ks.getD i kd) (a.getD i Value.none):=by obtain⟨q,c,b⟩:=nY h (Y1 hi);rw[S9,S9,c,Y1 hi];exact b
theorem xK{F:PK->Value->Prop}{f:Nat->PK}{g:Nat->Value}:∀{l:List Nat},(∀i∈l,F (f i) (g i))->Paired F (l.map f) (l.map g)
 |[],_=>.nil|a::l,h=>.cons (h a X7) (xK fun i hi=>h i (X5 _ hi))
theorem mK{d:α}{l:List α}{p:List Nat}(a:p.Perm (List.range l.length)):(p.map fun i=>l.getD i d).Perm l:=by
 refine(a.map _).trans (.of_eq (B8 fun i=>?_));rw[W8];by_cases h:i<l.length
 ·rw[Y1 (by rw[U7];exact h),On,Option.map_some,S9,Y1 h];rfl
 ·rw[O1 (by rw[U7];lia),O1 (by lia)];rfl
theorem Ge{lt:Nat->Nat->Bool}{p:Array Nat}{f:Nat->PK}(c:p.size=n)(h:∀i j,i<j->j<n->pF (f (p.getD i 0)) (f (p.getD j 0))=true):(p.toList.map f).Pairwise fun x y=>pF x y=true:=by rw[List.pairwise_iff_getElem];intro i j hi b a;rw[Y9,X2]at hi b;have e1:p.getD i 0=p[i]:=(by simp[Array.getD,hi]);have e2:p.getD j 0=p[j]:=(by simp[Array.getD,b]);have:=h i j a (by lia);rw[e1,e2]at this;simpa using this
theorem uS:∀{ks:List PK} {f:List Value},YT prog w h ks f->∃d,PySem.W.KatTups h f d/\d.length=f.length/\∀v∈d,∃i t,v=Value.int i t
 |_,_,.nil=>⟨[],PySem.W.KatTups.nil,rfl,fun v a=>nomatch a⟩
 |k::_,_,.cons ⟨b,e,o,t,c,m,ho,hc,hd,_⟩ r=>by
  obtain⟨d,l,j,g⟩:=uS r;subst e;refine⟨.int k.1 t::d,PySem.W.KatTups.cons ho hc hd rfl l,by simp[j],fun v a=>?_⟩;rcases G4.mp a with rfl|a
  ·exact⟨_,_,rfl⟩
  ·exact g v a
theorem An{d:List Value}{ks:List PK}{P:Fin->Shared->Prop}(N:s.heap.get? a=some (seqObj "list" d.toArray n))(hI:YT prog w s.heap ks d)(X:ks.Nodup)(a5:d.length<64)(hu:A.units+9<cLine)(h:∀h' c g k,(∀b o,b≠a->s.heap.get? b=some o->h'.get? b=some o)->h'.get? a=some (seqObj "list" g.toArray c)->YT prog w h' k g->k.Perm ks->g.Perm d->k.Pairwise (fun x y=>pF x y=true)->P (.done (.ret .none)) {s with heap:=h'}) :
  wpAny (model prog w) A (Builtin.«list.sort» ⟨[.ref a],[]⟩) P E s:=by
 have ha:a<s.heap.objs.size:=Z1 N;have u:ks.length=d.length:=fZ hI;have s1:=V2 s.heap a (Obj.mapSeq fun _=>(#[]:Array Value));obtain⟨e1,M⟩:∃e1,(s.heap.update a (Obj.mapSeq fun _=>(#[]:Array Value))).get? a=some (seqObj "list" #[] e1):=⟨_,N1 N fun _=>#[]⟩;have keep:∀b o,b≠a->s.heap.get? b=some o->(((s.heap.update a (Obj.mapSeq fun _=>(#[]:Array Value))).push (seqObj "tuple" d.toArray 0)).push (seqObj "list" #[] 0)).get? b=some o:=fun b o R e=>Z3 _ (Z3 _ ((s1.2 b R).trans e));have na:∀{b:Addr} {o:Obj},s.heap.get? b=some o->o.cls=.type "tuple" ->b≠a:=fun{b o} e hc z=>(by subst z;rw[N]at e;cases e;injection hc with hc;exact absurd hc (by decide));have m:(((s.heap.update a (Obj.mapSeq fun _=>(#[]:Array Value))).push (seqObj "tuple" d.toArray 0)).push (seqObj "list" #[] 0)).get? a=some (seqObj "list" #[] e1):=Z3 _ (Z3 _ M);have D:YT prog w (((s.heap.update a (Obj.mapSeq fun _=>(#[]:Array Value))).push (seqObj "tuple" d.toArray 0)).push (seqObj "list" #[] 0)) ks d:=Paired.mapP hI fun q v ⟨b,L,K⟩=>⟨b,L,K.stay fun b o e hc=>keep b o (na e hc) e⟩;rw[list_sort_plain];refine Z9 (listItems_at N rfl (Z9 (O3 N rfl ?_ (by rw[Y7,W9];lia) (Y3 _))));refine Z9 (L4 M rfl (Z9 (zx ?_ (by show d.length<=_;rw[W9];lia))));refine Z9 (GE (X1 ?_) (Y3 _));show wpAny (model prog w) A _ P E {s with heap:=((s.heap.update a (Obj.mapSeq fun _=>(#[]:Array Value))).push (seqObj "tuple" d.toArray 0)).push (seqObj "list" #[] 0)};dsimp only;have H:∀(g:List Value) (k:List PK),g.Perm d->k.Perm ks->YT prog w (((s.heap.update a (Obj.mapSeq fun _=>(#[]:Array Value))).push (seqObj "tuple" d.toArray 0)).push (seqObj "list" #[] 0)) k g->k.Pairwise (fun x y=>pF x y=true)->
   P (.done (.ret .none)) {s with heap:=(((s.heap.update a (Obj.mapSeq fun _=>(#[]:Array Value))).push (seqObj "tuple" d.toArray 0)).push (seqObj "list" #[] 0)).update a (Obj.mapSeq fun _=>g.toArray)}:=fun g k p1 p2 a1 V=>by
  have s2:=V2 (((s.heap.update a (Obj.mapSeq fun _=>(#[]:Array Value))).push (seqObj "tuple" d.toArray 0)).push (seqObj "list" #[] 0)) a (Obj.mapSeq fun _=>g.toArray);refine h _ _ g k (fun b o R e=>(s2.2 b R).trans (keep b o R e)) (N1 m fun _=>g.toArray) (Paired.mapP a1 fun q v ⟨b,L,K⟩=>⟨b,L,K.stay fun b o e hc=>(s2.2 b fun z=>?_).trans e⟩) p2 p1 V;subst z;rw[m]at e;cases e;injection hc with hc;exact absurd hc (by decide)
 by_cases J:d.toArray.size<2
 ·rw[Z8 J,Z8 J];rw[Y7]at J;refine Z9 (Z7 ?_);rw[StateT.run_pure];refine Z9 (Z7 ?_);dsimp only;refine Z9 (L4 m rfl ?_);have eo:Array.map (fun x=>x.snd) (arrOf (SortSt.mk' general' (d.toArray.zip d.toArray) #[] 7 none))=d.toArray:=by
   show Array.map (fun x=>x.snd) (d.toArray.zip d.toArray)=d.toArray;apply Array.toList_inj.mp;simp[List.map_snd_zip]
  rw[eo];refine Z9 (O3 m rfl ?_ (Y3 _) (by rw[Y7,W9];lia));simp only[C6,Y2,Y5];refine Z7 (H d ks (.refl _) (.refl _) D ?_)
  match ks,u with
  |[],_=>exact .nil|[x],_=>exact D9 _ _|x::y::l,e=>simp at e;lia
 ·rw[Z6 J,Z6 J];rw[Y7]at J;obtain⟨fs,t1,t2,t3⟩:=uS D;refine Z9 (PySem.W.kat_kind (T:=.type "int") t1 (by lia) (fun v hv=>by obtain⟨i,t,rfl⟩:=t3 v hv;exact zg rfl) (by decide) ?_);rw[show(Value.type "int" != Value.type "tuple")=true by decide];have run:=(MJ (Qe X) (by lia)).wp (cmp:=PySem.W.kas_ask prog w A (tuples' true) d) (I:=fun G=>G={s with heap:=((s.heap.update a (Obj.mapSeq fun _=>(#[]:Array Value))).push (seqObj "tuple" d.toArray 0)).push (seqObj "list" #[] 0)})
   (Q:=fun p G=>(PR p ks.length/\Sd (fun i j=>pF (ks.getD i kd) (ks.getD j kd)) p ks.length)/\G={s with heap:=((s.heap.update a (Obj.mapSeq fun _=>(#[]:Array Value))).push (seqObj "tuple" d.toArray 0)).push (seqObj "list" #[] 0)})
   (fun i j C G hi hj es hC=>by subst es;obtain⟨b1,L,K⟩:=jL D (i:=i) (by lia);obtain⟨b2,z3,z4⟩:=jL D (i:=j) (by lia);show wpAny (model prog w) A (keyLt' (tuples' true) (d.getD i Value.none) (d.getD j Value.none)) C (fun _ _=>False) _;rw[L,z3];exact Gh hu K z4 (hC _ rfl)) rfl (fun p G hp hs=>⟨hp,hs⟩)
  rw[u]at run;refine Z9 (W0 (PySem.W.kat_run (E:=E) (Q:=fun F G=>∃p:Array Nat,arrOf F=p.map (PySem.W.kas_item (d.toArray.zip d.toArray))/\failedOf F=none/\(PR p d.length/\Sd (fun i j=>pF (ks.getD i kd) (ks.getD j kd)) p d.length)/\G={s with heap:=((s.heap.update a (Obj.mapSeq fun _=>(#[]:Array Value))).push (seqObj "tuple" d.toArray 0)).push (seqObj "list" #[] 0)})
   rfl (by lia) a5 (fun p F G _ a2 a3 a4=>⟨p,a2,a3,a4.1,a4.2⟩) run) ?_ fun _ _ e=>e)
  rintro⟨⟨⟩,F⟩ G ⟨p,a0,hf,⟨r,S⟩,rfl⟩;dsimp only;refine Z9 (L4 m rfl ?_);rw[PySem.W.kat_snds rfl a0];have W:(p.toList.map fun i=>d.getD i Value.none).length=d.length:=(by rw[Y9,X2,r.size]);refine Z9 (O3 m rfl ?_ (Y3 _) (by rw[Y7,W,W9];lia));rw[hf];simp only[C6,Y2,Y5];refine Z7 (H _ (p.toList.map fun i=>ks.getD i kd) (mK r) (mK (by rw[u];exact r)) (xK fun i hi=>jL D (List.mem_range.mp (r.mem_iff.mp hi))) ?_);exact Ge (lt:=fun _ _=>true) (f:=fun i=>ks.getD i kd) r.size S
variable{X:Cx}{U:List (Addr×Obj)}{Z:St}{H:Hp}{K:Z4}{y:V}{u:Value}{h':Heap}
def KV(K:Z4)(H:Hp)(k:PK)(y:V):Prop:=∃b c,y=V.ref b/\cA K H b [.int k.1,.ref c]/\cA K H c (k.2.map V.int)
theorem KV.same{F:Hp}(e:bR F H){k:PK}(h:KV K F k y):KV K H k y:=let ⟨b,c,f,d,a⟩:=h;⟨b,c,f,cA.same e d,cA.same e a⟩
theorem xV:∀{l:List Int} {a:List Value},bD (l.map V.int) a->PySem.ItemsAre (intKind X.prog X.w) l a
 |[],a,h=>by cases h;exact .nil
 |i::l,a,h=>by
  cases h with
  |cons r t=>obtain⟨tk,rfl⟩:=r;exact .cons (P6 _ _ _ _) (xV t)
theorem KV.pk(I:Inv X U Z H s){k:PK}(h:KV X.K H k y)(r:RelV y u):∃b,u=.ref b/\y=V.ref b/\gJ X.prog X.w s.heap k b:=by
 obtain⟨b,c,rfl,x,w⟩:=h;obtain rfl:u=.ref b:=r;obtain⟨t,l,⟨o,v,hc,n,hd⟩,_⟩:=I.tuple x;obtain⟨a,j,⟨q,d,f,n2,e⟩,_⟩:=I.tuple w;cases l with
 |cons p i=>
  obtain⟨tk,rfl⟩:=p;cases i with
  |cons m g=>obtain rfl:_=Value.ref c:=m;cases g;exact⟨b,rfl,rfl,o,tk,c,n,v,hc,hd,q,a.toArray,n2,d,f,e,by simpa using xV j⟩
theorem KV.pks(I:Inv X U Z H s):∀{ks:List PK} {a:List V} {us:List Value},Paired (KV X.K H) ks a->bD a us->YT X.prog X.w s.heap ks us
 |_,_,_,.nil,r=>by cases r;exact .nil
 |_,_,_,.cons h t,r=>by
  cases r with
  |cons d c=>obtain⟨b,e,_,f⟩:=h.pk I d;exact .cons ⟨b,e,f⟩ (KV.pks I t c)
theorem KV.mem:∀{K:Z4} {H:Hp} {ks:List PK} {a:List V} {us:List Value} {v:Value},Paired (KV K H) ks a->bD a us->v∈us->∃k y,KV K H k y/\RelV y v
 |_,_,_,_,_,_,.nil,r,h=>by cases r;cases h
 |_,_,_,_,_,v,.cons x t,r,h=>by
  cases r with
  |cons c b=>
   rcases G4.mp h with rfl|h
   ·exact⟨_,_,x,c⟩
   ·exact KV.mem t b h
theorem KV.back{P:Value->Prop}(a:∀v,P v->∃k b,v=Value.ref b/\KV X.K H k (.ref b)/\gJ X.prog X.w h' k b):∀{ks:List PK} {l:List (Int×Value)},Paired (SG X.prog X.w P h') ks l->∃bs:List Addr,l.map (·.2)=bs.map Value.ref/\Paired (KV X.K H) ks (bs.map V.ref)
 |_,_,.nil=>⟨[],rfl,.nil⟩
 |_,_,.cons ⟨⟨_,m⟩,b,e,hb⟩ t=>by obtain⟨bs,e1,e2⟩:=KV.back a t;obtain⟨h,g,c,f,d⟩:=a _ m;rw[e]at c;obtain rfl:b=g:=(by injection c);obtain rfl:=hb.inj d;exact⟨b::bs,by rw[Y4,Y4,e,e1],.cons f e2⟩
theorem KV.back2:∀{ks:List PK} {a:List Value},(∀v,v∈a->∃k b,v=Value.ref b/\KV X.K H k (.ref b)/\gJ X.prog X.w h' k b)->YT X.prog X.w h' ks a->∃bs:List Addr,a=bs.map Value.ref/\Paired (KV X.K H) ks (bs.map V.ref)
 |_,_,_,.nil=>⟨[],rfl,.nil⟩
 |_,_,hP,.cons ⟨b,e,hb⟩ t=>by obtain⟨bs,e1,e2⟩:=KV.back2 (fun v d=>hP v (X5 _ d)) t;obtain⟨i,h,c,g,f⟩:=hP _ X7;rw[e]at c;obtain rfl:b=h:=(by injection c);obtain rfl:=hb.inj f;exact⟨b::bs,by rw[Y4,e,e1],.cons g e2⟩
abbrev Wm(X:Cx):List V->Hp->VK->Prop:=fun xs H Q=>∃(p:Addr) (ys:List V) (ks:List PK) (F:Hp),xs=[V.ref p]/\iA X.K H p ys/\bR F H/\Paired (KV X.K F) ks ys/\ks.Nodup/\ks.length<=18/\
 ∀(q:Addr) (es:Array (Int×Value)) (ep:Nat) (t:SetTable) (bs:List Addr) (ks':List PK),H q=none->es.toList.map (·.2)=bs.map Value.ref->Paired (KV X.K F) ks' (bs.map V.ref)->ks'.Perm ks->es.size<=18->Q (.ref q) (cL H q (.ext fun h=>sE X.prog X.w h q es ep t))
theorem II(hh:X.A.handled=none)(S:X.A.units+30<cLine):iB X (.type "set") (Wm X):=by
 intro U s Z H xs us Q I r h;obtain⟨p,ys,ks,F,rfl,T,sm,J,m,P,q⟩:=h;obtain⟨u,rfl,L⟩:=vals1 r;cases L;obtain⟨N,E,pl,hl⟩:=I.list T;have l:=KV.pks I (Paired.mapP J fun _ _ z=>z.same sm) E;refine FP hh pl.isList (by simpa using l) m P S fun h' tk f hS V kp=>?_;obtain⟨o,d,D,t,G,w,hd,hE,i,A,j,n,g,W⟩:=hS.ex;have I1:Inv X U Z H {s with heap:=h',toks:=tk}:=I.kept (t':=tk) kp;have c:t.fits d.size=true:=by unfold SetTable.fits SetTable.fill;rw[A,i];simp only[B4,G1,U5];show d.size+0<=t.mask;lia
 have C:sE X.prog X.w h' s.heap.objs.size d D t:=⟨⟨o,G,w,hd⟩,c,j,n,g⟩;obtain⟨bs,e1,e2⟩:=KV.back (X:=X) (H:=F) (h':=h') (fun v R=>by obtain⟨M,y,K,h2⟩:=KV.mem J E (by simpa using R);obtain⟨b,h3,h4,h5⟩:=(K.same sm).pk I h2;subst h4;exact⟨M,b,h3,K,h5.stay fun b o e _=>kp b o e⟩) hE;have I2:Inv X U Z (cL H s.heap.objs.size (.ext fun h=>sE X.prog X.w h s.heap.objs.size d D t)) {s with heap:=h',toks:=tk}:=
  I.laid (t':=tk) kp (Z5 _) (show cD X.prog X.w _ _ _ (.ext _)from⟨C,⟨o,G⟩,fun a b x k=>x.stay k⟩)
 refine⟨.ref s.heap.objs.size,_,I2,rfl,q _ d D t bs f (I.hok.fresh (Z5 _)) e1 e2 V ?_⟩;lia
abbrev Bb(X:Cx):List V->Hp->VK->Prop:=fun xs H Q=>∃(q:Addr) (es:Array (Int×Value)) (ep:Nat) (t:SetTable) (bs:List Addr) (ks:List PK) (F:Hp),xs=[V.ref q]/\bR F H/\H q=some (.ext fun h=>sE X.prog X.w h q es ep t)/\es.toList.map (·.2)=bs.map Value.ref/\Paired (KV X.K F) ks (bs.map V.ref)/\ks.Nodup/\es.size<=18/\
 ∀(l:Addr) (bs':List Addr) (ks':List PK),H l=none->Paired (KV X.K F) ks' (bs'.map V.ref)->ks'.Perm ks->ks'.Pairwise (fun x y=>pF x y=true)->Q (.ref l) (cL H l (.lst (bs'.map V.ref)))
theorem iR:∀(bs:List Addr),bD (bs.map V.ref) (bs.map Value.ref)
 |[]=>.nil|b::bs=>.cons rfl (iR bs)
theorem vW(hh:X.A.handled=none)(hu:X.A.units+30<cLine):iB X (.builtin "sorted") (Bb X):=by
 intro U s Z H xs us Q I r h;obtain⟨q,es,ep,t,bs,ks,F,rfl,sm,hq,e1,W,N,hz,hQ⟩:=h;obtain⟨u,rfl,rx⟩:=vals1 r;cases rx;obtain⟨hS,_,_⟩:=(show cD X.prog X.w H s.heap q (.ext _)from I.hok q _ hq);refine Calls.call_function_entry kind_sorted plain_sorted entry_sorted (args_sorted1 _) ?_;unfold Builtin.«sorted»;refine Z9 (m:=checkCount "sorted" 1 1 _) (Z7 (Z9 (IG (by simpa using hh) hS hz fun d tk i kp n a=>?_)));have I1:Inv X U Z H {s with heap:=d,toks:=tk}:=I.kept (t':=tk) kp;rw[e1]at a;have hn:i.length<64:=by rw[a.length_eq,Y9,<-Y9 (f:=Value.ref),<-e1,Y9,X2];lia
 have P:∀{T:Heap},(∀b o,s.heap.get? b=some o->o.cls=.type "tuple" ->T.get? b=some o)->∀v,v∈i->∃k b,v=Value.ref b/\KV X.K F k (.ref b)/\gJ X.prog X.w T k b:=fun{T} l v K=>(by obtain⟨k0,y,p,w⟩:=KV.mem W (iR bs) (a.mem_iff.mp K);obtain⟨b,z3,z4,z5⟩:=(p.same sm).pk I w;subst z4;exact⟨k0,b,z3,p,z5.stay fun b o e hc=>l b o e hc⟩);obtain⟨j,E,C⟩:∃j,List.Perm ks j/\YT X.prog X.w d j i:=(by have:=KV.pks I1 (Paired.mapP W fun _ _ z=>z.same sm) (iR bs);exact vE a.symm this);refine Z9 (GE ?_ (by rw[W9];lia));have D:(d.push (seqObj "list" i.toArray 0)).get? d.objs.size=some (seqObj "list" i.toArray 0):=X9 _ rfl;have l:∀b o,s.heap.get? b=some o->(d.push (seqObj "list" i.toArray 0)).get? b=some o:=fun b o e=>Z3 _ (kp b o e);refine Z9 (X1 (W1 slot_list_sort ⟨_,D,rfl⟩ entry_list_sort (An (s:={s with heap:=d.push (seqObj "list" i.toArray 0),toks:=tk}) D (Paired.mapP C fun q v ⟨b,p,w⟩=>⟨b,p,w.stay fun b o e _=>Z3 _ e⟩) (E.nodup_iff.mp N) hn (by simp;lia) fun S c a0 J k3 hD R M A L=>⟨_,rfl,?_⟩) (args_list_sort _)));have G:∀{b:Addr} {o:Obj},s.heap.get? b=some o->b≠d.objs.size:=fun{b o} e=>Y6 (X8 (Z1 e) n);have x:∀b o,s.heap.get? b=some o->S.get? b=some o:=fun b o e=>k3 b o (G e) (l b o e);obtain⟨g,p,w⟩:=KV.back2 (X:=X) (H:=F) (h':=S) (fun v K=>P (fun b o e _=>x b o e) v (A.mem_iff.mp K)) R;subst p;have I2:Inv X U Z (cL H d.objs.size (.lst (g.map V.ref))) {s with heap:=S,toks:=tk}:=
  I.laid (t':=tk) x n (show cD X.prog X.w _ _ _ (.lst _)from⟨by rw[Y9,<-Y9 (f:=Value.ref),A.length_eq,W9];lia,g.map Value.ref,c,iR g,hD⟩)
 exact Z7 ⟨_,rfl,.ref d.objs.size,_,I2,rfl,hQ _ g J (I.hok.fresh n) w (M.trans E.symm) L⟩
noncomputable def vI:List D->Option (List Int)
 |[]=>some []|.int i::l=>(vI l).map (i::·)|_::_=>none
noncomputable def Im:D->Option PK
 |.tup [.int n,.tup l]=>(vI l).map (n,·)|_=>none
noncomputable def GG:List D->Option (List PK)
 |[]=>some []|d::l=>(Im d).bind fun k=>(GG l).map (k::·)
def IQ:List PK->Bool
 |[]=>true|[_]=>true|x::y::l=>pF x y&&IQ (y::l)
theorem OE:∀{l:List PK},IQ l=true->l.Pairwise fun x y=>pF x y=true
 |[],_=>.nil|[_],_=>D9 _ _
 |x::y::l,h=>by
  unfold IQ at h;rw[X6]at h;have b:=OE h.2;refine .cons (fun z a=>?_) b;rcases G4.mp a with rfl|a
  ·exact h.1
  ·exact KQ _ _ _ h.1 (Lb b a)
theorem FY{l:List PK}(h:l.Pairwise fun x y=>pF x y=true):l.Nodup:=h.imp fun{a b} hab e=>by rw[e,Cr]at hab;cases hab
theorem CF:∀{l m:List PK},l.Perm m->l.Pairwise (fun x y=>pF x y=true)->m.Pairwise (fun x y=>pF x y=true)->l=m
 |[],m,p,_,_=>(List.nil_perm.mp p).symm|a::l,[],p,_,_=>absurd p.symm (by simp)
 |a::l,b::m,p,h1,h2=>by
  have e:a=b:=by
   rcases G4.mp (p.mem_iff.mp X7)with e|e
   ·exact e
   ·rcases G4.mp (p.mem_iff.mpr (X7 (a:=b) (l:=m)))with e2|e2
    ·exact e2.symm
    ·have d:=Lb h2 e;have c:=Lb h1 e2;rw[KS _ _ d]at c;cases c
  subst e;rw[CF (List.Perm.cons_inv p) (D2 h1) (D2 h2)]
variable{v:V}
section
variable{F:Hp}
theorem HG:∀{l:List D} {zs:List Int} {a:List V},vI l=some zs->aX K F l a->a=zs.map V.int
 |[],zs,a,h,r=>by cases h;exact r
 |.int i::l,zs,a,h,r=>by obtain⟨b,d,rfl⟩:=Option.map_eq_some_iff.mp h;obtain⟨v,t,rfl,rfl,c⟩:=r;rw[HG d c];rfl
 |.non::_,_,_,h,_=>nomatch h|.bl _::_,_,_,h,_=>nomatch h|.str _::_,_,_,h,_=>nomatch h|.tup _::_,_,_,h,_=>nomatch h|.lst _::_,_,_,h,_=>nomatch h|.scr _::_,_,_,h,_=>nomatch h|.dic _ _::_,_,_,h,_=>nomatch h
theorem FU:∀{l:List D} {zs:List Int},vI l=some zs->aX K F l (zs.map V.int)
 |[],zs,h=>by cases h;exact rfl
 |.int i::l,zs,h=>by obtain⟨a,b,rfl⟩:=Option.map_eq_some_iff.mp h;exact⟨_,_,rfl,rfl,FU b⟩
 |.non::_,_,h=>nomatch h|.bl _::_,_,h=>nomatch h|.str _::_,_,h=>nomatch h|.tup _::_,_,h=>nomatch h|.lst _::_,_,h=>nomatch h|.scr _::_,_,h=>nomatch h|.dic _ _::_,_,h=>nomatch h
theorem MU{d:D}{k:PK}(h:Im d=some k):∃l,d=.tup [.int k.1,.tup l]/\vI l=some k.2:=by
 unfold Im at h;split at h
 ·rename_i n l;obtain⟨z,a,rfl⟩:=Option.map_eq_some_iff.mp h;exact⟨l,rfl,a⟩
 ·cases h
theorem Jp{d:D}{k:PK}(h:Im d=some k)(r:jS K F d v):KV K F k v:=by obtain⟨l,rfl,n⟩:=MU h;obtain⟨a,p,rfl,m,b,s,rfl,j,q,f,rfl,i,e⟩:=r;obtain rfl:b=.int k.1:=j;obtain rfl:f=[]:=e;obtain⟨c,o,rfl,hc,g⟩:=i;rw[HG n g]at hc;exact⟨a,c,rfl,m,hc⟩
theorem Ib{d:D}{k:PK}(h:Im d=some k)(r:KV K F k v):jS K F d v:=by obtain⟨l,rfl,e⟩:=MU h;obtain⟨a,c,rfl,b,hc⟩:=r;exact⟨a,_,rfl,b,_,_,rfl,rfl,_,_,rfl,⟨c,_,rfl,hc,FU e⟩,rfl⟩
theorem NH:∀{l:List D} {ks:List PK} {a:List V},GG l=some ks->aX K F l a->Paired (KV K F) ks a
 |[],ks,a,h,r=>by cases h;have e:a=[]:=r;subst e;exact .nil
 |d::l,ks,a,h,r=>by obtain⟨k,j,i⟩:=Option.bind_eq_some_iff.mp h;obtain⟨f,g,rfl⟩:=Option.map_eq_some_iff.mp i;obtain⟨v,t,rfl,c,b⟩:=r;exact .cons (Jp j c) (NH g b)
theorem ML:∀{l:List D} {ks:List PK} {a:List V},GG l=some ks->Paired (KV K F) ks a->aX K F l a
 |[],ks,a,h,r=>by cases h;cases r;exact rfl
 |d::l,ks,a,h,r=>by
  obtain⟨k,i,g⟩:=Option.bind_eq_some_iff.mp h;obtain⟨e,f,rfl⟩:=Option.map_eq_some_iff.mp g;cases r with
  |cons c b=>exact⟨_,_,rfl,Ib i c,ML f b⟩
end
noncomputable def Yh(f:DS->M VR):DS->M (List D):=fun S=>mb (f S) fun r=>match fS r with
 |.lst l=>match GG l with
  |some ks=>if ks.length<=18/\IQ ks=true then some (.ok l)else none
  |none=>none
 |_=>none
variable{B O:Hp}{Y:Addr->Hp->Prop}{fa:DS->M VR}{pos pos':Pos}
theorem Du{a:Expr}{p k:Pos}(hh:X.A.handled=none)(z:X.A.units+30<cLine)(g1:Gl X "sorted")(m1:X.mg "sorted" = none)(g2:Gl X "set")(W:X.mg "set" = none)(ha:DE X B O Y a fa)(he:starEach [a] X.env=(false,eval a X.env)::starEach [] X.env:=by rfl)(f:starEach [.Call (.Name "set" k) [a] [] pos'] X.env=(false,eval (.Call (.Name "set" k) [a] [] pos') X.env)::starEach [] X.env:=by rfl) :
  DF X B O Y (.Call (.Name "sorted" p) [.Call (.Name "set" k) [a] [] pos'] [] pos) (Yh fa):=.mk fun U s Z H Q I q=>by
 refine mS (vW hh z) g1 m1 (by rfl) (cH (kP (II hh z) g2 W (by rfl) (cH ha.h eM he) (by decide) (by decide) he rfl) eM f) (by decide) (by decide) f rfl U s Z H Q I ?_;obtain⟨F,S,R,o⟩:=q;refine⟨F,S,R,dD.mbF o fun r v g E e1 V b=>?_⟩;have x:=RR.rv e1.fh V;generalize fS r=d at x b;cases d<;>first|(exact False.elim b)|skip
 rename_i l;obtain⟨a',P,rfl,ht,T⟩:=x;dsimp only at b;cases e:GG l with
 |none=>rw[e]at b;exact False.elim b
 |some ks=>
  rw[e]at b;dsimp only at b;by_cases i:ks.length<=18/\IQ ks=true
  ·rw[Z8 i]at b;have j:=OE i.2;refine⟨a',P,ks,g,rfl,iA.of ht,e1.fh,NH e T,FY j,i.1,fun q C D t bs n A K J w G=>?_⟩;refine⟨q,C,D,t,bs,n,g,rfl,e1.fh.trans (bG A),aM,K,J,w.nodup_iff.mpr (FY j),G,fun y a0 m u N M L=>?_⟩;obtain rfl:m=ks:=CF (M.trans w) L j;have c:bZ g E g (cL E q (.ext fun h=>sE X.prog X.w h q C D t)):=kI e1.fh A;exact b y _ g _ (c.trans (kI c.fh u)) (c.hh.free u) (c.fh.free u) aM (ML e N)
  ·rw[Z6 i]at b;exact False.elim b
variable{oe:Obj}{params:Arguments}{scope:Scope}
def BI(X:Cx):Prop:=∃bm o,X.mg "__builtins__" = some (.ref bm)/\bm≠builtinsNs/\bm≠X3/\X.K.lookup bm=some o/\o.cls=.type "module" /\o.dict=some builtinsNs/\o.data=.plain
theorem Cu{P e:Addr}{l c:Int}{q:Str}{tk:Nat}{k:Array Value}{t:Tok}(I:Inv X U Z H s)(j:H P=some (.lam l c q))(i:Heap.ExtBut P s.heap h')(h:s.heap.objs.size<=e)(he:h'.get? e=some oe)(hd:oe.data=.fields k)(p:k[1]? = some (.str q t))(ht:h'.get? P=some {cls:=.none,data:=.fields #[rawInt l,rawInt c,.ref e]}):Inv X U Z (cL H e (.own P)) {s with heap:=h',toks:=tk}:=by
 have r:H e=none:=I.hok.fresh h;have ne:∀{b:Addr} {u:HO},H b=some u->b≠e:=fun{b u} z=>aV z r;have np:∀{b:Addr},H b=none->b≠P:=fun{b} z y=>(by subst y;rw[z]at j;cases j);refine I.un ⟨fun b o f g _ _=>i b o (np g) f,fun b o f g _ _=>⟨o.slots,i b o (np g) f⟩,fun b o f g _=>?_,fun b o f _=>?_,fun b n z=>by rw[aJ (ne z)];exact z,fun b o u z=>by rw[aJ (ne z)];exact z,fun b w z=>⟨#[],by rw[aJ (ne z),z];simp⟩⟩ fun b u z=>?_
 ·rw[aJ (Y6 (X8 (Z1 f) h))];exact g
 ·by_cases y:b=P
  ·subst y;exact⟨_,ht⟩
  ·exact⟨o,i b o y f⟩
 ·by_cases y:b=e
  ·subst y;rw[aM]at z;cases z;exact⟨_,he⟩
  ·rw[aJ y]at z;by_cases m:b=P
   ·subst m;rw[j]at z;cases z;exact⟨_,ht,.inr ⟨e,oe,k,t,rfl,aM,he,hd,p⟩⟩
   ·refine(I.hok b u z).stay (fun x v a d=>i x v ?_ d) (fun x d=>by rw[aJ (ne d)];exact d) fun x n d=>(by rw[aJ (ne d)];exact d);rcases a with rfl|a
    ·exact m
    ·rintro rfl;rw[j]at a;cases a
theorem WQ{P c:Addr}{q:Str}{d:Expr}(I:Inv X U Z H s)(p:H P=some (.lam pos.line pos.col q))(hq:X.env.qual++ "<lambda>" = q)(g:X.env.code=.ref c)(hC:PySem.W.codeHdIn X.K c P=true)(hB:BI X)(m:PySem.defaultsOf params X.env=([],[]))(n:closureFor scope X.env=pure [])(h:∀f e a h' tk w,Inv X U Z w {s with heap:=h',toks:=tk}->bR H w->w f=none->h'.get? f=some (PySem.W.kla_obj "<lambda>" q params d scope [] ((X.mg "__name__").getD .none) e a)->(w P=some (.lam pos.line pos.col q)/\w e=some (.own P)/\h'.get? P=some {cls:=.none,data:=.fields #[rawInt pos.line,rawInt pos.col,.ref e]}/\∃o j t,h'.get? e=some o/\o.data=.fields j/\j[1]? = some (.str q t))->s.heap.objs.size<=f->Q (.ref f) {s with heap:=h',toks:=tk}) :
  wpAny (model X.prog X.w) X.A (eval (.Lambda params d scope pos) X.env) Q E s:=by
 obtain⟨S,ob,b1,b2,b3,b4,T,b6,b7⟩:=hB;have D:∀b o,X.base.get? b=some o->s.heap.get? b=some o:=I.bk;have K:s.heap.Ns X3 X.mg:=I.mod.glob.keeps D;have r:PySem.W.CodeHd s.heap c P:=(PySem.W.codeHd_of_K I.mod.kin hC).keeps D;have M:=D _ _ (I.mod.kin _ _ b4);obtain⟨ps,hT,hr⟩:=(show cD X.prog X.w H s.heap P (.lam _ _ _)from I.hok P _ p);have J:X3≠P:=fun z=>(by obtain⟨o,es,ep,e,hd,_⟩:=K;rw[z,hT]at e;cases e;cases hd);have L:S≠P:=fun z=>(by rw[z,hT]at M;cases M;cases T);have v:s.heap.BuiltinsAt X.mg P:=⟨S,ob,b1,b2,b3,L,M,T,b6,b7⟩;refine PySem.W.kla_eval m ?_;rw[hq];rcases hr with rfl|⟨e,oe,j,t,rfl,A,y,x,V⟩
 ·refine PySem.W.kla_makeFunction (clos:=[]) n I.ok.glob K g r hT trivial rfl J v fun e a h' tk hx i G l k=>?_;obtain⟨e2,oe,j,t,W,A,y,x⟩:=l;cases W;have C:=Cu (tk:=tk) I p hx i A y x k;have N:Inv X U Z (cL H e (.own P)) {s with heap:=h'.push (PySem.W.kla_obj "<lambda>" q params d scope [] ((X.mg "__name__").getD .none) e a),toks:=tk}:=C.kept (t':=tk) fun b u z=>Z3 _ z;have R:H e=none:=I.hok.fresh i;exact h _ e a _ tk _ N (bG R) (C.hok.fresh (Z5 _)) (X9 _ rfl) ⟨by rw[aJ (aV p R)];exact p,aM,Z3 _ k,oe,j,t,Z3 _ A,y,x⟩ (P7 (C9 i G))
 ·refine PySem.W.kla_makeFunctionHit (clos:=[]) (cv:=.ref e) n I.ok.glob K g r hT ⟨⟩ ?_ v fun a h' tk kp F=>?_
  ·simp[codeAmong,rawInt]
  ·have N:Inv X U Z H {s with heap:=h'.push (PySem.W.kla_obj "<lambda>" q params d scope [] ((X.mg "__name__").getD .none) e a),toks:=tk}:=I.kept (t':=tk) fun b u z=>Z3 _ (kp b u z);have C:Inv X U Z H {s with heap:=h',toks:=tk}:=I.kept (t':=tk) kp;exact h _ e a _ tk H N (bR.refl _) (C.hok.fresh (Z5 _)) (X9 _ rfl) ⟨p,A,Z3 _ (kp _ _ hT),oe,j,t,Z3 _ (kp _ _ y),x,V⟩ F
variable{P:Program}{mg:Str->Option Value}{outer:List Env}{pm ctv:Value}{N ps:List Str}{us:List Value}{vs:List V}
section
variable{base:Heap}
theorem Ct{k:Nat}{f e:Addr}{q:Str}{a:Expr}{Q:VK}{t:TE}{l:Obj}(hf:s.heap.get? f=some l)(i:l.data=.func (PySem.W.kla_fn "<lambda>" q params a scope [] pm (.ref e) ctv))(d:s.heap.CodeRec (.ref e) q)(S:aY N ps scope)(m:hU (k+1) A)(e0:tV P w K mg base A outer s H)(F:bindArgs (PySem.W.kla_fn "<lambda>" q params a scope [] pm (.ref e) ctv) ⟨us,[]⟩=pure (ps.zip us))(E:vs.length=ps.length)(r:bD vs us)(ht:PE (nL kM P w K mg base N q scope f (.ref e) A outer s H fun _ _ _=>False) a t)(D:t (start N vs) H Q) :
  codeAny (model P w) A (.call (.ref f) ⟨us,[]⟩) (CR kM outer P w H s Q fun _ _ _=>False) s:=by
 have g:s.heap.NoLimit:=e0.mod.nolimit.keeps fun b o e=>(e0.bs b o e).1;have c:∀y∈ps.zip us,scope.names.lookup y.1=some .local\/(scope.names.lookup y.1=some .cell/\((cellsFrom (s.heap.objs.size+1) scope.names []).lookup y.1).isSome=true):=fun⟨n,v⟩ hy=>by
  rcases S.par n (J5 hy).1 with z|z
  ·exact .inl z
  ·exact .inr ⟨z,D8 _ _ _ (.inl z)⟩
 refine PySem.W.kla_callFunE m.depth hf i S.co S.gen rfl d ?_;rw[F];refine Z7 (y7 S.kind c fun env he j x=>?_);subst he;refine⟨g.keeps x.toInCall.keep,PySem.W.kla_codeExpr ?_⟩;have I:Inv (nL kM P w K mg base N q scope f (.ref e) A outer s H fun _ _ _=>False) [] (start N vs) H j:=AW S m.hd e0 E r x;refine W0 (ht [] j (start N vs) H _ I D) (fun u p h=>?_) fun e p h=>?_
 ·obtain⟨v,G,J,C,z⟩:=h;exact⟨v,G,J.os,J.bare,J.base,J.hok,C,z⟩
 ·exact h
end
variable{s':Shared}
section
variable{base:Heap}{G:Hp}{T e:Addr}{l c:Int}{q:Str}
noncomputable def msk(T e:Addr)(H:Hp):Hp:=fun b=>if b=T\/b=e then none else H b
noncomputable def ZT(T e:Addr)(l c:Int)(q:Str)(G:Hp):Hp:=fun b=>if b=T then some (.lam l c q)else if b=e then some (.own T)else G b
theorem oD(c:b≠T)(a:b≠e):msk T e H b=H b:=by unfold msk;rw[Z6 (fun z=>z.elim c a)]
theorem jM(h:H b=none):msk T e H b=none:=by unfold msk;split<;>first|rfl|exact h
theorem WE{u:HO}(h:msk T e H b=some u):b≠T/\b≠e/\H b=some u:=by
 unfold msk at h;split at h
 ·cases h
 ·rename_i z;exact⟨fun y=>z (.inl y),fun y=>z (.inr y),h⟩
theorem Fv:ZT T e l c q G T=some (.lam l c q):=by unfold ZT;rw[Z8 rfl]
theorem TB(h:e≠T):ZT T e l c q G e=some (.own T):=by unfold ZT;rw[Z6 h,Z8 rfl]
theorem pI(d:b≠T)(a:b≠e):ZT T e l c q G b=G b:=by unfold ZT;rw[Z6 d,Z6 a]
theorem tV.msk(e0:tV P w K mg base A outer s H)(hT:H T=some (.lam l c q))(he:H e=some (.own T)):tV P w K mg base A outer s (msk T e H) where
 frames:=e0.frames
 mod:=e0.mod
 bs:=fun b o z=>⟨(e0.bs b o z).1,jM (e0.bs b o z).2⟩
 bsz:=e0.bsz
 funs:=e0.funs
 frf:=fun b a=>jM (e0.frf b a)
 bare:=e0.bare
 hok:=fun b u z=>by
  obtain⟨f,h,d⟩:=WE z;refine(e0.hok b u d).stay (fun x v _ y=>y) (fun x y=>?_) fun x g y=>?_
  ·rw[oD (fun z=>by subst z;rw[hT]at y;cases y) (fun z=>by subst z;rw[he]at y;cases y;exact f rfl)];exact y
  ·rw[oD (fun z=>by subst z;rw[hT]at y;cases y) (fun z=>by subst z;rw[he]at y;cases y)];exact y
theorem Kr{Q:VK}{k:Array Value}{t:Tok}(e0:tV P w K mg base A outer s H)(hT:H T=some (.lam l c q))(he:H e=some (.own T))(ht:s.heap.get? T=some {cls:=.none,data:=.fields #[rawInt l,rawInt c,.ref e]})(n:s.heap.get? e=some oe)(hd:oe.data=.fields k)(R:k[1]? = some (.str q t))(h:CE outer P w (msk T e H) s (fun v G=>s'.heap.get? T=s.heap.get? T->s'.heap.get? e=s.heap.get? e->Q v (ZT T e l c q G)) u s'):CE outer P w H s Q u s':=by
 obtain⟨v,G,os,bare,un,hok,r,S⟩:=h;have p:e≠T:=fun z=>(by subst z;rw[hT]at he;cases he);have D:∀{b:Addr} {u:HO},H b=some u->b∉sH outer:=fun{b u} z y=>(by rw[e0.frf b y]at z;cases z);have F:msk T e H T=none:=(by unfold msk;rw[Z8 (.inl rfl)]);have E:msk T e H e=none:=(by unfold msk;rw[Z8 (.inr rfl)]);have I:=un.keep T _ ht F (D hT) (by simp);have m:=un.keep e _ n E (D he) (by simp);have L:=un.free T _ ht F (by simp);have J:=un.free e _ n E (by simp);have N:∀{b:Addr},H b=none->b≠T:=fun{b} z y=>(by subst y;rw[hT]at z;cases z);have ne:∀{b:Addr},H b=none->b≠e:=fun{b} z y=>(by subst y;rw[he]at z;cases z);refine⟨v,ZT T e l c q G,os,bare,⟨fun b o i f g j=>un.keep b o i (jM f) g j,fun b o i f g j=>un.slot b o i (jM f) g j,fun b o i f g=>?_,un.there,fun b C z=>?_,fun b o u z=>?_,fun b M z=>?_⟩,fun b u z=>?_,r,S (I.trans ht.symm) (m.trans n.symm)⟩
 ·rw[pI (N f) (ne f)];exact un.free b o i (jM f) g
 ·have a:b≠T:=fun y=>(by subst y;rw[hT]at z;cases z);have d:b≠e:=fun y=>(by subst y;rw[he]at z;cases z);rw[pI a d];exact un.tups b C (by rw[oD a d];exact z)
 ·have a:b≠T:=fun y=>(by subst y;rw[hT]at z;cases z);have d:b≠e:=fun y=>(by subst y;rw[he]at z;cases z);rw[pI a d];exact un.frzs b o u (by rw[oD a d];exact z)
 ·have a:b≠T:=fun y=>(by subst y;rw[hT]at z;cases z);have d:b≠e:=fun y=>(by subst y;rw[he]at z;cases z);rw[pI a d];exact un.tbls b M (by rw[oD a d];exact z)
 ·by_cases a:b=T
  ·subst a;rw[Fv]at z;cases z;exact⟨_,I,.inr ⟨e,oe,k,t,rfl,TB p,m,hd,R⟩⟩
  ·by_cases d:b=e
   ·subst d;rw[TB a]at z;cases z;exact⟨_,m⟩
   ·rw[pI a d]at z;refine(hok b u z).stay (fun x v _ y=>y) (fun x y=>?_) fun x C y=>?_
    ·rw[pI (fun z=>by subst z;rw[L]at y;cases y) (fun z=>by subst z;rw[J]at y;cases y)];exact y
    ·rw[pI (fun z=>by subst z;rw[L]at y;cases y) (fun z=>by subst z;rw[J]at y;cases y)];exact y
end
abbrev HE(p:Pos):Arguments:={posonlyargs:=[],args:=[{arg:="prime",annotation:=none,pos:=p}],vararg:=none,kwonlyargs:=[],kw_defaults:=[],kwarg:=none,defaults:=[]}
noncomputable abbrev NJ(p1 p2 p3 p4 p5:Pos):Expr:=.Tuple [.Call (.Name "len" p1) [.Name "prime" p2] [] p3,.Name "prime" p4] 0 p5
noncomputable abbrev rQ:Scope:={kind:=.function,names:=[("prime",.local),("len",.globalImplicit)],isGenerator:=false,isCoroutine:=false,more:=[]}
structure rJ(H:Hp)(h:Heap)(T e f:Addr)(l c:Int)(q:Str)(fd:V1):Prop where
 hT:H T=some (.lam l c q)
 he:H e=some (.own T)
 ht:h.get? T=some {cls:=.none,data:=.fields #[rawInt l,rawInt c,.ref e]}
 oe:∃o vs t,h.get? e=some o/\o.data=.fields vs/\vs[1]? = some (.str q t)
 hf:∃o,h.get? f=some o/\o.data=.func fd
 fn:H f=none
variable{p0 p1 p2 p3 p4 p5:Pos}{ys:List V}
theorem WV{k:Nat}{T e f:Addr}{l c:Int}{q:Str}(I:Inv X U Z H s)(hA:tV X.prog X.w X.K X.mg X.base A X.stack s H)(hr:hU (k+1) A)(L:rJ H s.heap T e f l c q (PySem.W.kla_fn "<lambda>" q (HE p0) (NJ p1 p2 p3 p4 p5) rQ [] pm (.ref e) ctv))(m:X.mg "len" = none)(hy:cA X.K H b ys)(h:∀v s' p,v=Value.ref p->H p=none->Inv X U Z (cL H p (.tup [.int ys.length,.ref b])) s'->rJ (cL H p (.tup [.int ys.length,.ref b])) s'.heap T e f l c q (PySem.W.kla_fn "<lambda>" q (HE p0) (NJ p1 p2 p3 p4 p5) rQ [] pm (.ref e) ctv)->(∀z o,H z=none->z∉sH X.stack->s.heap.get? z=some o->s'.heap.get? z=some o)->Q v s') :
  wpAny (model X.prog X.w) A (call (.ref f) [.ref b]) Q (fun _ _=>False) s:=by
 obtain⟨hT,he,ht,⟨oe,g,W,w,hd,K⟩,⟨of,hf,n⟩,fn⟩:=L;have P:e≠T:=fun z=>(by subst z;rw[hT]at he;cases he);have J:cA X.K (msk T e H) b ys:=by
  rcases hy with(z|⟨o,z⟩)|z
  ·exact .inl (.inl (by rw[oD (fun y=>by subst y;rw[hT]at z;cases z) (fun y=>by subst y;rw[he]at z;cases z)];exact z))
  ·exact .inl (.inr ⟨o,by rw[oD (fun y=>by subst y;rw[hT]at z;cases z) (fun y=>by subst y;rw[he]at z;cases z)];exact z⟩)
  ·exact .inr z
 have S:aY ["prime"] ["prime"] rQ:=⟨rfl,rfl,rfl,by decide +kernel,rfl,by decide +kernel,by decide +kernel⟩;have e1:=tV.msk hA hT he;have t:=VA (X:=nL kM X.prog X.w X.K X.mg X.base ["prime"] q rQ f (.ref e) A X.stack s (msk T e H) fun _ _ _=>False) (x1:=0) (pos:=p5) (cH (mS (p:=p1) (pos:=p3) tQ (by rfl) m PySem.boot_len (cH (iU (i:=0) (x:="prime") (pos:=p2) rfl (.inl rfl)) eM rfl) (by decide) (by decide) rfl rfl) (cH (iU (i:=0) (x:="prime") (pos:=p4) rfl (.inl rfl)) eM rfl) rfl);refine L7 (N0 (Ct (Q:=fun v G=>∃p,v=V.ref p/\msk T e H p=none/\G=cL (msk T e H) p (.tup [.int ys.length,.ref b])) (us:=[.ref b]) (vs:=[.ref b]) hf n ⟨e,oe,g,W,rfl,w,hd,K⟩ S hr e1 rfl rfl (.cons rfl .nil) t ⟨_,rfl,b,ys,rfl,.inr J,_,rfl,(show 2<=sizeLine by decide),fun p N=>⟨p,rfl,N,rfl⟩⟩) fun r s' j=>?_);cases r with
 |error z=>exact j
 |ok fl=>
  cases fl with
  |next=>exact j|brk=>exact j|cont=>exact j
  |ret u=>
   obtain⟨v,G,os,bare,un,hok,rv,p,rfl,N,rfl⟩:=j;have mT:msk T e H T=none:=(by unfold msk;rw[Z8 (.inl rfl)]);have me:msk T e H e=none:=(by unfold msk;rw[Z8 (.inr rfl)]);have F:p≠T:=fun z=>(by subst z;have:=un.free p _ ht mT (by simp);rw[aM]at this;cases this);have E:p≠e:=fun z=>(by subst z;have:=un.free p _ w me (by simp);rw[aM]at this;cases this);have M:H p=none:=(oD (H:=H) F E).symm.trans N;obtain⟨sl,R⟩:=un.any hf (jM fn) (by simp);have eu:ZT T e l c q (cL (msk T e H) p (.tup [.int ys.length,.ref b]))=cL H p (.tup [.int ys.length,.ref b]):=by
    funext z;by_cases d:z=T
    ·subst d;rw[Fv,aJ (Y8 F),hT]
    ·by_cases a:z=e
     ·subst a;rw[TB P,aJ (Y8 E),he]
     ·rw[pI d a];by_cases C:z=p
      ·subst C;rw[aM,aM]
      ·rw[aJ C,aJ C,oD d a]
   have ce:=Kr (Q:=fun v H'=>v=V.ref p/\H'=cL H p (.tup [.int ys.length,.ref b])/\s'.heap.get? T=s.heap.get? T/\s'.heap.get? e=s.heap.get? e) hA hT he ht w hd K ⟨_,_,os,bare,un,hok,rv,fun d a=>⟨rfl,eu,d,a⟩⟩;obtain⟨v,H',I',D,rfl,rfl,k1,k2⟩:=I.after ce;refine h u s' p D M I' ⟨by rw[aJ (Y8 F)];exact hT,by rw[aJ (Y8 E)];exact he,k1.trans ht,⟨oe,g,W,k2.trans w,hd,K⟩,⟨_,R,n⟩,?_⟩ fun z o h1 h2 h3=>un.keep z o h3 (jM h1) h2 (by simp);by_cases z:f=p
   ·subst z;have:=un.free f _ hf (jM fn) (by simp);rw[aM]at this;cases this
   ·rw[aJ z];exact fn
variable{H':Hp}{fd:V1}{kS:Addr}{xs:List V}{β:Type}{ls:List (List Int)}
theorem rJ.mono{T e f:Addr}{l c:Int}{q:Str}(L:rJ H h T e f l c q fd)(a:∀b o,(b=T\/b=e)->H b=some o->H' b=some o)(kp:∀b o,(b=T\/b=e\/b=f)->h.get? b=some o->h'.get? b=some o)(hf:H' f=none):rJ H' h' T e f l c q fd:=by obtain⟨s,r,p,⟨o,d,t,n,m,k⟩,⟨g,j,i⟩,_⟩:=L;exact⟨a _ _ (.inl rfl) s,a _ _ (.inr rfl) r,kp _ _ (.inl rfl) p,⟨o,d,t,kp _ _ (.inr (.inl rfl)) n,m,k⟩,⟨g,kp _ _ (.inr (.inr rfl)) j,i⟩,hf⟩
noncomputable abbrev Cz(q:Str)(p0 p1 p2 p3 p4 p5:Pos)(pm:Value)(e:Addr)(ctv:Value):V1:=PySem.W.kla_fn "<lambda>" q (HE p0) (NJ p1 p2 p3 p4 p5) rQ [] pm (.ref e) ctv
theorem JN{p:Addr}(I:Inv X U Z H s)(j:H kS=some (.lst xs)){Q:Unit->Shared->Prop}(k:xs.length<64)(h:∀h',(∀b o,b≠kS->s.heap.get? b=some o->h'.get? b=some o)->Inv X U Z (cL H kS (.lst (xs++[.ref p]))) {s with heap:=h'}->Q () {s with heap:=h'}) :
  wpAny (model X.prog X.w) X.A.in1.in1 (Builtin.List.listUpdate (.ref kS) (·.push (.ref p))) Q E s:=by
 obtain⟨l,c,n,r,g⟩:=(show cD X.prog X.w H s.heap kS (.lst xs)from I.hok kS _ j);have i:=r.length;refine O3 g rfl ?_ (by simp only[Y7];rw[W9];lia) (by simp only[Array.size_push,Y7];rw[W9];lia);have f:=V2 s.heap kS (Obj.mapSeq (·.push (Value.ref p)));have a:=N1 g (·.push (Value.ref p));refine h _ (fun b o d e=>(f.2 b d).trans e) (I.write (t':=s.toks) (by rw[j];trivial) (.inl rfl) (fun b u d z=>(f.2 b d).trans z) ⟨_,a⟩ ⟨?_,c++[.ref p],_,r.append (.cons (show RelV (V.ref p) (Value.ref p)from rfl) .nil),by simpa using a⟩);rw[W3,W9];simp;lia
structure IX(X:Cx)(U:List (Addr×Obj))(Z:St)(H:Hp)(kS T e f:Addr)(l c:Int)(q:Str)(fd:V1)(bs ps:List Addr)(ls:List (List Int))(a:Addr)(e1:Nat)(H':Hp)(s':Shared):Prop where
 ob:s'.heap.get? a=some (seqObj "list" #[] e1)
 na:H' a=none
 nk:a≠kS
 inv:Inv X U Z H' s'
 lam:rJ H' s'.heap T e f l c q fd
 kp:∀b o,b≠kS->H b=some o->H' b=some o
 st:H' kS=some (.lst (ps.map V.ref))
 ks:Paired (fun(x:List Int×Addr) p=>H' p=some (.tup [.int x.1.length,.ref x.2])) (ls.zip bs) ps
 ll:ls.length=bs.length
theorem GJ{F:α->β->Prop}{l:List α}{m:List β}{a:α}{b:β}(h:Paired F l m)(r:F a b):Paired F (l++[a]) (m++[b]):=rO h (.cons r .nil)
theorem QM{k e1:Nat}{T e f:Addr}{l c:Int}{q:Str}{bs r:List Addr}{n:List Int}{Q:Unit->Shared->Prop}(J:IX X U Z H kS T e f l c q (Cz q p0 p1 p2 p3 p4 p5 pm e ctv) bs r ls a e1 H' s')(P:hU (k+1) X.A.in1.in1)(j:X.mg "len" = none)(R:cA X.K H b (n.map V.int))(m:b≠kS)(hz:bs.length<60)(K:kS≠T)(ne:kS≠e)(I:kS≠f)(W:a∉sH X.stack)(h:∀H2 d p,IX X U Z H kS T e f l c q (Cz q p0 p1 p2 p3 p4 p5 pm e ctv) (bs++[b]) (r++[p]) (ls++[n]) a e1 H2 d->Q () d) :
  wpAny (model X.prog X.w) X.A.in1.in1 (call (.ref f) [.ref b]) (fun v d=>wpAny (model X.prog X.w) X.A.in1.in1 (Builtin.List.listUpdate (.ref kS) (·.push v)) Q (fun _ _=>False) d) (fun _ _=>False) s':=by
 have D:cA X.K H' b (n.map V.int):=by
  rcases R with(z|⟨o,z⟩)|z
  ·exact .inl (.inl (J.kp _ _ m z))
  ·exact .inl (.inr ⟨o,J.kp _ _ m z⟩)
  ·exact .inr z
 have lp:r.length=bs.length:=(by have:=fZ J.ks;rw[List.length_zip,J.ll,Nat.min_self]at this;exact this.symm);refine WV J.inv J.inv.env0.in1.in1 P J.lam j D fun v d p S s M L2 C=>?_;subst S;have i:=C a _ J.na W J.ob;have N:p≠a:=fun z=>(by subst z;obtain⟨_,_,_,o,E,t,_⟩:=(show cD X.prog X.w _ d.heap p (.tup _)from M.hok p _ aM);rw[i]at E;cases E;injection t with t;exact absurd t (by decide));have F:p≠kS:=fun z=>(by subst z;rw[J.st]at s;cases s);have A:cL H' p (.tup [.int (n.map V.int).length,.ref b]) kS=some (.lst (r.map V.ref)):=(by rw[aJ (Y8 F)];exact J.st);refine JN M A (by rw[Y9];lia) fun h' kp L=>?_;rw[Y9]at L L2;refine h _ _ p ⟨kp a _ J.nk i,by rw[aJ J.nk,aJ (Y8 N)];exact J.na,J.nk,L,L2.mono (fun x o g z=>?_) (fun x o g z=>kp x o ?_ z) ?_,fun x o g z=>?_,by rw[aM,N5];rfl,?_,by rw[W3,W3,J.ll];rfl⟩
 ·rw[aJ (by rcases g with rfl|rfl;exact Y8 K;exact Y8 ne)];exact z
 ·rcases g with rfl|rfl|rfl
  ·exact Y8 K
  ·exact Y8 ne
  ·exact Y8 I
 ·rw[aJ (Y8 I)];exact L2.fn
 ·rw[aJ g];have u:=J.kp x o g z;rw[aJ (fun y=>by subst y;rw[s]at u;cases u)];exact u
 ·rw[List.zip_append J.ll];refine GJ (Paired.mapP J.ks fun y G z=>?_) ?_
  ·have n1:G≠p:=fun w=>(by subst w;rw[s]at z;cases z);have n2:G≠kS:=fun w=>(by subst w;rw[J.st]at z;cases z);rw[aJ n2,aJ n1];exact z
  ·rw[aJ F,aM]
theorem nS:∀{bs:List Addr} {us:List Value},bD (bs.map V.ref) us->us=bs.map Value.ref
 |[],_,h=>by cases h;rfl
 |b::bs,_,h=>by
  cases h with
  |cons r t=>obtain rfl:_=Value.ref b:=r;rw[nS t];rfl
theorem HD{k e1:Nat}{T e f:Addr}{l c:Int}{q:Str}{Q:PUnit->Shared->Prop}{g:Value->PUnit->Sem (ForInStep PUnit)}(A:hU (k+1) X.A.in1.in1)(d:X.mg "len" = none)(z:kS≠T)(ne:kS≠e)(y:kS≠f)(D:a∉sH X.stack)(C:∀(b:Addr) (u:PUnit) (s:Shared) (F:ForInStep PUnit->Shared->Prop),wpAny (model X.prog X.w) X.A.in1.in1 (call (.ref f) [.ref b]) (fun v j=>wpAny (model X.prog X.w) X.A.in1.in1 (Builtin.List.listUpdate (.ref kS) (·.push v)) (fun _ o=>F (.yield ⟨⟩) o) (fun _ _=>False) j) (fun _ _=>False) s->wpAny (model X.prog X.w) X.A.in1.in1 (g (.ref b) u) F E s) :
  ∀(rs:List Addr) (m:List (List Int)) (bs ps:List Addr) (ls:List (List Int)) (H':Hp) (s':Shared),Paired (fun n b=>cA X.K H b (n.map V.int)/\b≠kS) m rs->bs.length+rs.length<60->IX X U Z H kS T e f l c q (Cz q p0 p1 p2 p3 p4 p5 pm e ctv) bs ps ls a e1 H' s'->
   (∀x j i,IX X U Z H kS T e f l c q (Cz q p0 p1 p2 p3 p4 p5 pm e ctv) (bs++rs) i (ls++m) a e1 x j->Q ⟨⟩ j)->wpAny (model X.prog X.w) X.A.in1.in1 (forIn (rs.map Value.ref) PUnit.unit g) Q E s'
 |[],m,bs,ps,ls,H',s',hp,hz,J,h=>by cases hp;rw[R1,N2];exact Z7 (h H' s' ps (by rw[Pv,Pv];exact J))
 |b::rs,m,bs,ps,ls,H',s',hp,hz,J,h=>by
  cases hp with
  |@cons n _ w _ r t=>rw[Q3]at hz;rw[Y4,T1];refine Z9 (C b _ s' _ (QM J A d r.1 r.2 (by lia) z ne y D fun x j p I=>?_));dsimp only;refine HD A d z ne y D C rs w (bs++[b]) (ps++[p]) (ls++[n]) x j t (by rw[W3];simp;lia) I fun K o i G=>h K o i ?_;rw[P2,P2]at G;exact G
def cut(a:Addr)(H:Hp):Hp:=fun b=>if b=a then none else H b
theorem jC(h:b≠a):cut a H b=H b:=by unfold cut;rw[Z6 h]
theorem yT:cut a H a=none:=by unfold cut;rw[Z8 rfl]
theorem tP(h:H b=none):cut a H b=none:=by unfold cut;split<;>first|rfl|exact h
theorem De(I:Inv X U Z H s)(l:H a=some (.lst xs)):Inv X U Z (cut a H) s:=by
 have d:∀{b:Addr} {u:HO},H b=some u->(∀e,u≠.lst e)->b≠a:=fun{b u} z n w=>(by subst w;rw[l]at z;cases z;exact n _ rfl);refine⟨I.ok,I.os,I.bare,⟨I.base.keep,I.base.slot,fun b o h g f=>tP (I.base.free b o h g f),I.base.there,fun b e z=>?_,fun b o u z=>?_,fun b i z=>?_⟩,I.loc,I.cell,tP I.free,fun x c z=>tP (I.freeC x c z),fun p j=>?_,fun b u z=>?_,I.len⟩
 ·have:=I.base.tups b e z;rw[jC (d this fun _ y=>nomatch y)];exact this
 ·have:=I.base.frzs b o u z;rw[jC (d this fun _ y=>nomatch y)];exact this
 ·obtain⟨m,this⟩:=I.base.tbls b i z;exact⟨m,by rw[jC (d this fun _ y=>nomatch y)];exact this⟩
 ·obtain⟨t,r,q⟩:=I.pin p j;exact⟨t,tP r,q⟩
 ·have k:b≠a:=fun w=>(by subst w;rw[yT]at z;cases z);rw[jC k]at z;refine(I.hok b u z).stay (fun x v _ y=>y) (fun x y=>?_) fun x e y=>?_
  ·rw[jC (d y fun _ w=>nomatch w)];exact y
  ·rw[jC (d y fun _ w=>nomatch w)];exact y
theorem QU{its:List Value}(I:Inv X U Z H s)(g:H a=none)(F:X.s₀.heap.get? a=none)(j:s.heap.get? a=some (seqObj "list" its.toArray n))(r:bD xs its)(D:xs.length<=sizeLine)(E:∀p∈X.pn++U,p.1≠a):Inv X U Z (cL H a (.lst xs)) s:=by
 have A:X.env.locals≠a:=fun w=>(by obtain⟨m,⟨o,G,J,d,i,_⟩,_⟩:=I.loc;rw[w,j]at d;cases d;cases i);have C:∀x c,X.env.cells.lookup x=some c->c≠a:=fun x c z w=>by
  obtain⟨v,o,h,e⟩:=I.cell x c z;rw[w,j]at h;cases h
  first|cases e|(obtain⟨e,k⟩:=e;first|cases k|cases e)
 refine⟨I.ok,I.os,I.bare,⟨I.base.keep,I.base.slot,fun b o d i q=>?_,I.base.there,fun b l z=>?_,fun b o u z=>?_,fun b t z=>?_⟩,I.loc,I.cell,by rw[aJ A];exact I.free,fun x c z=>by rw[aJ (C x c z)];exact I.freeC x c z,fun p f=>?_,fun b u z=>?_,I.len⟩
 ·rw[aJ (fun w=>by subst w;rw[F]at d;cases d)];exact I.base.free b o d i q
 ·have:=I.base.tups b l z;rw[aJ (aV this g)];exact this
 ·have:=I.base.frzs b o u z;rw[aJ (aV this g)];exact this
 ·obtain⟨m,this⟩:=I.base.tbls b t z;exact⟨m,by rw[aJ (aV this g)];exact this⟩
 ·obtain⟨h,e,k⟩:=I.pin p f;exact⟨h,by rw[aJ (E p f)];exact e,k⟩
 ·by_cases w:b=a
  ·subst w;rw[aM]at z;cases z;exact⟨D,its,n,r,j⟩
  ·rw[aJ w]at z;exact(I.hok b u z).stay (fun x v _ y=>y) (fun x y=>by rw[aJ (aV y g)];exact y) fun x l y=>by rw[aJ (aV y g)];exact y
abbrev mL(z:List Int):PK:=((z.length:Int),z)
theorem vF{F:α->β->Prop}{f:Nat->α}{g:Nat->β}:∀{l:List Nat},(∀i∈l,F (f i) (g i))->Paired F (l.map f) (l.map g)
 |[],_=>.nil|a::l,h=>.cons (h a X7) (vF fun i hi=>h i (X5 _ hi))
theorem WS{a:Hp}:∀{ls:List (List Int)} {bs ps:List Addr},Paired (fun c b=>cA K H b (c.map V.int)/\b≠kS) ls bs->(∀b o,b≠kS->H b=some o->a b=some o)->Paired (fun(x:List Int×Addr) p=>a p=some (.tup [.int x.1.length,.ref x.2])) (ls.zip bs) ps->Paired (KV K a) (ls.map mL) (ps.map V.ref)
 |_,_,_,.nil,_,h=>by cases h;exact .nil
 |_,_,_,.cons r t,kp,h=>by
  cases h with
  |cons e d=>
   refine .cons ⟨_,_,rfl,.inl (.inl e),?_⟩ (WS t kp d);rcases r.1 with(y|⟨o,y⟩)|y
   ·exact .inl (.inl (kp _ _ r.2 y))
   ·exact .inl (.inr ⟨o,kp _ _ r.2 y⟩)
   ·exact .inr y
theorem Od{k:Nat}{T e f:Addr}{l c:Int}{q:Str}{bs:List Addr}{P:Fin->Shared->Prop}(I:Inv X U Z H s)(ha:H a=some (.lst (bs.map V.ref)))(h0:X.s₀.heap.get? a=none)(af:a∉sH X.stack)(L:rJ H s.heap T e f l c q (Cz q p0 p1 p2 p3 p4 p5 pm e ctv))(S:Paired (fun zs b=>cA X.K H b (zs.map V.int)) ls bs)(d6:ls.Nodup)(hr:hU (k+1) X.A.in1.in1)(hu:X.A.units+30<cLine)(c5:X.mg "len" = none)(hz:bs.length<60)(h:∀H' s' A D,Inv X U Z H' s'->(∀x o,x≠a->H x=some o->H' x=some o)->H' a=some (.lst (A.map V.ref))->(∀R:List Int->Addr->Prop,Paired R ls bs->Paired R D A)->D.Perm ls->(D.map mL).Pairwise (fun x y=>pF x y=true)->P (.done (.ret .none)) s') :
  wpAny (model X.prog X.w) X.A.in1.in1 (ksk_tree a (.ref f) false) P E s:=by
 obtain⟨hl,its,n,r,ho⟩:=(show cD X.prog X.w H s.heap a (.lst _)from I.hok a _ ha);obtain rfl:its=bs.map Value.ref:=nS r;have d2:∀p∈X.pn++U,p.1≠a:=fun p hp z=>(by have:=(I.pin p hp).2.1;rw[z,ha]at this;cases this);have aT:a≠T:=fun z=>(by subst z;rw[L.hT]at ha;cases ha);have ae:a≠e:=fun z=>(by subst z;rw[L.he]at ha;cases ha);have b7:a≠f:=fun z=>(by subst z;rw[L.fn]at ha;cases ha);unfold ksk_tree;have c0:(bs.map Value.ref).toArray.size<=sizeLine:=(by simp only[Y7,Y9];rw[W9];lia);refine Z9 (listItems_at ho rfl (Z9 (O3 ho rfl ?_ c0 (Y3 _))));have sb:=V2 s.heap a (Obj.mapSeq fun _=>(#[]:Array Value));obtain⟨e1,a6⟩:∃e1,(s.heap.update a (Obj.mapSeq fun _=>(#[]:Array Value))).get? a=some (seqObj "list" #[] e1):=⟨_,N1 ho fun _=>#[]⟩;have I1:Inv X U Z (cL H a (.lst [])) {s with heap:=s.heap.update a (Obj.mapSeq fun _=>(#[]:Array Value))}:=I.write (t':=s.toks) (by rw[ha];trivial) (.inl rfl) (fun b u S z=>(sb.2 b S).trans z) ⟨_,a6⟩ ⟨Y3 _,[],e1,.nil,a6⟩;refine Z9 (L4 a6 rfl (Z9 (zx ?_ (by simpa using c0))));refine Z9 (GE ?_ (Y3 _));refine X1 ?_;obtain⟨M,b6⟩:∃M,M=((s.heap.update a (Obj.mapSeq fun _=>(#[]:Array Value))).push (seqObj "tuple" (bs.map Value.ref).toArray 0)).push (seqObj "list" #[] 0):=⟨_,rfl⟩;obtain⟨d,b5⟩:∃d,d=((s.heap.update a (Obj.mapSeq fun _=>(#[]:Array Value))).push (seqObj "tuple" (bs.map Value.ref).toArray 0)).objs.size:=⟨_,rfl⟩
 suffices hS:wpAny (model X.prog X.w) X.A.in1.in1 (ksk_rest a (.ref f) false (bs.map Value.ref).toArray e1 (.ref d)) P E {s with heap:=M} by subst b6;subst b5;exact hS
 have b0:∀b o,(s.heap.update a (Obj.mapSeq fun _=>(#[]:Array Value))).get? b=some o->M.get? b=some o:=fun b o z=>(by rw[b6];exact Z3 _ (Z3 _ z));have d4:M.get? d=some (seqObj "list" #[] 0):=(by rw[b6,b5];exact X9 _ rfl);have N:(s.heap.update a (Obj.mapSeq fun _=>(#[]:Array Value))).objs.size<=d:=(by rw[b5,size_push'];exact FB _);have a7:cL H a (.lst []) d=none:=I1.hok.fresh N;have ka:d≠a:=fun z=>(by subst z;rw[aM]at a7;cases a7);have K:H d=none:=(by rw[aJ ka]at a7;exact a7);have kT:d≠T:=fun z=>(by subst z;rw[L.hT]at K;cases K);have ke:d≠e:=fun z=>(by subst z;rw[L.he]at K;cases K);have kf:d≠f:=fun z=>(by subst z;obtain⟨of,d3,_⟩:=L.hf;have:=Z1 d3;rw[Heap.size_update]at N;exact absurd this (Nat.not_lt.mpr N));have I2:Inv X U Z (cL (cL H a (.lst [])) d (.lst [])) {s with heap:=M}:=I1.laid (t':=s.toks) b0 N ⟨Y3 _,[],0,.nil,d4⟩;have e0:=De I2 (show cL (cL H a (.lst [])) d (.lst []) a=some (.lst []) by rw[aJ (Y8 ka),aM]);have d0:∀b o,b≠a->s.heap.get? b=some o->M.get? b=some o:=fun b o S z=>b0 b o ((sb.2 b S).trans z);have J0:IX X U Z (cut a H) d T e f l c q (Cz q p0 p1 p2 p3 p4 p5 pm e ctv) [] [] [] a e1 (cut a (cL (cL H a (.lst [])) d (.lst []))) {s with heap:=M}:=
  ⟨b0 _ _ a6,yT,Y8 ka,e0,L.mono (fun x o hx z=>by
   have x1:x≠a:=(by rcases hx with rfl|rfl;exact Y8 aT;exact Y8 ae);have x2:x≠d:=(by rcases hx with rfl|rfl;exact Y8 kT;exact Y8 ke);rw[jC x1,aJ x2,aJ x1];exact z) (fun x o hx z=>d0 x o (by rcases hx with rfl|rfl|rfl;exact Y8 aT;exact Y8 ae;exact Y8 b7) z) (by rw[jC (Y8 b7),aJ (Y8 kf),aJ (Y8 b7)];exact L.fn),
   fun b o S z=>by have c7:b≠a:=fun w=>(by subst w;rw[yT]at z;cases z);rw[jC c7]at z ⊢;rw[aJ S,aJ c7];exact z,by rw[jC ka,aM];rfl,.nil,rfl⟩
 unfold ksk_rest;refine Z9 (T8 (Z9 ?_));rw[<-Q8];have c6:Paired (fun zs b=>cA X.K (cut a H) b (zs.map V.int)/\b≠d) ls bs:=Paired.mapP S fun zs b z=>by
  rcases z with(y|⟨o,y⟩)|y
  ·have n1:b≠a:=fun w=>(by subst w;rw[ha]at y;cases y);exact⟨.inl (.inl (by rw[jC n1];exact y)),fun w=>by subst w;rw[K]at y;cases y⟩
  ·have n1:b≠a:=fun w=>(by subst w;rw[ha]at y;cases y);exact⟨.inl (.inr ⟨o,by rw[jC n1];exact y⟩),fun w=>by subst w;rw[K]at y;cases y⟩
  ·refine⟨.inr y,fun w=>?_⟩;subst w;obtain⟨o,its,n,hk,_⟩:=y;have:=Z1 (I.bk _ _ (I.mod.kin _ _ hk));rw[Heap.size_update]at N;exact absurd this (Nat.not_lt.mpr N)
 refine HD (Q:=fun _ s'=>wpAny (model X.prog X.w) X.A.in1.in1 (do let keys <-Builtin.List.listItems (Value.ref d);ksk_end a false (List.map Value.ref bs).toArray e1 (Value.ref d) keys) P E s') hr c5 kT ke kf af (fun b u s Q' hc=>?_) bs ls [] [] [] _ _ c6 (by simpa using hz) J0 fun H3 F ps W=>?_
 ·refine Z9 (Ta (W0 hc (fun v s2 z=>?_) fun _ _ z=>z.elim));exact Z9 (W0 z (fun _ F z=>Z7 z) fun _ _ z=>z.elim)
 ·rw[J2,J2]at W;obtain⟨zl,b9,n3,r3,b4⟩:=(show cD X.prog X.w H3 F.heap d (.lst _)from W.inv.hok d _ W.st);obtain rfl:b9=ps.map Value.ref:=nS r3;refine Z9 (listItems_at b4 rfl ?_);have a8:ls.length=bs.length:=fZ S;have c4:ps.length=bs.length:=by
   have:=fZ W.ks;rw[List.length_zip,a8,Nat.min_self]at this;exact this.symm
  have a9:∀(st:SortSt) (A:List Addr) (D:List (List Int)),(arrOf st).map (·.2)=(A.map Value.ref).toArray->failedOf st=none->A.length=bs.length->(∀R:List Int->Addr->Prop,Paired R ls bs->Paired R D A)->D.Perm ls->(D.map mL).Pairwise (fun x y=>pF x y=true)->wpAny (model X.prog X.w) X.A.in1.in1 (ksk_tail a false e1 (.ref d) st) P E F:=fun st A D z1 z2 z0 z3 z4 z5=>(by unfold ksk_tail;dsimp only;refine Z9 (O3 b4 rfl ?_ (by simp only[Y7,Y9];rw[W9];lia) (Y3 _));have b8:=V2 F.heap d (Obj.mapSeq fun _=>(#[]:Array Value));obtain⟨e3,c2⟩:∃e3,(F.heap.update d (Obj.mapSeq fun _=>(#[]:Array Value))).get? d=some (seqObj "list" #[] e3):=⟨_,N1 b4 fun _=>#[]⟩;have I4:Inv X U Z (cL H3 d (.lst [])) {F with heap:=F.heap.update d (Obj.mapSeq fun _=>(#[]:Array Value))}:=W.inv.write (t':=F.toks) (by rw[W.st];trivial) (.inl rfl) (fun b u S z=>(b8.2 b S).trans z) ⟨_,c2⟩ ⟨Y3 _,[],e3,.nil,c2⟩;have a5:(F.heap.update d (Obj.mapSeq fun _=>(#[]:Array Value))).get? a=some (seqObj "list" #[] e1):=(b8.2 a (Y8 ka)).trans W.ob;have I5:Inv X U Z (cL (cL H3 d (.lst [])) a (.lst [])) {F with heap:=F.heap.update d (Obj.mapSeq fun _=>(#[]:Array Value))}:=QU (its:=[]) I4 (by rw[aJ (Y8 ka)];exact W.na) h0 a5 .nil (Y3 _) d2;refine Z9 (wpAny_letGo (Z9 (L4 a5 rfl ?_)));rw[z1,z2];refine Z9 (O3 a5 rfl ?_ (Y3 _) (by simp only[Y2,Y5,Y7,Y9];rw[W9];lia));simp only[C6,Y2,Y5];have c8:=V2 (F.heap.update d (Obj.mapSeq fun _=>(#[]:Array Value))) a (Obj.mapSeq fun _=>(A.map Value.ref).toArray);have c1:=N1 a5 fun _=>(A.map Value.ref).toArray;refine Z7 (h (cL (cL (cL H3 d (.lst [])) a (.lst [])) a (.lst (A.map V.ref))) _ A D (I5.write (t':=F.toks) (by rw[aM];trivial) (.inl rfl) (fun b u S z=>(c8.2 b S).trans z) ⟨_,c1⟩ ⟨by rw[Y9,W9];lia,_,_,iR A,c1⟩) (fun x o hx z=>?_) aM z3 z4 z5);have xk:x≠d:=fun w=>(by subst w;rw[K]at z;cases z);rw[aJ hx,aJ hx,aJ xk];exact W.kp x o xk (by rw[jC hx];exact z));have d7:Paired (KV X.K H3) (ls.map mL) (ps.map V.ref):=WS c6 W.kp W.ks;have b3:=KV.pks W.inv d7 (iR ps);have c3:(ls.map mL).Nodup:=List.pairwise_map.mpr (d6.imp fun d5 z=>d5 (Prod.mk.inj z).2);unfold ksk_end;dsimp only;simp only[Y2,Y5];by_cases M:(bs.map Value.ref).toArray.size<2
  ·rw[Z8 M,Z8 M];refine Z9 (Z7 ?_);rw[StateT.run_pure];refine Z9 (Z7 ?_);dsimp only;rw[Y7,Y9]at M;refine a9 _ bs ls ?_ rfl rfl (fun _ z=>z) (.refl _) ?_
   ·show Array.map (fun x=>x.snd) ((ps.map Value.ref).toArray.zip (bs.map Value.ref).toArray)=_;apply Array.toList_inj.mp;simp[List.map_snd_zip,c4]
   ·match ls,a8 with
    |[],_=>exact .nil|[x],_=>exact D9 _ _|x::y::l,w=>simp at w;lia
  ·rw[Z6 M,Z6 M];rw[Y7,Y9]at M;obtain⟨fs,t1,t2,t3⟩:=uS b3;have lk:(ls.map mL).length=bs.length:=(by rw[Y9];exact a8);have lv:(ps.map Value.ref).length=(bs.map Value.ref).length:=(by rw[Y9,Y9];exact c4);refine Z9 (PySem.W.kat_kind (T:=.type "int") t1 (by rw[t2,Y9];lia) (fun v hv=>by obtain⟨i,t,rfl⟩:=t3 v hv;exact zg rfl) (by decide) ?_);rw[show(Value.type "int" != Value.type "tuple")=true by decide];have run:=(MJ (Qe c3) (by lia)).wp (cmp:=PySem.W.kas_ask X.prog X.w X.A.in1.in1 (tuples' true) (ps.map Value.ref)) (I:=fun s'=>s'=F)
    (Q:=fun p s'=>(PR p (ls.map mL).length/\Sd (fun i j=>pF ((ls.map mL).getD i kd) ((ls.map mL).getD j kd)) p (ls.map mL).length)/\s'=F)
    (fun i j C s' hi hj es hC=>by subst es;obtain⟨b1,y1,y2⟩:=jL b3 (i:=i) (by rw[Y9];lia);obtain⟨b2,y3,y4⟩:=jL b3 (i:=j) (by rw[Y9];lia);show wpAny (model X.prog X.w) X.A.in1.in1 (keyLt' (tuples' true) ((ps.map Value.ref).getD i Value.none) ((ps.map Value.ref).getD j Value.none)) C (fun _ _=>False) _;rw[y1,y3];exact Gh (by simp;lia) y2 y4 (hC _ rfl)) rfl (fun p s' hp hs=>⟨hp,hs⟩)
   rw[lk]at run;have c9:(bs.map Value.ref).length=bs.length:=Y9 ..;refine Z9 (W0 (PySem.W.kat_run (E:=E) (Q:=fun a0 s'=>∃p:Array Nat,arrOf a0=p.map (PySem.W.kas_item ((ps.map Value.ref).toArray.zip (bs.map Value.ref).toArray))/\failedOf a0=none/\(PR p bs.length/\Sd (fun i j=>pF ((ls.map mL).getD i kd) ((ls.map mL).getD j kd)) p bs.length)/\s'=F)
    lv (by lia) (by lia) (G:=fun p s'=>(PR p bs.length/\Sd (fun i j=>pF ((ls.map mL).getD i kd) ((ls.map mL).getD j kd)) p bs.length)/\s'=F) (fun p a0 s' _ a2 a3 a4=>⟨p,a2,a3,a4.1,a4.2⟩) (by rw[c9];exact run)) ?_ fun _ _ e=>e)
   rintro⟨⟨⟩,a0⟩ s' ⟨p,d9,hf,⟨J,d1⟩,rfl⟩;dsimp only;refine a9 a0 (p.toList.map fun i=>bs.getD i 0) (p.toList.map fun i=>ls.getD i []) ?_ hf (by rw[Y9,X2,J.size]) ?_ (mK (by rw[a8];exact J)) ?_
   ·rw[PySem.W.kat_snds lv d9];congr 1;rw[V3];refine Q9 fun i hi=>?_;have a1:i<bs.length:=List.mem_range.mp (J.mem_iff.mp hi);rw[S9,W8,Y1 a1];simp[S9,Y1 a1]
   ·intro R hR;refine vF fun i hi=>?_;have a1:i<bs.length:=List.mem_range.mp (J.mem_iff.mp hi);obtain⟨zs,y1,y2⟩:=nY hR (Y1 a1);rw[S9,S9,y1,Y1 a1];exact y2
   ·rw[V3];refine Ge (lt:=fun _ _=>true) (f:=mL∘fun i=>ls.getD i []) J.size fun i j d8 hj=>?_;have this:pF ((ls.map mL).getD (p.getD i 0) kd) ((ls.map mL).getD (p.getD j 0) kd)=true:=d1 i j d8 hj;have g:∀m,m<bs.length->(ls.map mL).getD m kd=mL (ls.getD m []):=fun m hm=>by
     rw[S9,W8,Y1 (by lia),S9,Y1 (by lia)];rfl
    rw[g _ (J.lt (by lia)),g _ (J.lt hj)]at this;exact this
variable{ep:Nat}{it I:Addr}
def qI(h:Heap)(d:Addr)(es:Array DictEntry)(ep:Nat):Prop:=∃o,h.get? d=some o/\o.ExactDict/\o.data=.dict es ep
theorem qI.typeIs{d:Addr}{c:Array DictEntry}(x:qI s.heap d c ep):s.TypeIs (.ref d) "dict" :=let ⟨o,b,a,_⟩:=x;⟨o,b,a.1⟩
theorem qI.stay{d:Addr}{a:Array DictEntry}(x:qI h d a ep)(k:∀o,h.get? d=some o->h'.get? d=some o):qI h' d a ep:=let ⟨o,b,r⟩:=x;⟨o,k o b,r⟩
theorem RI{d:Addr}{c:Array DictEntry}(hd:(d==sysModules)=false)(D:qI s.heap d c ep)(h:Q (.ref s.heap.objs.size) {s with heap:=s.heap.push {cls:=.type "dict_keyiterator",data:=.fields #[.ref d,.int 0 0,.int c.size 0,.int ep 0]}}):wpAny (model prog w) A (pyIter (.ref d)) Q E s:=by have hT:=D.typeIs;obtain⟨o,b,hc,a⟩:=D;refine J9 hT F.slot_dict_iter (W1 F.slot_dict_iter hT F.entry_dict_iter ?_ (F.args_dict_iter_1 _));unfold Builtin.«dict.__iter__»;refine Z9 ?_;unfold Builtin.Dict.dictSlotNone;refine Z9 (Da hT (show wpAny _ _ (pure (Value.ref d)) _ _ s from Z7 ?_));show wpAny _ _ (Builtin.Dict.showsAll d >>= _) _ _ s;unfold Builtin.Dict.showsAll;rw[Z6 (by rw[hd];exact W6)];refine Z9 (Z7 (Z9 (P1 b a (Z9 (L9 b a ?_)))));refine Z9 (W5 (Z7 ⟨_,rfl,"dict_keyiterator",_,⟨_,X9 _ rfl,rfl⟩,LS.lookup,?_⟩));simpa [rawInt]using h
theorem RJ{d:Addr}{c:Array DictEntry}{Q:Option Value->Shared->Prop}(a:s.heap.IsKeyIter it d i c.size ep)(D:qI s.heap d c ep)(hi:i<c.size)(h:∀h',h'.IsKeyIter it d (i+1) c.size ep->Heap.SameBut it s.heap h'->Q (some c[i].key) {s with heap:=h'}):wpAny (model prog w) A (pyNext (.ref it)) Q E s:=by
 obtain⟨o,j,hc,hd⟩:=id a;obtain⟨l,f,k,g⟩:=D;unfold pyNext;refine Z9 (Ta (T7 (name:=Str.ofString "__next__") a.typeIs LS (W1 LS a.typeIs zm ?_ (zq _))));refine Z9 (Z7 (Z9 (Z9 ?_)))
 first|refine Z9 (L0 a.typeIs (Z7 ?_))|refine Z9 (K6 a.typeIs (Z7 ?_))
 refine Z9 (G0 j hd ?_);have e:Builtin.Dict_items.ownsTuple "dict_keyiterator" = false:=(by decide);simp only[e,Y2,Y5];refine(show wpAny _ _ (if(Value.ref d==Value.none)=true then _ else _) _ _ s from ?_);rw[Z6 (show ¬((Value.ref d==Value.none)=true)from W6)];refine Z9 (Z7 (Z9 (P1 f g ?_)));rw[Z6 (by simp)];refine Z9 (Z7 (Z9 (L9 f g ?_)));rw[Z6 (by simp)];refine Z7 ?_;simp only[show ¬((i:Int)<0)from by lia,Y5,T4,V7 hi];refine Z9 ?_
 first|refine Z9 (L0 a.typeIs (Z7 ?_))|refine Z9 (K6 a.typeIs (Z7 ?_))
 refine Z9 (wpAny_isOneOf_keyiter a.typeIs (show wpAny _ _ (setField (.ref it) 1 (rawInt ((i:Int)+1)) >>= _) _ _ s from Z9 (SC j hd (by simp) ?_)));have b:(s.heap.update it (Obj.mapFields (·.setIfInBounds 1 (rawInt ((i:Int)+1))))).IsKeyIter it d (i+1) c.size ep:=
  ⟨_,U2 _ j (Os (U8 hd _)),(N6 ..).trans hc,by rw[U8 hd];simp[rawInt]⟩
 refine Z9 (X1 (Z9 (wpAny_isOneOf_keyiter (s:={s with heap:=s.heap.update it (Obj.mapFields (·.setIfInBounds 1 (rawInt ((i:Int)+1))))}) b.typeIs ?_)));exact(show wpAny _ _ (pure c[i].key) _ _ _ from Z7 (Z7 ⟨_,rfl,Z7 (h _ b (V2 ..))⟩))
theorem XS{d:Addr}{i:Array DictEntry}{Q:Option Value->Shared->Prop}(hh:A.handled=none)(c:s.heap.IsKeyIter it d i.size i.size ep)(D:qI s.heap d i ep)(h:∀h',Heap.ExtBut it s.heap h'->Q none {s with heap:=h'}):wpAny (model prog w) A (pyNext (.ref it)) Q E s:=by
 obtain⟨o,j,hc,hd⟩:=id c;obtain⟨l,f,k,g⟩:=D;unfold pyNext;refine Z9 (Ta (T7 (name:=Str.ofString "__next__") c.typeIs LS (W1 LS c.typeIs zm ?_ (zq _))));refine Z9 (Z7 (Z9 (Z9 ?_)))
 first|refine Z9 (L0 c.typeIs (Z7 ?_))|refine Z9 (K6 c.typeIs (Z7 ?_))
 refine Z9 (G0 j hd ?_);have e:Builtin.Dict_items.ownsTuple "dict_keyiterator" = false:=(by decide);simp only[e,Y2,Y5];refine(show wpAny _ _ (if(Value.ref d==Value.none)=true then _ else _) _ _ s from ?_);rw[Z6 (show ¬((Value.ref d==Value.none)=true)from W6)];refine Z9 (Z7 (Z9 (P1 f g ?_)));rw[Z6 (by simp)];refine Z9 (Z7 (Z9 (L9 f g ?_)));rw[Z6 (by simp)];refine Z7 ?_;simp only[show ¬((i.size:Int)<0)from by lia,Y5,T4,S8 (Z5 i.size)];refine Z9 ?_
 first|refine Z9 (L0 c.typeIs (Z7 ?_))|refine Z9 (K6 c.typeIs (Z7 ?_))
 refine(show wpAny _ _ (setField (.ref it) 0 .none >>= _) _ _ s from Z9 (SC j hd (by simp) ?_));refine(show wpAny _ _ (newExc (.type "StopIteration") [] >>= _) _ _ _ from Z9 ?_);simp only[newExc,newTuple];refine Z9 (W5 ?_ (by size_fits));refine Z9 (m:=firstArgMember _ _) (S5 (a:=Value.none) (by first|rfl|(simp only[firstArgMember];rfl)) (W5 ?_ (by size_fits)));simp only[raiseNew];refine Z9 (F5 ?_);rw[show A.in1.handled=none from hh];refine Z9 (Z7 (E7 ?_));refine Z9 (T3 (T:="StopIteration") (b:=true) ⟨_,X9 _ rfl,rfl⟩ GT (Z7 ?_));exact h _ (((V2 ..).extBut.push _).push _)
theorem LH{d:Addr}{es:Array DictEntry}(hh:A.handled=none)(f:d≠I):WalksS prog w A I [I,d] [I] (fun x y=>y=x) es.size (fun i v=>∃e,es[i]? = some e/\e.key=v) (fun i s=>s.heap.IsKeyIter I d i es.size ep/\qI s.heap d es ep) where
 sub:=fun b a=>by simp at a;simp[a]
 grefl:=fun _=>rfl
 gtrans:=fun _ _ _ x y=>y.trans x
 frame:=fun i s h tk ⟨hit,D⟩ _ k=>⟨hit.at fun o e=>k I (by simp) o e,D.stay fun o e=>k d (by simp) o e⟩
 item:=fun i s Q E hi ⟨hit,D⟩ hQ=>RJ hit D hi fun h c a=>hQ _ _ ⟨_,V7 hi,rfl⟩ ⟨c,D.stay fun o e=>(a.2 d f).trans e⟩ ⟨fun b o g e=>(a.2 b (by simpa using g)).trans e,rfl,rfl,rfl,Z5 _⟩
 done:=fun s Q E ⟨hit,D⟩ hQ=>XS hh hit D fun h j=>hQ _ ⟨fun b o a e=>j b o (by simpa using a) e,rfl,rfl,rfl,Z5 _⟩
 self:=fun i s Q E ⟨hit,D⟩ hQ=>wpAny_pyIter_keyiter hit hQ
theorem zR:isSubtype (.type "dict") (.type "dict")=pure true:=by rw[Q2];kernel_rfl
theorem EH{es:Array DictEntry}{Q:List Value->Shared->Prop}(hh:A.handled=none)(y:(a==sysModules)=false)(S:qI s.heap a es ep)(W:es.size<=60)(h:∀h' tk,(∀b o,s.heap.get? b=some o->h'.get? b=some o)->s.heap.objs.size<=h'.objs.size->Q (es.toList.map (·.key)) {s with heap:=h',toks:=tk}):wpAny (model prog w) A (collect (.ref a)) Q E s:=by
 obtain⟨o,z,n,hd⟩:=id S;have f:=Z1 z;unfold collect;refine Z9 (zy (SL F.entry_proto_collect ?_));rw[R6 F.plain_proto_collect _];refine(show wpAny _ A.in1 (newList [] >>= fun l=>again (.builtin "list.__iadd__" ⟨[l,.ref a],[]⟩)) _ _ s from Z9 (W5 (Z7 ⟨P9 IR _,SL F.entry_list_iadd ?_⟩)));rw[R6 IR _];have V:qI (s.heap.push {cls:=.type "list",data:=.seq ([]:List Value).toArray}) a es ep:=S.stay fun o e=>Z3 _ e;have D:Shared.TypeIs {s with heap:=s.heap.push {cls:=.type "list",data:=.seq ([]:List Value).toArray}} (.ref a) "dict" :=⟨o,Z3 _ z,n.1⟩;show wpAny _ A.in1 (Builtin.List.listExtendWith (.ref s.heap.objs.size) (.ref a) (.ref s.heap.objs.size)) _ _ _;unfold Builtin.List.listExtendWith;refine Z9 (S6 D ?_);have K:Builtin.List.listSameRef (.ref s.heap.objs.size) (.ref a)=false:=(by simp[Builtin.List.listSameRef,SB f]);rw[Z6 (by rw[K];decide)];refine Z9 (RI (s:={s with heap:=_}) y V ?_);refine Z9 (X1 ?_);unfold Builtin.List.listLengthHint;have j:Shared.TypeIs {s with heap:=(s.heap.push {cls:=.type "list",data:=.seq ([]:List Value).toArray}).push {cls:=.type "dict_keyiterator",data:=.fields #[.ref a,.int 0 0,.int es.size 0,.int ep 0]}} (.ref a) "dict" :=⟨o,Z3 _ (Z3 _ z),n.1⟩;refine Z9 (Tb j F.slot_dict_len.lookup ?_);generalize k:("dict.__len__" : String)=id0
 wp_delta
 rw[show splitId id0=some ("dict","__len__")from by subst k;decide +kernel];subst k;refine Z9 (T3 (b:=true) j zR ?_);rw[Z6 (by simp)];dsimp only;rw[Z8]
 ·refine Z9 (S6 j (Z7 ?_));rw[Z8]
  ·refine Z9 (T8 ?_);have v:(s.heap.push {cls:=.type "list",data:=.seq ([]:List Value).toArray}).objs.size=s.heap.objs.size+1:=(by rw[O6]);have q:((s.heap.push {cls:=.type "list",data:=.seq ([]:List Value).toArray}).push {cls:=.type "dict_keyiterator",data:=.fields #[.ref a,.int 0 0,.int es.size 0,.int ep 0]}).get? s.heap.objs.size=some {cls:=.type "list",data:=.seq ([]:List Value).toArray}:=Z3 _ (X9 _ rfl);refine Z9 (show wpAny _ A.in1 (updateSeq s.heap.objs.size (·.push .none) >>= fun _=>updateSeq s.heap.objs.size (·.pop)) _ _ _ from Z9 (M0 q rfl ?_));have p:=U2 (Obj.mapSeq (·.push Value.none)) q rfl;refine M0 p rfl ?_;have G:=U2 (Obj.mapSeq (·.pop)) p rfl;have g:∀b o,b≠s.heap.objs.size->((s.heap.push {cls:=.type "list",data:=.seq ([]:List Value).toArray}).push {cls:=.type "dict_keyiterator",data:=.fields #[.ref a,.int 0 0,.int es.size 0,.int ep 0]}).get? b=some o->((((s.heap.push {cls:=.type "list",data:=.seq ([]:List Value).toArray}).push {cls:=.type "dict_keyiterator",data:=.fields #[.ref a,.int 0 0,.int es.size 0,.int ep 0]}).update s.heap.objs.size (Obj.mapSeq (·.push Value.none))).update s.heap.objs.size (Obj.mapSeq (·.pop))).get? b=some o:=
    fun b o I e=>(S4 _ _ (Y8 I)).trans ((S4 _ _ (Y8 I)).trans e)
   have J:s.heap.objs.size≠(s.heap.push {cls:=.type "list",data:=.seq ([]:List Value).toArray}).objs.size:=(by rw[v];exact Y6 (M4 _));have C:a≠(s.heap.push {cls:=.type "list",data:=.seq ([]:List Value).toArray}).objs.size:=(by rw[v];exact Y6 (N9 f));refine Z7 ⟨P9 F.plain_extend_loop _,codeAny_extend_loopS (LH (A:=A.in1) (ep:=ep) (es:=es) (by simpa using hh) C) (by rw[W9];lia) _ (by simp only[G4,N7,E6,not_or];exact⟨J,SB f⟩) _ es.size 0 _ _ _ rfl (Y3 _)
    ⟨⟨_,g _ _ (Y8 J) (X9 _ rfl),rfl,rfl⟩,S.stay fun o e=>g _ _ (Y6 f) (Z3 _ (Z3 _ e))⟩ G (ItemsOf.nil _) fun H d X t r c=>?_⟩
   refine(show wpAny _ A (load s.heap.objs.size >>= _) _ _ H from Z9 (wpAny_load r (Z7 ?_)));obtain⟨h',L,T,u,x⟩:=H;have N:L=s.gens:=t.gens;have P:T=s.drawn:=t.drawn;have M:x=s.os:=t.os;subst N;subst P;subst M;have e:d.toList=es.toList.map (·.key):=by
    refine B8 fun i=>?_;rw[W8,T5,T5];by_cases hi:i<es.size
    ·have m:i<d.size:=(by rw[c.1];exact hi);obtain⟨e1,e2,R⟩:=c.2 i _ (V7 m);rw[e2,V7 m,<-R];rfl
    ·rw[S8 (by rw[c.1];lia),S8 (by lia)];rfl
   show Q d.toList _;rw[e];refine h h' u (fun b o e=>t.heap b o ?_ (g b o (Y6 (Z1 e)) (Z3 _ (Z3 _ e)))) (P7 (Z1 r));have:=Z1 e;simp only[G4,N7,E6,not_or];exact⟨Y6 this,by rw[v];exact Y6 (N9 this)⟩
  ·decide +kernel
 ·decide +kernel
end PF
namespace PF
open PySem PySem.Spec PySem.W L2
open PyProof.Rows hiding St InstAt
abbrev TK:=List Int×Addr×Value
noncomputable def mX(k:List Int)(ks:List (List Int)):Bool:=ks.any fun k'=>decide (k'=k)
noncomputable def dJ{α:Type}(k:List Int):List (List Int)->List α->Option α
 |k'::ks,d::l=>if k'=k then some d else dJ k ks l
 |_,_=>none
noncomputable def vC{α:Type}(k:List Int)(d:α):List (List Int)->List α->List α
 |k'::ks,d'::l=>(if k'=k then d else d')::vC k d ks l|_,_=>[]
def iF(k:List Int)(ks:List (List Int)):List (List Int):=if mX k ks=true then ks else ks++[k]
def xB{α:Type}(k:List Int)(b:α)(ks:List (List Int))(bs:List α):List α:=if mX k ks=true then bs else bs++[b]
def lV{α:Type}(k:List Int)(d:α)(ks:List (List Int))(l:List α):List α:=if mX k ks=true then vC k d ks l else l++[d]
variable{α β γ:Type}
theorem xJ{R:β->γ->Prop}{f:α->β}{g:α->γ}:∀{xs:List α},Paired R (xs.map f) (xs.map g)->∀x∈xs,R (f x) (g x)
 |[],_,x,h=>nomatch h
 |y::xs,p,x,h=>by
  rw[Y4,Y4]at p;cases p with
  |cons r t=>
   rcases G4.mp h with rfl|h
   ·exact r
   ·exact xJ t x h
theorem xE{R:α->β->Prop}{x:α}{y:β}(h:R x y):∀{l:List α} {m:List β},Paired R l m->Paired R (l++[x]) (m++[y])
 |_,_,.nil=>.cons h .nil|_,_,.cons r t=>.cons r (xE h t)
variable{ks:List (List Int)}
theorem UQ{R:List Int->β->Prop}{k:List Int}{b:β}(h:R k b){bs:List β}(p:Paired R ks bs):Paired R (iF k ks) (xB k b ks bs):=by
 unfold iF xB;by_cases c:mX k ks=true
 ·rw[Z8 c,Z8 c];exact p
 ·rw[Z6 c,Z6 c];exact xE h p
variable{b:Addr}{u:Value}{v:V}{vs:List V}
section
variable{k:List Int}
theorem BW:∀{xs:List TK} {vs:List V} {v:V},bD vs (xs.map (·.2.2))->dJ k (xs.map (·.1)) vs=some v->∃p,atKey xs k=some p/\RelV v p.2
 |[],vs,v,r,e=>by cases vs<;>cases e
 |x::xs,vs,v,r,e=>by
  rw[Y4]at r e;cases r with
  |cons h t=>
   unfold dJ at e;by_cases c:x.1=k
   ·rw[Z8 c]at e;obtain rfl:=Z2 e;exact⟨x.2,by simp[atKey,T9,c],h⟩
   ·rw[Z6 c]at e;obtain⟨p,b,a⟩:=BW t e;exact⟨p,by simpa [atKey,T9,c]using b,a⟩
theorem MF:∀{xs:List TK} {vs:List V},bD vs (xs.map (·.2.2))->dJ k (xs.map (·.1)) vs=none->atKey xs k=none
 |[],vs,r,e=>rfl
 |x::xs,vs,r,e=>by
  rw[Y4]at r e;cases r with
  |cons h t=>
   unfold dJ at e;by_cases c:x.1=k
   ·rw[Z8 c]at e;cases e
   ·rw[Z6 c]at e;simpa [atKey,T9,c]using MF t e
theorem yY:∀{xs:List TK},(atKey xs k).isSome=mX k (xs.map (·.1))
 |[]=>rfl
 |x::xs=>by
  have a:=yY (xs:=xs);by_cases c:x.1=k
  ·simp[atKey,mX,T9,c]
  ·simp only[mX,Y4,G3,decide_eq_false c,Bool.false_or];unfold mX at a;rw[<-a];simp[atKey,T9,c]
theorem Ak{a:List TK}:(storedH a k b u).map (·.1)=iF k (a.map (·.1)):=by
 unfold storedH iF;rw[yY];by_cases c:mX k (a.map (·.1))=true
 ·rw[Z8 c,Z8 c,V3];refine Q9 fun x _=>?_;show(putAt k u x).1=x.1;unfold putAt;split<;>rfl
 ·rw[Z6 c,Z6 c];simp
theorem Al{a:List TK}:(storedH a k b u).map (·.2.1)=xB k b (a.map (·.1)) (a.map (·.2.1)):=by
 unfold storedH xB;rw[yY];by_cases c:mX k (a.map (·.1))=true
 ·rw[Z8 c,Z8 c,V3];refine Q9 fun x _=>?_;show(putAt k u x).2.1=x.2.1;unfold putAt;split<;>rfl
 ·rw[Z6 c,Z6 c];simp
theorem MI(h:RelV v u):∀{xs:List TK} {vs:List V},bD vs (xs.map (·.2.2))->bD (vC k v (xs.map (·.1)) vs) ((xs.map (putAt k u)).map (·.2.2))
 |[],vs,r=>by rw[R1]at r;cases r;exact .nil
 |x::xs,vs,r=>by
  rw[Y4]at r;cases r with
  |cons a t=>
   refine .cons ?_ (MI h t);unfold putAt;by_cases c:x.1=k
   ·rw[Z8 c,Z8 c];exact h
   ·rw[Z6 c,Z6 c];exact a
theorem Aj(h:RelV v u){a:List TK}(r:bD vs (a.map (·.2.2))):bD (lV k v (a.map (·.1)) vs) ((storedH a k b u).map (·.2.2)):=by
 unfold storedH lV;rw[yY];by_cases c:mX k (a.map (·.1))=true
 ·rw[Z8 c,Z8 c];exact MI h r
 ·rw[Z6 c,Z6 c,N5];exact xE h r
theorem Bg:(iF k ks).length<=ks.length+1:=by unfold iF;split<;>simp
end
variable{X:Cx}{U:List (Addr×Obj)}{Z:St}{H:Hp}{s:Shared}{a:Addr}{z:List Int}{A:Around}{E Q:Value->Shared->Prop}{P:Program}{w:World}{h h':Heap}
section
variable{bs:List Addr}
theorem wV(I:Inv X U Z H s)(h:cA X.K H b (z.map V.int)):(tupleKind (intKind X.prog X.w)).is s.heap z b:=by obtain⟨a,r,⟨o,c,hc,n,hd⟩,_⟩:=I.tuple h;exact⟨o,a.toArray,n,c,hc,hd,by simpa using xV r⟩
theorem FL(I:Inv X U Z H s)(h:H a=some (zL a ks bs vs))(g:Paired (fun z b=>cA X.K H b (z.map V.int)) ks bs) :
  (a==sysModules)=false/\ks.length<=sizeLine/\∃c:List TK,c.map (·.1)=ks/\c.map (·.2.1)=bs/\bD vs (c.map (·.2.2))/\s.heap.DictOfH (tupleKind (intKind X.prog X.w)) a c:=by
 obtain⟨⟨e,c,o,l,m,e1,e2,f,i,d,hd,he,j,k⟩,_,_⟩:=(show cD X.prog X.w H s.heap a (.ext _)from I.hok a _ h);refine⟨e,k,c,e1,e2,f,o,l,m,i,d,hd,he,fun x d=>?_,by rw[e1];exact j⟩;subst e1 e2;exact wV I (xJ g x d)
theorem JL{xs:List TK}(b:(a==sysModules)=false)(i:ks.length<=sizeLine)(e1:xs.map (·.1)=ks)(e2:xs.map (·.2.1)=bs)(c:bD vs (xs.map (·.2.2)))(d:h.DictOfH (tupleKind (intKind P w)) a xs):Af a ks bs vs h:=by obtain⟨o,j,k,f,e,hd,he,_,g⟩:=d;exact⟨b,xs,o,j,k,e1,e2,c,f,e,hd,he,by rw[<-e1];exact g,i⟩
theorem Af.stay(x:Af a ks bs vs h)(k:∀o,h.get? a=some o->h'.get? a=some o):Af a ks bs vs h':=by obtain⟨b,c,o,f,g,e1,e2,d,e,r⟩:=x;exact⟨b,c,o,f,g,e1,e2,d,k o e,r⟩
theorem Af.at(x:Af a ks bs vs h):∃o,h.get? a=some o:=by obtain⟨b,d,o,f,g,e1,e2,e,c,r⟩:=x;exact⟨o,c⟩
theorem TL(x:Af a ks bs vs h):cD P w H h a (zL a ks bs vs):=⟨x,x.at,fun _ _ y k=>y.stay k⟩
theorem MG(I:Inv X U Z H s)(h:H a=some (zL a ks bs vs)):s.TypeIs (.ref a) "dict" /\∀b,Value.ref a=.ref b->∃ob,s.heap.get? b=some ob/\ob.dict=none:=by obtain⟨⟨e,f,o,k,l,e1,e2,g,d,c,hd,he,i,j⟩,_,_⟩:=(show cD X.prog X.w H s.heap a (.ext _)from I.hok a _ h);refine⟨⟨o,d,c.1⟩,fun b q=>?_⟩;cases q;exact⟨o,d,c.2.1⟩
theorem Hn(i:A.units+1<cLine)(I:Inv X U Z H s)(h:H a=some (zL a ks bs vs))(k:Paired (fun z b=>cA X.K H b (z.map V.int)) ks bs)(m:cA X.K H b (z.map V.int))(l:dJ z ks vs=some v)(q:∀e f,Inv X U Z H f->RelV v e->Q e f):wpAny (model X.prog X.w) A (getItem (.ref a) (.ref b)) Q E s:=by obtain⟨j,_,o,e1,e2,g,n⟩:=FL I h k;subst e1;obtain⟨p,d,c⟩:=BW g l;exact wpAny_getItem_heap (N8 i) (wV I m) n d (q _ _ (I.tok _) c)
theorem Hm{Q:Unit->Shared->Prop}(m:A.units+1<cLine)(I:Inv X U Z H s)(h:H a=some (zL a ks bs vs))(o:Paired (fun z b=>cA X.K H b (z.map V.int)) ks bs)(r:cA X.K H b (z.map V.int))(k:ks.length<sizeLine)(j:RelV v u)(q:∀g,Inv X U Z (cL H a (zL a (iF z ks) (xB z b ks bs) (lV z v ks vs))) g->Q () g):wpAny (model X.prog X.w) A (setItem (.ref a) (.ref b) u) Q E s:=by obtain⟨d,p,i,e1,e2,c,w⟩:=FL I h o;have l:i.length<=sizeLine:=(by rw[<-Y9 (f:=fun x:TK=>x.1),e1];exact p);refine wpAny_setItem_heap (hsz:=l) (N8 m) (wV I r) w fun t e n=>q _ ?_;have x:Af a (iF z ks) (xB z b ks bs) (lV z v ks vs) t:=(by subst e1 e2;exact JL d (W2 Bg k) Ak Al (Aj j c) e);exact EB I (by rw[h];exact True.intro) n x.at (TL x)
theorem Ae(t:A.units+2<cLine)(I:Inv X U Z H s)(h:H a=some (zL a ks bs vs))(l:Paired (fun z b=>cA X.K H b (z.map V.int)) ks bs)(m:cA X.K H b (z.map V.int))(k:RelV v u)(q:∀g i,Inv X U Z H i->RelV ((dJ z ks vs).getD v) g->Q g i):wpAny (model X.prog X.w) A (call (.builtin "dict.get") [.ref a,.ref b,u]) Q E s:=by
 obtain⟨d,_,f,e1,e2,c,j⟩:=FL I h l;subst e1;refine call_meetsIn F.slot_dict_get j.typeIs F.entry_dict_get (F.args_dict_get_3 _ _ _) (meetsH_dict_get_default (tupleKind (intKind X.prog X.w)) a b d u) ⟨N8 (by lia),z,f,wV I m,j,?_⟩;refine q _ _ (I.tok _) ?_;cases e:dJ z (f.map (·.1)) vs with
 |none=>rw[MF c e];exact k
 |some r=>obtain⟨p,o,n⟩:=BW c e;rw[o];exact n
end
variable{K:Z4}
section
variable{F:Hp}
theorem CU{k:List Int}:∀{ks:List (List Int)} {l:List D} {vs:List V} {d:D},aX K F l vs->dJ k ks l=some d->∃v,dJ k ks vs=some v/\jS K F d v
 |[],l,vs,d,r,e=>by cases l<;>cases e
 |k'::ks,[],vs,d,r,e=>by cases e
 |k'::ks,d'::l,vs,d,r,e=>by
  obtain⟨v,t,rfl,q,r⟩:=r;unfold dJ at e ⊢;by_cases c:k'=k
  ·rw[Z8 c]at e ⊢;obtain rfl:=Z2 e;exact⟨v,rfl,q⟩
  ·rw[Z6 c]at e ⊢;exact CU r e
theorem NG{k:List Int}:∀{ks:List (List Int)} {l:List D} {vs:List V},aX K F l vs->dJ k ks l=none->dJ k ks vs=none
 |[],l,vs,r,e=>by cases vs<;>rfl
 |k'::ks,[],vs,r,e=>by have h:vs=[]:=r;subst h;rfl
 |k'::ks,d'::l,vs,r,e=>by
  obtain⟨v,t,rfl,q,r⟩:=r;unfold dJ at e ⊢;by_cases c:k'=k
  ·rw[Z8 c]at e;cases e
  ·rw[Z6 c]at e ⊢;exact NG r e
theorem MR{k:List Int}{d:D}(q:jS K F d v):∀{ks:List (List Int)} {l:List D} {vs:List V},aX K F l vs->aX K F (vC k d ks l) (vC k v ks vs)
 |[],l,vs,r=>by cases l<;>cases vs<;>rfl
 |k'::ks,[],vs,r=>by have h:vs=[]:=r;subst h;rfl
 |k'::ks,d'::l,vs,r=>by
  obtain⟨b,t,rfl,a,r⟩:=r;unfold vC;refine⟨_,_,rfl,?_,MR q r⟩;by_cases c:k'=k
  ·rw[Z8 c,Z8 c];exact q
  ·rw[Z6 c,Z6 c];exact a
theorem Bh{k:List Int}{d:D}(q:jS K F d v){l:List D}(r:aX K F l vs):aX K F (lV k d ks l) (lV k v ks vs):=by
 unfold lV;by_cases c:mX k ks=true
 ·rw[Z8 c,Z8 c];exact MR q r
 ·rw[Z6 c,Z6 c];exact r.append (.one q)
def FC:D->Option (List Int)
 |.tup l=>dX l|_=>none
theorem BX{d:D}(e:FC d=some z)(r:RV K F H d v):∃b,v=.ref b/\cA K F b (z.map V.int):=by
 cases d<;>first|(simp[FC]at e;done)|skip
 rename_i l;have g:dX l=some z:=e;obtain⟨b,a,rfl,f,c⟩:=r;obtain rfl:=lR g;have:a=z.map V.int:=nV c;subst this;exact⟨b,rfl,f⟩
end
abbrev Ga(K:Z4):R2:=fun x y H Q=>∃(a b:Addr) (ks:List (List Int)) (bs:List Addr) (vs:List V) (z:List Int) (v:V),x=.ref a/\y=.ref b/\H a=some (zL a ks bs vs)/\Paired (fun z b=>cA K H b (z.map V.int)) ks bs/\cA K H b (z.map V.int)/\dJ z ks vs=some v/\Q v H
variable{e value:Expr}{pos pos' tpos apos cpos:Pos}{tv:TE}
section
variable{o i:Expr}{td ty:TE}
theorem Br(f:X.A.units+1<cLine)(j:PE X o td)(hi:PE X i ty)(g:YU i):PE X (.Subscript o i pos) (Fw (Ga X.K) td ty):=by intro U s Z H Q I h;refine MH PySem.F.slot_dict_getitem.lookup g (eL (j U s Z H _ I h) fun u d ⟨x,H1,I1,rx,q1⟩=>eL (hi U d Z H1 _ I1 q1) fun e n ⟨y,H2,I2,ry,a,b,ks,bs,vs,z,v,ex,ey,h1,h2,h3,h4,q2⟩=>?_);subst ex ey;obtain rfl:u=Value.ref a:=rx;obtain rfl:e=Value.ref b:=ry;exact⟨(MG I2 h1).1,Hn f I2 h1 h2 h3 h4 fun l m k c=>⟨v,H2,k,c,q2⟩⟩
def Om(K:Z4)(td ty tv:TE):TS:=fun Dn Z H=>tv Z H fun v H1=>td Z H1 fun x H2=>ty Z H2 fun y H3=>∃(a b:Addr) (ks:List (List Int)) (bs:List Addr) (vs:List V) (z:List Int),x=.ref a/\y=.ref b/\H3 a=some (zL a ks bs vs)/\Paired (fun z b=>cA K H3 b (z.map V.int)) ks bs/\cA K H3 b (z.map V.int)/\ks.length<sizeLine/\
 Dn.nx Z (cL H3 a (zL a (iF z ks) (xB z b ks bs) (lV z v ks vs)))
theorem Bi(g:X.A.units+1<cLine)(k:PE X o td)(hi:PE X i ty)(f:PE X value tv)(j:swapsWith value (some (.Subscript o i pos')) pos.line X.env=pure false) :
  PS X (.Assign [.Subscript o i pos'] value pos) (Om X.K td ty tv):=by
 intro U s Z H D I h;refine wpAny_Assign_Subscript (eL (f U s Z H _ I h) fun r d ⟨v,H1,I1,rv,q1⟩=>eL (k U d Z H1 _ I1 q1) fun u c ⟨x,H2,I2,rx,q2⟩=>eL (hi U c Z H2 _ I2 q2) fun e n ⟨y,H3,I3,ry,a,b,ks,bs,vs,z,ex,ey,h1,h2,h3,h4,q3⟩=>?_) j;subst ex ey;obtain rfl:u=Value.ref a:=rx;obtain rfl:e=Value.ref b:=ry;exact Hm g I3 h1 h2 h3 h4 rv fun m l=>⟨Z,_,l,q3⟩
theorem Bq:PE X (.Dict [] [] pos) (fun _ H Q=>∀p,H p=none->Q (.ref p) (cL H p (zL p [] [] []))):=fun U s Z H Q I h=>
 wpAny_Dict_empty ⟨.ref s.heap.objs.size,_,I.laid (a:=s.heap.objs.size) (o:=zL s.heap.objs.size [] [] []) (t':=s.toks) (fun _ _ q=>Z3 _ q) (Z5 _)
  (TL (JL (P:=X.prog) (w:=X.w) (xs:=[]) (beq_eq_false_iff_ne.mpr (Y8 (Y6 I.big))) (Y3 _) rfl rfl .nil (Heap.DictOfH.new _))),rfl,h _ (I.hok.fresh (Z5 _))⟩
abbrev Ic(K:Z4):V->List V->Hp->VK->Prop:=fun x ys H Q=>∃(a b:Addr) (ks:List (List Int)) (bs:List Addr) (vs:List V) (z:List Int) (v:V),x=.ref a/\ys=[.ref b,v]/\H a=some (zL a ks bs vs)/\Paired (fun z b=>cA K H b (z.map V.int)) ks bs/\cA K H b (z.map V.int)/\Q ((dJ z ks vs).getD v) H
theorem VB{e1 e2:Expr}{t:TA}(y:X.A.units+2<cLine)(C:PE X o td)(D:PA X [e1,e2] t)(e:attributeBase o "get" X.env (eval o X.env)=eval o X.env)(f:((backTo cpos (starEach [e1,e2] X.env)).all (fun x=>!x.1)&&(backToKw cpos (keywordEach [] X.env)).all (fun x=>x.1.isSome)&&decide (([e1,e2]:List Expr).length+([]:List Keyword).length+(if([]:List Keyword).isEmpty then 0 else 1)<30))=true)(d:(apos.endLine==cpos.line)=true)(A:starEach [e1,e2] X.env=(false,eval e1 X.env)::starEach [e2] X.env)(c:(backTo cpos (starEach [e2] X.env)).any (·.1)=false) :
  PE X (.Call (.Attribute o "get" apos) [e1,e2] [] cpos) (fun Z H Q=>td Z H fun x g=>(∃a ks bs vs,x=.ref a/\g a=some (zL a ks bs vs))/\t Z g fun m l=>Ic X.K x m l Q):=by
 intro U s Z H Q I h;refine wpAny_Call_method_late e f d rfl (eL (C U s Z H _ I h) fun v u ⟨x,g,I1,r1,⟨a,ks,bs,vs,ex,h1⟩,q1⟩=>?_);subst ex;obtain rfl:v=Value.ref a:=r1;obtain⟨r,q⟩:=MG I1 h1;refine⟨"dict",_,PySem.F.plainAttrs_dict,PySem.F.slot_dict_get,PySem.F.type_dict_get,r,q,?_⟩;have n:=D cpos U u Z g _ I1 q1;rw[A]at n ⊢;refine Dd (by show(false || (backTo cpos (starEach [e2] X.env)).any (·.1))=false;rw[c]<;>rfl) (B7 ?_);refine eL n fun G L ⟨m,l,I2,r2,a',b,ks',bs',vs',z,w,ex,ey,g1,g2,g3,q2⟩=>?_;cases ex;subst ey;obtain⟨p,J,rfl,k,j⟩:=bD.two r2;obtain rfl:p=Value.ref b:=k;exact Ae y I2 g1 g2 g3 j fun F K E i=>⟨_,l,E,i,q2⟩
def Pc(K:Z4):V->List V->Hp->VK->Prop:=fun x vs H Q=>∃l b xs zs,x=.ref l/\vs=[.ref b]/\H l=some (.lst xs)/\cA K H b zs/\xs.length+zs.length<=sizeLine/\Q .non (cL H l (.lst (xs++zs)))
theorem Dj(l:Addr)(c:Array Value)(n:Nat)(b:Addr)(p:Option Addr)(k:Array (Option Value))(a:Array Value)(n2:Nat)(m:¬(!c.isEmpty&&Builtin.List.listTooLong (c.size+a.size))=true)(i:c.size<=sizeLine)(f:c.size+a.size<=sizeLine+1) :
  Meets (Builtin.«list.extend» ⟨[.ref l,.ref b],[]⟩) (fun _ R s=>s.heap.get? l=some {cls:=.type "list",data:=.seq c n}/\s.heap.get? b=some {cls:=.type "tuple",dict:=p,data:=.seq a n2,slots:=k}/\R (.ok (.ret Value.none)) {s with heap:=s.heap.update l (Obj.mapSeq fun x=>x++a),toks:=s.toks}):=
 .of_wp fun prog w A R s h=>by obtain⟨q,g,d,tk,os⟩:=s;obtain⟨j,o,h⟩:=h;have g1:=G7;have g2:=AutoSeq1.sub_tuple_tuple;have g3:=AutoSeq1.sub_list_list;have t:=AutoSeq1.sub_tuple_list;have r:=AutoSeq1.sub_list_tuple;have e:(c++a).size<=sizeLine+1:=(by rw[Array.size_append];exact f);wp_walk using(M0 j rfl (hz:=i) (_hz':=e)),M8 j,M8 o;exact⟨_,rfl,h⟩
theorem Co:Za X "list.extend" (Pc X.K):=by
 intro U s Z H x G v J Q I k m h;obtain⟨l,b,E,D,rfl,rfl,i,y,K,q⟩:=h;cases k;obtain⟨u,rfl,p⟩:=m.one;cases p;obtain⟨z,c,n,r,L,e⟩:=I.lstM i;obtain⟨a,g,⟨o,t,hc,n2,hd⟩,_⟩:=I.tuple y;have w:=g.length;obtain⟨cl,A,C,j⟩:=o;obtain rfl:cl=_:=hc;obtain rfl:C=_:=hd;have f:c.toArray.size+a.toArray.size<=sizeLine:=by rw[Y7,Y7];lia
 have d:¬(!c.toArray.isEmpty&&Builtin.List.listTooLong (c.toArray.size+a.toArray.size))=true:=(by rw[GO f,G8];exact W6);refine R9 F.slot_list_extend ⟨_,e,rfl⟩ F.entry_list_extend (F.args_list_extend_2 _ _)
  (Dj l c.toArray n b A j a.toArray n2 d (by rw[Y7];lia) (by lia)) ⟨e,t,?_⟩
 refine⟨.non,_,I.lset (its':=c++a) i e (by simp) (r.append g) ?_,rfl,q⟩;rw[W3];lia
end
variable{B O:Hp}{Y:Addr->Hp->Prop}{fa fb f:DS->M VR}{p2:Pos}{x:Str}{ix:Expr}
section
variable{a b o i:Expr}
noncomputable def oA(dd y:D):Option D:=match dd with
 |.dic (.t ks) l=>(match FC y with
  |some k=>dJ k ks l|none=>none)
 |_=>none
theorem QA:zN X.K (Ga X.K) oA:=fun F H p c d t s Q fh j i e q=>by
 cases p<;>first|(simp[oA]at e;done)|skip
 rename_i ks l;cases ks<;>first|(simp[oA]at e;done)|skip
 rename_i ks;obtain⟨a,f,rfl,⟨bs,h,m⟩,r⟩:=j;have e2:(match FC c with|some k=>dJ k ks l|none=>none)=some d:=e;cases z:FC c with
 |none=>rw[z]at e2;cases e2
 |some k=>rw[z]at e2;obtain⟨b,rfl,n⟩:=BX z i;obtain⟨v,o,g⟩:=CU r e2;exact⟨a,b,ks,bs,f,k,v,rfl,rfl,h,Paired.mapP m fun _ _ y=>cA.same fh y,cA.same fh n,o,q v F H (bZ.refl fh) g⟩
theorem Dv(f:X.A.units+64<cLine)(e:DE X B O Y a fa)(d:DE X B O Y b fb)(c:YU b:=by intro _ _;rfl):DE X B O Y (.Subscript a b pos) (aF oA fa fb):=
 .mk fun U s Z H Q I h=>Br (by lia) e.h d.h c U s Z H Q I (mI QA h)
noncomputable def YC(i:Nat):DS->Option Fl:=fun S=>some (.next (S.set i (some (.owd (.t []) []))))
theorem Dq(i:Nat){a:Pos}(f:X.N.Nodup)(hi:X.N[i]? = some x:=by rfl)(d:Loc X.env.scope x:=by first|exact Or.inl rfl|exact Or.inr rfl)(e:swapsWith (.Dict [] [] a) (some (.Name x pos')) pos.line X.env=pure false:=by rfl)(hf:X.fn x=true\/X.env.scope.names.lookup x=some .local:=by first|exact .inl rfl|exact .inr rfl|assumption):zO X B O Y (.Assign [.Name x pos'] (.Dict [] [] a) pos) (YC i):=.mk fun U s Z H g I q=>by refine rM f hi d Bq e hf U s Z H g I ?_;obtain⟨F,S,b,o⟩:=q;intro p c;exact o _ F _ (b.setOwd (ks:=.t []) (vs:=[]) (kI b.ext.fh c) c (b.ext.fh.free c) ⟨[],aM,.nil⟩ aX.nil i)
noncomputable def IC(i:Nat)(g f:DS->M VR):DS->Option Fl:=fun S=>match S[i]? with
 |some (some (.owd (.t ks) l))=>eZ (f S) fun r=>match r with
  |.ok d=>eZ (g S) fun r2=>match FC (fS r2)with
   |some k=>if ks.length<big then some (.next (S.set i (some (.owd (.t (iF k ks)) (lV k d ks l)))))else none
   |none=>none
  |_=>none
 |_=>none
theorem NP(i:Nat){p:Pos}{g:DS->M VR}(hu:X.A.units+64<cLine)(E:DE X B O Y ix g)(he:DE X B O Y e f)(hN:X.N[i]? = some x:=by rfl)(hv:SA X.env.scope x:=by first|exact Or.inl rfl|exact Or.inr (Or.inl rfl)|exact Or.inr (Or.inr rfl))(hd:(x==("__debug__" : Str))=false:=by decide)(G:(x==("__classdict__" : Str))=false:=by decide)(hs:swapsWith e (some (.Subscript (.Name x p) ix p2)) pos.line X.env=pure false:=by rfl) :
  zO X B O Y (.Assign [.Subscript (.Name x p) ix p2] e pos) (IC i g f):=.mk fun U s Z H Q I q=>by
 refine Bi (by lia) (iU hN hv hd G) E.h he.h hs U s Z H Q I ?_;obtain⟨F,S,A,o⟩:=q;unfold IC at o;cases z:S[i]? with
 |none=>rw[z]at o;exact False.elim o
 |some R=>
  cases R with
  |none=>rw[z]at o;exact False.elim o
  |some V=>
   cases V with
   |val d=>rw[z]at o;exact False.elim o|own l=>rw[z]at o;exact False.elim o
   |owd ks l=>
    cases ks with
    |k ks=>rw[z]at o;exact False.elim o|t ks=>
    rw[z]at o;refine⟨F,S,A,iH A o fun r v F1 H1 e1 q1 C=>?_⟩;cases r with
    |bor l=>exact False.elim C|bod ks l=>exact False.elim C
    |ok d=>
     have c:=A.step e1;obtain⟨a,T,L,h2,h3,h4,h5⟩:=c.owd i (.t ks) l z;refine⟨.ref a,L,F1,S,c,iH c C fun W v2 F2 H2 e2 q2 j=>?_⟩;have h:=c.step e2;have J:=RR.rv e2.fh q2;generalize fS W=d2 at J j;cases u:FC d2 with
     |none=>rw[u]at j;exact False.elim j
     |some k=>
      rw[u]at j;have n:kZ X.K B O Y Q (if ks.length<big then some (.next (S.set i (some (.owd (.t (iF k ks)) (lV k d ks l)))))else none):=j;obtain⟨b,rfl,K⟩:=BX u J;by_cases D:ks.length<big
      ·rw[Z8 D]at n;obtain⟨P,w,g1,g2,g3,⟨bs,g4,N⟩,g6⟩:=h.owd i (.t ks) l z;have ea:P=a:=(by rw[L]at g1;simpa using g1.symm);subst ea;have hl:ks.length<sizeLine:=X8 D (jD (Z5 _));refine⟨P,b,ks,bs,w,k,rfl,rfl,g4,Paired.mapP N fun _ _ y=>cA.same e2.fh y,cA.same e2.fh K,hl,?_⟩;exact n Z F2 _ (h.mutd (m:=.ex _) z g1 ⟨_,aM,UQ K N⟩ (Bh (jS.mono e2.ff q1) g6))
      ·rw[Z6 D]at n;exact False.elim n
noncomputable def EC(fd:DS->M VR)(fs:DS->M (List VR)):DS->M VR:=fun S=>mb (fd S) fun r=>match fS r with
 |.dic (.t ks) l=>mb (fs S) fun rs=>match rs with
  |[r1,.ok d0]=>(match FC (fS r1)with
   |some k=>some (.ok (.ok ((dJ k ks l).getD d0)))|none=>none)
  |_=>none
 |_=>none
theorem HY{e1 e2:Expr}{fd:DS->M VR}{P:DS->M (List VR)}(hu:X.A.units+64<cLine)(ho:DE X B O Y o fd)(ha:DA X B O Y [e1,e2] P)(i:attributeBase o "get" X.env (eval o X.env)=eval o X.env:=by rfl)(m:((backTo cpos (starEach [e1,e2] X.env)).all (fun x=>!x.1)&&(backToKw cpos (keywordEach [] X.env)).all (fun x=>x.1.isSome)&&decide (([e1,e2]:List Expr).length+([]:List Keyword).length+(if([]:List Keyword).isEmpty then 0 else 1)<30))=true:=by rfl)(g:(apos.endLine==cpos.line)=true:=by rfl)(hs:starEach [e1,e2] X.env=(false,eval e1 X.env)::starEach [e2] X.env:=by rfl)(f:(backTo cpos (starEach [e2] X.env)).any (·.1)=false:=by rfl) :
  DE X B O Y (.Call (.Attribute o "get" apos) [e1,e2] [] cpos) (EC fd P):=.mk fun U s Z H Q I h=>by
 refine VB (by lia) ho.h ha.h i m g hs f U s Z H Q I ?_;obtain⟨F,S,st,o⟩:=h;refine⟨F,S,st,dD.mb o fun r v F1 H1 e1 q1 p=>?_⟩;have D:=RR.rv e1.fh q1;generalize fS r=d at D p;cases d<;>first|exact False.elim p|skip
 rename_i ks l;cases ks with
 |k ks=>exact False.elim p
 |t ks=>
  obtain⟨a,u,rfl,⟨bs,N,h2⟩,h3⟩:=D;refine⟨⟨a,ks,bs,u,rfl,N⟩,F1,S,st.step e1,nZ.bind (G:=fun F H z=>dD X.K O Y F H Q z) (fun e h=>h.step e) (fun _ _ h=>h) (fun _ _ _ h=>h) p fun E ys w T e2 q2 c=>?_⟩;rcases E with _|⟨L,_|⟨K,_|⟨r3,E⟩⟩⟩
  ·exact False.elim c
  ·exact False.elim c
  ·cases K with
   |bor l=>exact False.elim c|bod ks l=>exact False.elim c
   |ok R=>
    obtain⟨y1,t1,rfl,z1,C,t2,rfl,W,V⟩:=q2;obtain rfl:t2=[]:=V;have J:=RR.rv e2.fh z1;have j:dD X.K O Y w T Q (match FC (fS L)with|some k=>some (Except.ok (VR.ok ((dJ k ks l).getD R)))|none=>none):=c;clear c;generalize fS L=d1 at J j;cases q:FC d1 with
    |none=>rw[q]at j;exact False.elim j
    |some k=>
     rw[q]at j;have c:=j;obtain⟨b,rfl,hb⟩:=BX q J;refine⟨a,b,ks,bs,u,k,C,rfl,rfl,e2.hh _ _ N,Paired.mapP h2 fun _ _ y=>cA.same (e2.ff.trans e2.fh) y,cA.same e2.fh hb,c _ w T (bZ.refl e2.fh) ?_⟩;have n:=h3.mono e2.ff;show jS X.K w ((dJ k ks l).getD R) ((dJ k ks u).getD C);cases A:dJ k ks l with
     |none=>rw[NG n A];exact W
     |some d'=>obtain⟨v',w1,w2⟩:=CU n A;rw[w1];exact w2
  ·cases K<;>exact False.elim c
noncomputable def NW(i j:Nat):DS->Option Fl:=fun S=>match S[i]? with
 |some (some (.own l))=>(match l[l.length-1]? with
  |some d=>some (.next ((S.set i (some (.own l.dropLast))).set j (some (.val d))))|none=>none)
 |_=>none
theorem Dp(i j:Nat){y:Str}{p:Pos}(e:X.N.Nodup)(K:X.N[i]? = some x:=by rfl)(E:SA X.env.scope x:=by first|exact Or.inl rfl|exact Or.inr (Or.inl rfl)|exact Or.inr (Or.inr rfl))(hd:(x==("__debug__" : Str))=false:=by decide)(f:(x==("__classdict__" : Str))=false:=by decide)(c:attributeBase (.Name x p) "pop" X.env (eval (.Name x p) X.env)=eval (.Name x p) X.env:=by rfl)(b:(apos.endLine==cpos.line)=true:=by rfl)(J:X.N[j]? = some y:=by rfl)(D:Loc X.env.scope y:=by first|exact Or.inl rfl|exact Or.inr rfl)(G:swapsWith (.Call (.Attribute (.Name x p) "pop" apos) [] [] cpos) (some (.Name y pos')) pos.line X.env=pure false:=by rfl)(hf:X.fn y=true\/X.env.scope.names.lookup y=some .local:=by first|exact .inl rfl|exact .inr rfl|assumption) :
  zO X B O Y (.Assign [.Name y pos'] (.Call (.Attribute (.Name x p) "pop" apos) [] [] cpos) pos) (NW i j):=.mk fun U s Z H m I q=>by
 refine rM e J D (VH K8 ze zf WD (iU K E hd f) c b) G hf U s Z H m I ?_;obtain⟨F,S,t,o⟩:=q;have o:kZ X.K B O Y m (match S[i]? with|some (some (.own l))=>(match l[l.length-1]? with|some d=>some (.next ((S.set i (some (.own l.dropLast))).set j (some (.val d))))|none=>none)|_=>none):=o;obtain⟨l,z,o⟩:=VL (S:=S) (i:=i) (P:=fun y=>kZ X.K B O Y m y) (k:=fun l=>match l[l.length-1]? with|some d=>some (.next ((S.set i (some (.own l.dropLast))).set j (some (.val d))))|none=>none) (fun h=>h) o;obtain⟨a,r,A,M,L,u,g⟩:=t.own i l z;cases w:l[l.length-1]? with
 |none=>simp only[w]at o;exact False.elim o
 |some d=>simp only[w]at o;obtain⟨v,n,C⟩:=g.get w;rw[g.length]at n;exact⟨.ref a,A,.inl ⟨rfl,r,iA.of u⟩,a,r,v,rfl,rfl,u,n,o _ F _ ((t.mut z A g.dropLast).setVal C j)⟩
noncomputable def NZ(i:Nat)(f:DS->M VR):DS->Option Fl:=fun S=>match S[i]? with
 |some (some (.own l))=>eZ (f S) fun r=>match fS r with
  |.tup l2=>if l.length+l2.length<=big then some (.next (S.set i (some (.own (l++l2)))))else none
  |_=>none
 |_=>none
theorem Ds(i:Nat){p:Pos}(he:DE X B O Y e f)(V:X.N[i]? = some x:=by rfl)(R:SA X.env.scope x:=by first|exact Or.inl rfl|exact Or.inr (Or.inl rfl)|exact Or.inr (Or.inr rfl))(hd:(x==("__debug__" : Str))=false:=by decide)(y:(x==("__classdict__" : Str))=false:=by decide)(h:attributeBase (.Name x p) "extend" X.env (eval (.Name x p) X.env)=eval (.Name x p) X.env:=by rfl)(k:((backTo cpos (starEach [e] X.env)).all (fun x=>!x.1)&&(backToKw cpos (keywordEach [] X.env)).all (fun x=>x.1.isSome)&&decide (([e]:List Expr).length+([]:List Keyword).length+(if([]:List Keyword).isEmpty then 0 else 1)<30))=true:=by rfl)(g:(apos.endLine==cpos.line)=true:=by rfl)(D:starEach [e] X.env=(false,eval e X.env)::starEach [] X.env:=by rfl)(w:swapsWith (.Call (.Attribute (.Name x p) "extend" apos) [e] [] cpos) none pos.line X.env=pure false:=by rfl) :
  zO X B O Y (.Expr (.Call (.Attribute (.Name x p) "extend" apos) [e] [] cpos) pos) (NZ i f):=.mk fun U s Z H K I q=>by
 refine CH (Gn K8 PySem.F.slot_list_extend PySem.F.type_list_extend Co (iU V R hd y) (cH he.h eM D) h k g D rfl) w U s Z H K I ?_;obtain⟨F,S,m,o⟩:=q;unfold NZ at o;cases z:S[i]? with
 |none=>rw[z]at o;exact False.elim o
 |some M=>
  cases M with
  |none=>rw[z]at o;exact False.elim o
  |some P=>
   cases P with
   |val d=>rw[z]at o;exact False.elim o|owd ks l=>rw[z]at o;exact False.elim o
   |own l=>
    rw[z]at o;obtain⟨a,N,E,h2,h3,W,h5⟩:=m.own i l z;refine⟨.ref a,E,.inl ⟨rfl,N,iA.of W⟩,F,S,m,iH m o fun r v F1 H1 e1 Q c=>?_⟩;have A:=RR.rv e1.fh Q;generalize fS r=d at A c;cases d<;>first|exact False.elim c|skip
    rename_i t;obtain⟨b,L,rfl,T,C⟩:=A;have c:kZ X.K B O Y K (if l.length+t.length<=big then some (.next (S.set i (some (.own (l++t)))))else none):=c;by_cases u:l.length+t.length<=big
    ·rw[Z8 u]at c;have j:=m.step e1;obtain⟨J,n,g1,g2,g3,g4,G⟩:=j.own i l z;have ea:J=a:=(by rw[E]at g1;simpa using g1.symm);subst ea;refine⟨J,b,n,L,rfl,rfl,g4,cA.same e1.fh T,by rw[<-G.length,<-C.length];exact jD u,?_⟩;exact c Z F1 _ (j.mut z g1 (G.append C))
    ·rw[Z6 u]at c;exact False.elim c
end
end PF
namespace PF
open PySem PySem.Spec L2
open PyProof.Rows hiding St InstAt
theorem vJ:entryFor table "dict.update.loop" = some Builtin.«dict.update.loop»:=A2 (by kernel_rfl)
theorem lY:plainId "dict.update.loop" = true:=by decide +kernel
theorem QE:typeLookup (.type "tuple") "keys" = pure none:=by rw[O7,P4];kernel_rfl
abbrev QR:=Addr×TK
variable{b:Addr}
theorem FN{xs:List TK}{k:List Int}{v:Value}(h:k∉xs.map (·.1)):storedH xs k b v=xs++[(k,b,v)]:=by
 refine storedH_new ?_ b v;cases z:atKey xs k with
 |none=>rfl
 |some p=>have:=yY (k:=k) (xs:=xs);rw[z]at this;unfold mX at this;obtain⟨y,c,a⟩:=List.any_eq_true.mp this.symm;have:y=k:=(by simpa using a);subst this;exact absurd c h
variable{prog:Program}{w:World}{A:Around}{E:Value->Shared->Prop}{s:Shared}{a it:Addr}
set_option maxRecDepth 8000 in
theorem QN{xs:Array Value}{Q:Option Value->Shared->Prop}(l:jH s.heap a xs)(q:A.handled=none)(h:∀m tk,(∀b o,s.heap.get? b=some o->m.get? b=some o)->Q none {s with heap:=m,toks:=tk}):wpAny (model prog w) A (getAttr? (.ref a) "keys") Q E s:=by
 obtain⟨o,l,hc,k,f,hd⟩:=l;obtain⟨c,r,t,n⟩:=o;simp only at hc f hd;subst hc f hd;obtain⟨p,g,d,tk,os⟩:=s;have hT:∀i,(⟨p,g,d,i,os⟩:Shared).TypeIs (.ref a) "tuple" :=fun _=>⟨_,l,rfl⟩;have C:=sub_AttributeError;have z:=F.slot_tuple_getattribute.lookup;have y:=F.slot_tuple_getattribute.bind (.ref a);have x:=am_tuple_getattr_none;unfold getAttr? getAttrBy? getAttrBy
 repeat (any_goals (first|assumption|exact hT _|((with_reducible show wpAny _ _ (call (Value.builtin "tuple.__getattribute__") _ _) _ _ _);refine R9 F.slot_tuple_getattribute (hT _) am_entry_tuple_getattribute (F.args_tuple_getattribute_2 _ _) (meets_getattribute_miss_tuple a xs k n "keys" _ QE (by decide +kernel)) ⟨l,q,fun m i e j=>?_⟩)|wp_step))
 obtain⟨v,u,he⟩:=j.there;show wpAny _ _ (getattributeRaised _ _ _ _ _ _ _) _ _ _;unfold getattributeRaised
 repeat (any_goals (first|assumption|wp_step))
 exact h _ _ j.keeps
theorem pair_items{p:Addr}{x y:Value}{Q:List Value->Shared->Prop}(a:IsTup s.heap p #[x,y])(h:Q [x,y] s):wpAny (model prog w) A (Builtin.Dict.pairItems (.ref p)) Q E s:=by have hT:=a.typeIs;obtain⟨o,b,_,n,hd⟩:=a;unfold Builtin.Dict.pairItems;refine Z9 (S6 hT ?_);rw[Z8 (by decide)];exact Z9 (R3 b hd (Z7 h))
theorem RH{h0:Heap}{s0:Shared}{d t:Addr}{qs:List QR}{R:Result->Shared->Prop}(hh:A.handled=none)(hu:A.units+10<cLine)(ht:IsTup h0 t (qs.map fun x=>Value.ref x.1).toArray)(T:∀x∈qs,IsTup h0 x.1 #[.ref x.2.2.1,x.2.2.2]/\(tupleKind (intKind prog w)).is h0 x.2.1 x.2.2.1)(V:(qs.map (·.2.1)).Nodup)(hl:qs.length<=60)(hd:h0.objs.size<=d)(W:h0.objs.size<=it)(r:d≠it)(hR:∀H tk,(∀b o,h0.get? b=some o->H.get? b=some o)->H.DictOfH (tupleKind (intKind prog w)) d (qs.map (·.2))->R (.ok (.ret .none)) {s0 with heap:=H,toks:=tk}) :
  ∀(k i:Nat) (h:Heap) (tk:Nat),qs.length-i=k->i<=qs.length->(∀b o,h0.get? b=some o->h.get? b=some o)->h.IsTupleIter it t i->h.DictOfH (tupleKind (intKind prog w)) d ((qs.take i).map (·.2))->
   codeAny (model prog w) A (.builtin "dict.update.loop" ⟨[.ref d,.ref it,rawInt i,.none],[]⟩) R {s0 with heap:=h,toks:=tk}:=by
 have nd:∀{b:Addr} {o:Obj},h0.get? b=some o->b≠d:=fun{b o} e=>Y6 (X8 (Z1 e) hd);have P:∀{b:Addr} {o:Obj},h0.get? b=some o->b≠it:=fun{b o} e=>Y6 (X8 (Z1 e) W);intro k
 induction k with
 |zero=>intro i h tk hk hi kp hI I;obtain rfl:i=qs.length:=(by lia);refine SL vJ ?_;rw[R6 lY _];refine(show wpAny _ A.in1 (pyNext (.ref it) >>= _) _ _ _ from Z9 (wpAny_pyNext_tuple_end (s:={s0 with heap:=h,toks:=tk}) (by simpa using hh) hI (ht.keeps kp) (by simp) fun H S=>?_));rw[KB]at I;obtain⟨o,es,ep,N,M,L,K,y5,J⟩:=I;refine(show wpAny _ A.in1 (Builtin.Dict.addKeywords d [] >>= _) _ _ _ from Z9 (Z7 (Z7 (hR H tk (fun b o e=>S b o (P e) (kp b o e)) ⟨o,es,ep,S _ _ r N,M,L,K,fun x m=>?_,J⟩))));obtain⟨q,p,rfl⟩:=List.mem_map.mp m;obtain⟨C,a,n,g,l⟩:=(T q p).2;exact⟨C,a,n,S _ _ (P g) (kp _ _ g),l⟩
 |succ k ih=>intro i h tk hk hi kp hI I;have c:i<qs.length:=(by lia);refine SL vJ ?_;rw[R6 lY _];refine(show wpAny _ A.in1 (pyNext (.ref it) >>= _) _ _ _ from Z9 (wpAny_pyNext_tuple_item (s:={s0 with heap:=h,toks:=tk}) (x:=.ref qs[i].1) hI (ht.keeps kp) (by simp[c]) fun v X sb=>?_));have f:∀b o,h0.get? b=some o->v.get? b=some o:=fun b o e=>(sb.2 b (P e)).trans (kp b o e);have E:=T qs[i] (P0 c);have a0:v.DictOfH (tupleKind (intKind prog w)) d ((qs.take i).map (·.2)):=(by obtain⟨o,es,ep,N,M,L,K,y5,J⟩:=I;refine⟨o,es,ep,(sb.2 d r).trans N,M,L,K,fun x m=>?_,J⟩;obtain⟨q,p,rfl⟩:=List.mem_map.mp m;obtain⟨C,a,n,g,l⟩:=(T q (K5 p)).2;exact⟨C,a,n,f _ _ g,l⟩);refine Z9 (X1 (Z9 (wpAny_tryCatch (pair_items (s:={s0 with heap:=v,toks:=tk}) (E.1.keeps f) ?_))));have G:(tupleKind (intKind prog w)).is v qs[i].2.1 qs[i].2.2.1:=(by obtain⟨C,a,n,g,l⟩:=E.2;exact⟨C,a,n,f _ _ g,l⟩);refine X1 (wpAny_dictSet_heap (s:={s0 with heap:=v,toks:=tk}) (show A.in1.units<cLine by simp;lia) G a0 (fun h2 u z=>?_) (by rw[Y9,R4,W9];lia));refine Z7 ⟨P9 lY _,?_⟩;have F:qs[i].2.1∉((qs.take i).map (·.2)).map (·.1):=(by rw[V3];intro hm;obtain⟨y,Q,D⟩:=List.mem_map.mp hm;obtain⟨j,hj,rfl⟩:=List.mem_iff_getElem.mp Q;rw[R4]at hj;rw[List.getElem_take]at D;have v:(qs.map (·.2.1))[j]? = some qs[i].2.1:=(by rw[W8,Y1 (by lia)];exact V8 some D);have h2:(qs.map (·.2.1))[i]? = some qs[i].2.1:=(by rw[W8,Y1 c];rfl);have:=(List.getElem?_inj (by rw[Y9];lia) V).mp (v.trans h2.symm);lia);rw[FN F]at u;have e3:(qs.take i).map (·.2)++[(qs[i].2.1,qs[i].2.2.1,qs[i].2.2.2)]=(qs.take (i+1)).map (·.2):=(by rw[A5,Y1 c,N5];rfl);rw[e3]at u;have e4:rawInt ((i:Int)+1)=rawInt ((i+1:Nat):Int):=(by simp);refine(show codeAny (model prog w) A (.builtin "dict.update.loop" ⟨[.ref d,.ref it,rawInt ((i:Int)+1),.none],[]⟩) R _ from ?_);rw[e4];refine ih (i+1) h2 _ (by lia) c (fun b o e=>(z.2 b (nd e)).trans (f b o e)) ?_ u;obtain⟨o,g,l⟩:=X;exact⟨o,(z.2 it (Y8 r)).trans g,l⟩
variable{X:Cx}{U:List (Addr×Obj)}{Z:St}{H:Hp}{xs:List V}
def Mv(K:Z4):Prop:=∀a o,K.lookup a=some o->o.cls=.type "tuple" ->o.dict=none
theorem Inv.tupN(kd:Mv X.K)(I:Inv X U Z H s)(h:cA X.K H a xs):∃b:List Value,bD xs b/\jH s.heap a b.toArray:=by
 rcases h with h|⟨o,b,n,c,hc,d,e,r⟩
 ·obtain⟨z,b,r,p⟩:=h.ok I.hok;exact⟨b,r,p⟩
 ·exact⟨b.toList,r,o,I.kIn a o c,hc,n,by simpa using d,kd a o c hc⟩
abbrev QV:=Addr×List Int×Addr×V
abbrev JY(K:Z4):List V->Hp->VK->Prop:=fun xs H Q=>∃(t:Addr) (qs:List QV),xs=[.ref t]/\cA K H t (qs.map fun x=>V.ref x.1)/\(∀x∈qs,cA K H x.1 [.ref x.2.2.1,x.2.2.2]/\cA K H x.2.2.1 (x.2.1.map V.int))/\(qs.map (·.2.1)).Nodup/\qs.length<=60/\
 ∀r,H r=none->Q (.ref r) (cL H r (zL r (qs.map (·.2.1)) (qs.map (·.2.2.1)) (qs.map (·.2.2.2))))
theorem MK(I:Inv X U Z H s):∀{qs:List QV},(∀x∈qs,cA X.K H x.1 [.ref x.2.2.1,x.2.2.2]/\cA X.K H x.2.2.1 (x.2.1.map V.int))->
  ∃a:List QR,a.map (·.1)=qs.map (·.1)/\a.map (·.2.1)=qs.map (·.2.1)/\a.map (·.2.2.1)=qs.map (·.2.2.1)/\bD (qs.map (·.2.2.2)) (a.map (·.2.2.2))/\∀x∈a,IsTup s.heap x.1 #[.ref x.2.2.1,x.2.2.2]/\(tupleKind (intKind X.prog X.w)).is s.heap x.2.1 x.2.2.1
 |[],_=>⟨[],rfl,rfl,rfl,.nil,fun _ h=>nomatch h⟩
 |x::qs,h=>by
  obtain⟨a,o,n,m,l,k⟩:=MK I fun y b=>h y (X5 _ b);have e:=h x X7;obtain⟨j,r,i,_⟩:=I.tuple e.1;obtain⟨g,f,rfl,d,c⟩:=bD.two r;obtain rfl:g=Value.ref x.2.2.1:=d;refine⟨(x.1,x.2.1,x.2.2.1,f)::a,by simp[o],by simp[n],by simp[m],.cons c l,fun y b=>?_⟩;rcases G4.mp b with rfl|b
  ·exact⟨i,wV I e.2⟩
  ·exact k y b
theorem MN:∀{qs:List QV} {a:List Value},bD (qs.map fun x=>V.ref x.1) a->a=(qs.map (·.1)).map Value.ref
 |[],_,h=>by rw[R1]at h;cases h;rfl
 |x::qs,_,h=>by
  rw[Y4]at h;cases h with
  |cons r t=>obtain rfl:_=Value.ref x.1:=r;rw[MN t];rfl
theorem yW(kd:Mv X.K)(hh:X.A.handled=none)(hu:X.A.units+30<cLine):iB X (.type "dict") (JY X.K):=by
 intro U s Z H xs us Q I r h;obtain⟨t,qs,rfl,ht,R,F,hl,T⟩:=h;obtain⟨u,rfl,L⟩:=vals1 r;cases L;obtain⟨N,rt,G⟩:=Inv.tupN kd I ht;obtain rfl:=MN rt;obtain⟨l,e1,e2,W,M,E⟩:=MK I R;have S:l.length=qs.length:=by have:=V8 List.length e1;simpa using this
 refine callType_codes (Q₁:=fun obj J=>obj=.ref s.heap.objs.size/\J={s with heap:=s.heap.push {cls:=.type "dict",data:=.dict #[]}}) PySem.F.kt_called_dict (PySem.F.kt_typeCall_dict_1 _) PySem.F.entry_dict_init (kt_code_dict_new _ ⟨rfl,rfl⟩) ?_;rintro obj J ⟨rfl,rfl⟩;have f:(s.heap.push {cls:=.type "dict",data:=.dict #[]}).DictOfH (tupleKind (intKind X.prog X.w)) s.heap.objs.size []:=Heap.DictOfH.new s.heap;refine⟨f.typeIs,PySem.F.args_dict_init_2 _ _,?_⟩;unfold Builtin.«dict.__init__»;refine Z9 ?_;unfold Builtin.Dict.selfAndRest;refine Z9 (Da f.typeIs ?_);refine(show wpAny _ _ (pure (s.heap.objs.size,[Value.ref t])) _ _ _ from Z7 ?_);show wpAny _ _ (Builtin.Dict.updateFrom "dict.__init__" s.heap.objs.size (.ref t) [] .none) _ _ _;unfold Builtin.Dict.updateFrom;have c:∀b o,s.heap.get? b=some o->(s.heap.push {cls:=.type "dict",data:=.dict #[]}).get? b=some o:=fun b o e=>Z3 _ e;have i:jH (s.heap.push {cls:=.type "dict",data:=.dict #[]}) t ((qs.map (·.1)).map Value.ref).toArray:=(by obtain⟨o,g,k⟩:=G;exact⟨o,c _ _ g,k⟩);refine Z9 (S6 (s:={s with heap:=s.heap.push {cls:=.type "dict",data:=.dict #[]}}) i.tup.typeIs ?_);rw[Z8 (by decide)];refine Z9 (QN (s:={s with heap:=s.heap.push {cls:=.type "dict",data:=.dict #[]}}) i (by simpa using hh) fun p C j=>?_);rw[Z8 (by rfl)];refine Z9 (T8 (Z9 (KF (s:={s with heap:=p,toks:=C}) (items:=((qs.map fun x:QV=>x.1).map Value.ref).toArray) (i.tup.keeps j) (Z7 ⟨P9 lY _,?_⟩))));have n:p.DictOfH (tupleKind (intKind X.prog X.w)) s.heap.objs.size []:=(by obtain⟨o,q,v,g,k,A,z,K,y⟩:=f;exact⟨o,q,v,j _ _ g,k,A,z,fun x D=>(N7 D).elim,y⟩);have m:s.heap.objs.size<p.objs.size:=(by obtain⟨o,q,v,g,_⟩:=n;exact Z1 g);have e0:l.map (fun x=>Value.ref x.1)=(qs.map (·.1)).map Value.ref:=(by rw[<-e1,V3];rfl);refine RH (h0:=s.heap) (s0:=s) (d:=s.heap.objs.size) (it:=p.objs.size) (t:=t) (qs:=l) (by simpa using hh) (by simp;lia) (by rw[e0];exact G.tup) E (by rw[e2];exact F) (by lia) (Z5 _) (P7 m) (Y6 m) (fun h' tk kp V=>?_) l.length 0 _ _ rfl (Y3 _) (fun b o e=>Z3 _ (j _ _ (c b o e))) ⟨_,X9 _ rfl,rfl,rfl⟩ ?_
 ·refine⟨rfl,.ref s.heap.objs.size,_,I.laid (a:=s.heap.objs.size) (o:=zL s.heap.objs.size (qs.map (·.2.1)) (qs.map (·.2.2.1)) (qs.map (·.2.2.2))) (t':=tk) kp (Z5 _)
   (TL (JL (P:=X.prog) (w:=X.w) (xs:=l.map (·.2)) (beq_eq_false_iff_ne.mpr (Y8 (Y6 I.big))) (by rw[Y9,W9];lia) (by rw[V3];exact e2) (by rw[V3];exact W) (by rw[V3];exact M) V)),rfl,T _ (I.hok.fresh (Z5 _))⟩
 ·obtain⟨o,q,v,g,k,A,z,K,y⟩:=n;exact⟨o,q,v,Z3 _ g,k,A,z,fun x D=>(N7 D).elim,y⟩
noncomputable def GK:D->Option (List Int×D)
 |.tup [k,d]=>(FC k).map (·,d)|_=>none
noncomputable def mJ:List D->Option (List (List Int×D))
 |[]=>some []|d::l=>(GK d).bind fun p=>(mJ l).map (p::·)
def nodupT:List (List Int)->Bool
 |[]=>true|k::ks=>!mX k ks&&nodupT ks
theorem AN:∀{ks:List (List Int)},nodupT ks=true->ks.Nodup
 |[],_=>List.nodup_nil
 |k::ks,h=>by unfold nodupT at h;rw[X6,KM]at h;refine List.nodup_cons.mpr ⟨fun a=>?_,AN h.2⟩;have:mX k ks=true:=List.any_eq_true.mpr ⟨k,a,by simp⟩;rw[this]at h;cases h.1
noncomputable def iS:D->Option D
 |.tup l=>(match mJ l with
  |some ps=>if nodupT (ps.map (·.1))=true/\ps.length<=60 then some (.dic (.t (ps.map (·.1))) (ps.map (·.2)))else none
  |none=>none)
 |_=>none
variable{K:Z4}{z:List Int}{v:V}
section
variable{F:Hp}
theorem PZ{d:D}{p:List Int×D}(h:GK d=some p):∃k,d=.tup [k,p.2]/\FC k=some p.1:=by
 unfold GK at h;split at h
 ·rename_i k d;obtain⟨z,a,rfl⟩:=Option.map_eq_some_iff.mp h;exact⟨k,rfl,a⟩
 ·cases h
theorem Ac{d:D}(e:FC d=some z)(r:jS K F d v):∃b,v=.ref b/\cA K F b (z.map V.int):=by
 cases d<;>first|(simp[FC]at e;done)|skip
 exact BX (H:=F) e r
theorem AK:∀{l:List D} {c:List (List Int×D)} {f:List V},mJ l=some c->aX K F l f->
  ∃a:List QV,f=a.map (fun x=>V.ref x.1)/\a.map (·.2.1)=c.map (·.1)/\aX K F (c.map (·.2)) (a.map (·.2.2.2))/\(∀x∈a,cA K F x.1 [.ref x.2.2.1,x.2.2.2]/\cA K F x.2.2.1 (x.2.1.map V.int))/\Paired (fun z b=>cA K F b (z.map V.int)) (c.map (·.1)) (a.map (·.2.2.1))
 |[],c,f,h,r=>by cases h;have e:f=[]:=r;subst e;exact⟨[],rfl,rfl,rfl,fun _ h=>(nomatch h),.nil⟩
 |d::l,c,f,h,r=>by
  obtain⟨p,H,G⟩:=Option.bind_eq_some_iff.mp h;obtain⟨w,E,rfl⟩:=Option.map_eq_some_iff.mp G;obtain⟨v,t,rfl,o,n⟩:=r;obtain⟨a,g1,g2,g3,J,I⟩:=AK E n;obtain⟨k,rfl,C⟩:=PZ H;obtain⟨y,L,rfl,A,M,N,rfl,u,j,m,rfl,s,q⟩:=o;obtain rfl:m=[]:=q;obtain⟨b,rfl,i⟩:=Ac C u;subst g1;refine⟨(y,p.1,b,j)::a,rfl,by simp[g2],⟨_,_,rfl,s,g3⟩,fun x g=>?_,.cons i I⟩;rcases G4.mp g with rfl|g
  ·exact⟨A,i⟩
  ·exact J x g
end
variable{B O:Hp}{Y:Addr->Hp->Prop}{e:Expr}{fa fb:DS->M VR}{pos p2 pos':Pos}{ks:List (List Int)}{x:Str}
section
variable{a b o i:Expr}{p:Pos}
theorem HU{F:Hp}{d:D}{l:List D}{Q:VK}(fh:bR F H)(i:RV X.K F H d v)(e:iS d=some (.dic (.t ks) l))(q:∀r bs vs,H r=none->Paired (fun z b=>cA X.K F b (z.map V.int)) ks bs->aX X.K F l vs->Q (.ref r) (cL H r (zL r ks bs vs))):JY X.K [v] H Q:=by
 cases d<;>first|(simp[iS]at e;done)|skip
 rename_i f;obtain⟨t,vs,rfl,ht,j⟩:=i;have e2:(match mJ f with|some a=>if nodupT (a.map (·.1))=true/\a.length<=60 then some (D.dic (.t (a.map (·.1))) (a.map (·.2)))else none|none=>none)=some (.dic (.t ks) l):=e;cases z:mJ f with
 |none=>rw[z]at e2;cases e2
 |some a=>
  rw[z]at e2;simp only at e2;by_cases c:nodupT (a.map (·.1))=true/\a.length<=60
  ·rw[Z8 c]at e2;have o:=Z2 e2;injection o with e4 e5;injection e4 with e4;obtain⟨k,g1,g2,g3,h,n⟩:=AK z j;subst g1 e4 e5;refine⟨t,k,rfl,cA.same fh ht,fun x g=>⟨cA.same fh (h x g).1,cA.same fh (h x g).2⟩,by rw[g2];exact AN c.1,?_,fun r m=>?_⟩
   ·have:=V8 List.length g2;simp only[Y9]at this;rw[this];exact c.2
   ·rw[g2];exact q r _ _ m n g3
  ·rw[Z6 c]at e2;cases e2
theorem wO{d b:D}(h:iS d=some b):∃ks l,b=.dic (.t ks) l:=by
 cases d<;>first|(simp[iS]at h;done)|skip
 rename_i c;have e2:(match mJ c with|some a=>if nodupT (a.map (·.1))=true/\a.length<=60 then some (D.dic (.t (a.map (·.1))) (a.map (·.2)))else none|none=>none)=some b:=h;cases z:mJ c with
 |none=>rw[z]at e2;cases e2
 |some a=>
  rw[z]at e2;simp only at e2;split at e2
  ·exact⟨_,_,(Z2 e2).symm⟩
  ·cases e2
theorem OM:SU X.K (fun x H Q=>JY X.K [x] H Q) iS:=fun F H i d h Q fh c e q=>by obtain⟨ks,l,rfl⟩:=wO e;exact HU fh c e fun r bs b a g f=>q (.ref r) _ _ (eN fh a) ⟨r,b,rfl,⟨bs,aM,Paired.mapP g fun _ _ z=>cA.same (bG (fh.free a)) z⟩,f.mono (bG (fh.free a))⟩
theorem XY{k:Nat}(kd:Mv X.K)(b:hU k X.A)(g1:Gl X "dict")(c:X.mg "dict" = none)(d:DE X B O Y a fa)(he:starEach [a] X.env=(false,eval a X.env)::starEach [] X.env:=by rfl):DE X B O Y (.Call (.Name "dict" p) [a] [] pos) (cY iS fa):=
 .mk fun U s Z H Q I h=>kP (yW kd b.hd (by have:=b.un;lia)) g1 c (by rfl) (cH d.h eM he) (by decide) (by decide) he rfl U s Z H Q I (wW OM h)
noncomputable def NY(i:Nat)(f:DS->M VR):DS->Option Fl:=fun S=>eZ (f S) fun r=>match iS (fS r)with
 |some (.dic (.t ks) l)=>some (.next (S.set i (some (.owd (.t ks) l))))|_=>none
theorem Dr(i:Nat){k:Nat}(kd:Mv X.K)(b:hU k X.A)(g1:Gl X "dict")(j:X.mg "dict" = none)(u:X.N.Nodup)(t:DE X B O Y a fa)(he:starEach [a] X.env=(false,eval a X.env)::starEach [] X.env:=by rfl)(hi:X.N[i]? = some x:=by rfl)(m:Loc X.env.scope x:=by first|exact Or.inl rfl|exact Or.inr rfl)(n:swapsWith (.Call (.Name "dict" p) [a] [] p2) (some (.Name x pos')) pos.line X.env=pure false:=by rfl)(hf:X.fn x=true\/X.env.scope.names.lookup x=some .local:=by first|exact .inl rfl|exact .inr rfl|assumption):zO X B O Y (.Assign [.Name x pos'] (.Call (.Name "dict" p) [a] [] p2) pos) (NY i fa):=.mk fun U s Z H g I q=>by
 refine rM u hi m (kP (yW kd b.hd (by have:=b.un;lia)) g1 j (by rfl) (cH t.h eM he) (by decide) (by decide) he rfl) n hf U s Z H g I ?_;obtain⟨F,S,e,o⟩:=q;refine⟨F,S,e,iH e o fun r v C E e1 h c=>?_⟩;have f:=RR.rv e1.fh h;generalize fS r=d at f c;cases z:iS d with
 |none=>rw[z]at c;exact False.elim c
 |some D=>obtain⟨ks,l,rfl⟩:=wO z;rw[z]at c;exact HU (Q:=fun v A=>g.nx (Z.set i (some v)) A) e1.fh f z fun r bs vs b y w=>c _ C _ (((e.step e1)).setOwd (ks:=.t ks) (vs:=vs) (kI e1.fh b) b (e1.fh.free b) ⟨bs,aM,y⟩ w i)
end
variable{Q:Value->Shared->Prop}
theorem Ad{S:String}{d H:List TK}{Q:Bool->Shared->Prop}(hu:A.units+1<cLine)(ha:(a==sysModules)=false)(hb:(b==sysModules)=false)(da:s.heap.DictOfH (tupleKind (intKind prog w)) a d)(db:s.heap.DictOfH (tupleKind (intKind prog w)) b H)(hl:d.length=H.length)(P:∀x∈d,∃i t D c,x.2.2=Value.int i t/\atKey H x.1=some (c,.int i D))(h:Q true s):wpAny (model prog w) A (Builtin.Dict.samePairs S a b) Q E s:=by
 obtain⟨oa,l,ep,m,_,n,G,L,V⟩:=da;obtain⟨ob,C,a0,u,_,y,v,K,F⟩:=db;have X:l.size=d.length:=size_of_entries G;have W:C.size=H.length:=size_of_entries v;unfold Builtin.Dict.samePairs Builtin.Dict.showsAll;rw[Z6 (show ¬(a==sysModules)=true by rw[ha];exact W6),Z6 (show ¬(b==sysModules)=true by rw[hb];exact W6)];refine Z9 (Z7 (Z9 (Z7 ?_)));refine Z9 (P1 m n ?_);dsimp only;refine Z9 (P1 u y ?_);have J:l.size=C.size:=(by lia);rw[Z6 (by rw[J];simp)];refine Z9 (L9 m n ?_);refine Z9 ?_;rw[Std.Legacy.Range.forIn_eq_forIn_range'];simp only[Std.Legacy.Range.size,U6,C7,Nat.div_one];refine N4 _ (fun f q I=>I=s/\q=(none,())/\∃i,f=List.range' i (l.size-i)/\i<=l.size) _ ?_ ?_ _ _ ⟨rfl,rfl,0,by simp,Y3 _⟩
 ·rintro x f q I ⟨rfl,rfl,i,hr,hi⟩;have N:i<l.size:=by
   rcases W7 i l.size with z|z
   ·exact z
   ·rw[Nat.sub_eq_zero_of_le z]at hr;simp at hr
  obtain⟨rfl,r⟩:x=i/\f=List.range' (i+1) (l.size-(i+1)):=(by have e:l.size-i=(l.size-(i+1))+1:=(by lia);rw[e,List.range'_succ]at hr;injection hr with h1 h2;exact⟨h1,h2⟩);refine Z9 (P1 m n ?_);have g:x<d.length:=(by lia);have eE:l[x]? = some (entryOfKey (tupleKind (intKind prog w)) d[x]):=(by rw[entry_at G x,Y1 g];rfl);rw[eE];obtain⟨i,t,D,c,T,o⟩:=P d[x] (P0 g);refine(show wpAny _ _ (holding [Value.ref d[x].2.1,d[x].2.2] _ >>= _) _ _ _ from Z9 (X1 (Z9 (wpAny_dictFind_heap (knd:=tupleKind (intKind prog w)) (a:=d[x].2.1) (k:=d[x].1) (show A.units<cLine by lia) (L _ (P0 g)) u y v K F (fun M=>?_) (fun j p R=>?_)))))
  ·rw[atKey_none_of_get M]at o;cases o
  ·rw[atKey_of_get F R]at o;obtain rfl:=Z2 o;have eF:C[j]? = some (entryOfKey (tupleKind (intKind prog w)) (d[x].1,c,Value.int i D)):=(by rw[entry_at v j,R];rfl);refine(show wpAny _ _ (dictEntries b >>= _) _ _ _ from Z9 (P1 u y ?_));rw[eF];refine(show wpAny _ _ (holding [Value.int i D] (eqBool d[x].2.2 (Value.int i D))) _ _ _ from X1 ?_);rw[T];refine(intKind prog w).eqBool (a:=i) (b:=i) (P6 _ _ _ _) (P6 _ _ _ _) ?_;rw[decide_eq_true rfl];refine(show wpAny _ _ (if(!true)=true then _ else _) _ _ _ from ?_);rw[Z6 (by decide)];refine Z9 (L9 m n ?_);rw[Z6 (by simp)];exact Z7 ⟨rfl,rfl,x+1,r,N⟩
 ·rintro q I ⟨rfl,rfl,i,hr,hi⟩;exact Z7 h
theorem Nn{f e:List TK}(o:A.units+9<cLine)(n:(a==sysModules)=false)(m:(b==sysModules)=false)(d:s.heap.DictOfH (tupleKind (intKind prog w)) a f)(j:s.heap.DictOfH (tupleKind (intKind prog w)) b e)(l:f.length=e.length)(g:∀x∈f,∃i t k c,x.2.2=Value.int i t/\atKey e x.1=some (c,.int i k))(h:Q (.bool true) s):wpAny (model prog w) A (compareOp .Eq (.ref a) (.ref b)) Q E s:=by
 refine E4 (op:=.Eq) d.typeIs j.typeIs y0 (W1 y0 d.typeIs PySem.F.entry_dict_eq ?_ (PySem.F.args_dict_eq_2 _ _)) (by lia);refine(show wpAny _ _ (Builtin.Dict.dictSlotArgs "__eq__" ⟨[.ref a,.ref b],[]⟩ >>= _) _ _ s from Z9 ?_);unfold Builtin.Dict.dictSlotArgs;refine Z9 (Da d.typeIs (show wpAny _ _ (pure (Value.ref a,Value.ref b)) _ _ s from Z7 ?_));refine Z9 (T3 (T:="dict") j.typeIs PySem.F.sub_dict_dict ?_);simp only[V6,Y2,Y5];refine Z9 (Z7 (Z9 (Z7 (Z9 (Ad (by simp;lia) n m d j l g (Z7 ⟨_,rfl,?_,?_⟩))))))
 ·exact fun x=>nomatch x
 ·simpa using h
noncomputable def pB(ms:List (List Int))(js:List Int):List (List Int)->List Int->Bool
 |k::ks,i::is=>decide (dJ k ms js=some i)&&pB ms js ks is|_,_=>true
noncomputable def EM(x y:D):Option D:=match x,y with
 |.dic (.t ks) l,.dic (.t ms) m=>(match dX l,dX m with
  |some is,some js=>if ks.length=ms.length/\is.length=ks.length/\js.length=ms.length/\pB ms js ks is=true then some (.bl true)else none
  |_,_=>none)
 |_,_=>none
abbrev Ot(K:Z4):R2:=fun x y H Q=>∃(a b:Addr) (ks ms:List (List Int)) (bs cs:List Addr) (is js:List Int),x=.ref a/\y=.ref b/\H a=some (zL a ks bs (is.map V.int))/\H b=some (zL b ms cs (js.map V.int))/\Paired (fun z b=>cA K H b (z.map V.int)) ks bs/\Paired (fun z b=>cA K H b (z.map V.int)) ms cs/\
 ks.length=ms.length/\is.length=ks.length/\js.length=ms.length/\pB ms js ks is=true/\Q (.bl true) H
theorem NF{k:List Int}{i:Int}:∀{a:List TK} {b:List Int},bD (b.map V.int) (a.map (·.2.2))->dJ k (a.map (·.1)) b=some i->∃c t,atKey a k=some (c,.int i t)
 |[],b,r,e=>by cases b<;>cases e
 |y::a,[],r,e=>by cases e
 |y::a,j::b,r,e=>by
  rw[Y4,Y4]at r;cases r with
  |cons f t=>
   rw[Y4]at e;unfold dJ at e;by_cases c:y.1=k
   ·rw[Z8 c]at e;obtain rfl:=Z2 e;obtain⟨tk,e1⟩:=f;refine⟨y.2.1,tk,?_⟩;have:y.2=(y.2.1,Value.int j tk):=L5 rfl e1;simp[atKey,T9,c,this.symm]
   ·rw[Z6 c]at e;obtain⟨g,d,h⟩:=NF t e;exact⟨g,d,by simpa [atKey,T9,c]using h⟩
variable{ms:List (List Int)}
theorem HJ{b:List Int}:∀{xs:List TK} {is:List Int},bD (is.map V.int) (xs.map (·.2.2))->pB ms b (xs.map (·.1)) is=true->∀x∈xs,∃i t,x.2.2=Value.int i t/\dJ x.1 ms b=some i
 |[],is,r,h,x,a=>nomatch a|y::xs,[],r,h,x,a=>by rw[Y4]at r;cases r
 |y::xs,i::is,r,h,x,a=>by
  rw[Y4,Y4]at r;cases r with
  |cons c t=>
   rw[Y4]at h;unfold pB at h;rw[X6,U5]at h;rcases G4.mp a with rfl|a
   ·obtain⟨tk,e1⟩:=c;exact⟨i,tk,e1,h.1⟩
   ·exact HJ t h.2 x a
variable{ta tb:TE}
section
variable{a b:Expr}
theorem Iz(q:X.A.units+9<cLine)(w:PE X a ta)(r:PE X b tb):PC X .Eq a b (Fw (Ot X.K) ta tb):=by intro U s Z H Q I h;refine eL (w U s Z H _ I h) fun u l ⟨x,H1,I1,rx,q1⟩=>eL (r U l Z H1 _ I1 q1) fun v E ⟨y,H2,I2,ry,a,b,ks,ms,bs,cs,is,js,ex,ey,h1,h2,h3,h4,l1,l2,l3,hh,q2⟩=>?_;subst ex ey;obtain rfl:u=Value.ref a:=rx;obtain rfl:v=Value.ref b:=ry;obtain⟨o,_,D,e1,e2,m,A⟩:=FL I2 h1 h3;obtain⟨n,_,C,z,F,d,e⟩:=FL I2 h2 h4;subst e1 z;refine Nn q o n A e (by simpa using l1) (fun x p=>?_) ⟨.bl true,H2,I2,rfl,q2⟩;obtain⟨i,t,j,g⟩:=HJ m hh x p;obtain⟨c,k,f⟩:=NF d g;exact⟨i,t,k,c,j,f⟩
theorem Em:zN X.K (Ot X.K) EM:=fun F H v u d C A Q fh o n e q=>by
 cases v<;>first|(simp[EM]at e;done)|skip
 rename_i ks l;cases ks<;>first|(simp[EM]at e;done)|skip
 rename_i ks;cases u<;>first|(simp[EM]at e;done)|skip
 rename_i f m;cases f<;>first|(simp[EM]at e;done)|skip
 rename_i f;obtain⟨a,x,rfl,⟨bs,h,s⟩,r⟩:=o;obtain⟨b,E,rfl,⟨w,t,k⟩,p⟩:=n;have e2:(match dX l,dX m with|some i,some g=>if ks.length=f.length/\i.length=ks.length/\g.length=f.length/\pB f g ks i=true then some (D.bl true)else none|_,_=>none)=some d:=e;cases z:dX l with
 |none=>rw[z]at e2;cases e2
 |some i=>
  cases j:dX m with
  |none=>rw[z,j]at e2;cases e2
  |some g=>
   rw[z,j]at e2;simp only at e2;by_cases c:ks.length=f.length/\i.length=ks.length/\g.length=f.length/\pB f g ks i=true
   ·rw[Z8 c]at e2;obtain rfl:=Z2 e2;obtain rfl:=lR z;obtain rfl:=lR j;obtain rfl:=nV r;obtain rfl:=nV p;exact⟨a,b,ks,f,bs,w,i,g,rfl,rfl,h,t,Paired.mapP s fun _ _ y=>cA.same fh y,Paired.mapP k fun _ _ y=>cA.same fh y,c.1,c.2.1,c.2.2.1,c.2.2.2,q _ F H (bZ.refl fh) rfl⟩
   ·rw[Z6 c]at e2;cases e2
theorem Ki(f:X.A.units+64<cLine)(e:DE X B O Y a fa)(d:DE X B O Y b fb)(c:behindInMarks .Eq b=false:=by rfl):DE X B O Y (.Compare a [.Eq] [b] pos) (aF EM fa fb):=
 .mk fun U s Z H Q I h=>Iy (Iz (by lia) e.h d.h) c U s Z H Q I (mI Em h)
end
def ZR(x y:List Int):Bool:=!pF (mL y) (mL x)
def nU(ks:List (List Int)):List (List Int):=ks.mergeSort ZR
theorem Cy{x y:List Int}(h:mL x=mL y):x=y:=(Prod.mk.inj h).2
theorem Jm(a b c:List Int)(f:ZR a b=true)(d:ZR b c=true):ZR a c=true:=by
 unfold ZR at f d ⊢;rw[KM]at f d ⊢;cases z:pF (mL c) (mL a)with
 |false=>rfl
 |true=>
  by_cases e:mL a=mL b
  ·rw[e]at z;rw[z]at d;cases d
  ·rcases KR _ _ e with y|y
   ·rw[KQ _ _ _ z y]at d;cases d
   ·rw[y]at f;cases f
theorem Jn(a b:List Int):(ZR a b || ZR b a)=true:=by
 unfold ZR;cases z:pF (mL b) (mL a)with
 |false=>rfl|true=>rw[KS _ _ z];rfl
theorem pK(ks:List (List Int)):(nU ks).Perm ks:=List.mergeSort_perm ks _
theorem TZ(h:ks.Nodup):((nU ks).map mL).Pairwise fun x y=>pF x y=true:=by
 have b:(nU ks).Pairwise fun x y=>ZR x y=true:=List.pairwise_mergeSort Jm Jn ks;have a:(nU ks).Nodup:=(pK ks).nodup_iff.mpr h;rw[List.pairwise_map];refine(b.and a).imp fun{x y} ⟨z1,z2⟩=>?_;rcases KR (mL x) (mL y) (fun e=>z2 (Cy e))with y|y
 ·exact y
 ·unfold ZR at z1;rw[y]at z1;cases z1
variable{ls:List (List Int)}
theorem TY(h:ks.Nodup)(p:ls.Perm ks)(w:(ls.map mL).Pairwise fun x y=>pF x y=true):ls=nU ks:=by have e:ls.map mL=(nU ks).map mL:=CF ((p.trans (pK ks).symm).map _) w (TZ h);have:=V8 (List.map fun q:PK=>q.2) e;rw[V3,V3]at this;have a:∀l:List (List Int),l.map ((fun q:PK=>q.2)∘mL)=l:=fun l=>(by rw[show((fun q:PK=>q.2)∘mL)=id from rfl,List.map_id]);rw[a,a]at this;exact this
variable{vs:List V}{p0 p1 p3 p4 p5:Pos}{pm ctv:Value}
theorem Am(c:H a=none)(h:cA K H b xs):cA K (cL H a (.lst vs)) b xs:=cA.same (bG c) h
theorem EJ{k:Nat}{T e f:Addr}{l c:Int}{q:Str}{bs:List Addr}{Q:VK}(I:Inv X U Z H s)(hh:X.A.handled=none)(h:H a=some (zL a ks bs vs))(hp:Paired (fun z b=>cA X.K H b (z.map V.int)) ks bs)(L:rJ H s.heap T e f l c q (Cz q p0 p1 p2 p3 p4 p5 pm e ctv))(hr:hU (k+1) X.A.in1.in1)(W:X.A.units+30<cLine)(x:X.mg "len" = none)(hz:ks.length<60)(hQ:∀(r:Addr) n i,H r=none->bR H n->n r=some (.lst (i.map V.ref))->(∀R:List Int->Addr->Prop,Paired R ks bs->Paired R (nU ks) i)->Q (.ref r) n) :
  wpAny (model X.prog X.w) X.A (call (.builtin "sorted") [.ref a] [(Str.ofString "key",.ref f)]) (EP X U Z Q) X.xe s:=by
 obtain⟨⟨y,xs,o,J,ep,e1,e2,rv,ho,S,hd,he,G,hl⟩,_,_⟩:=(show cD X.prog X.w H s.heap a (.ext _)from I.hok a _ h);have a0:J.size=ks.length:=(by rw[<-X2,he,Y9,<-e1,Y9]);have F:J.toList.map (·.key)=bs.map Value.ref:=(by rw[he,V3,<-e2,V3];rfl);have a1:bs.length=ks.length:=(by rw[<-e1,<-e2,Y9,Y9]);refine call_function_entry_kw kind_sorted plain_sorted entry_sorted (ksk_s1 _ _) ?_;unfold Builtin.«sorted»;refine Z9 (m:=checkCount "sorted" 1 1 _) (Z7 (Z9 (EH (A:=X.A.in1) (by simpa using hh) y ⟨o,ho,S,hd⟩ (by lia) fun d tk kp j=>?_)));rw[F];have K:Inv X U Z H {s with heap:=d,toks:=tk}:=I.kept (t':=tk) kp;refine Z9 (GE ?_ (by rw[Y9,W9];lia));have v:(d.push (seqObj "list" (bs.map Value.ref).toArray 0)).get? d.objs.size=some (seqObj "list" (bs.map Value.ref).toArray 0):=X9 _ rfl;have t:∀b o,d.get? b=some o->(d.push (seqObj "list" (bs.map Value.ref).toArray 0)).get? b=some o:=fun b o e=>Z3 _ e;have g:H d.objs.size=none:=K.hok.fresh (Z5 _);have I2:Inv X U Z (cL H d.objs.size (.lst (bs.map V.ref))) {s with heap:=d.push (seqObj "list" (bs.map Value.ref).toArray 0),toks:=tk}:=
  K.laid (t':=tk) t (Z5 _) (show cD X.prog X.w _ _ _ (.lst _)from⟨by rw[Y9,W9];lia,bs.map Value.ref,0,iR bs,v⟩)
 refine Z9 (X1 (wpAny_call_entry_kw slot_list_sort ⟨_,v,rfl⟩ entry_list_sort ?_ (ksk_l1 _ _)));show wpAny (model X.prog X.w) X.A.in1.in1 (Builtin.«list.sort» ⟨[.ref d.objs.size],[(Str.ofString "key",.ref f)]⟩) _ _ _;rw[ksk_t1];have N:f≠d.objs.size:=(by obtain⟨of,D,_⟩:=L.hf;exact Y6 (X8 (Z1 D) j));have L2:rJ (cL H d.objs.size (.lst (bs.map V.ref))) (d.push (seqObj "list" (bs.map Value.ref).toArray 0)) T e f l c q (Cz q p0 p1 p2 p3 p4 p5 pm e ctv):=
  L.mono (fun b o _ z=>by rw[aJ (aV z g)];exact z) (fun b o _ z=>t b o (kp b o z)) (by rw[aJ N];exact L.fn)
 refine Od I2 aM (Heap.get?_none_of_le (W2 I.sz j)) (fun hb=>?_) L2 (Paired.mapP hp fun _ _ z=>Am g z) G hr W x (by lia) fun n s' i P I' keep w C p M=>⟨_,rfl,Z7 ⟨_,rfl,.ref _,n,I',rfl,hQ _ n i g (fun b u z=>keep b u (aV z g) (by rw[aJ (aV z g)];exact z)) w ?_⟩⟩
 ·obtain⟨_,o2,E,_⟩:=I.stack.mem hb;exact absurd (X8 (Z1 E) j) (U3 _)
 ·rw[<-TY G p M];exact C
noncomputable def Uc(f:DS->M VR):DS->M (List D):=fun S=>mb (f S) fun r=>match fS r with
 |.dic (.t ks) _=>if ks.length<60 then some (.ok ((nU ks).map fun z=>.tup (z.map D.int)))else none
 |_=>none
theorem FT{F:Hp}:∀{ls:List (List Int)} {bs:List Addr},Paired (fun z b=>cA K F b (z.map V.int)) ls bs->aX K F (ls.map fun z=>D.tup (z.map D.int)) (bs.map V.ref)
 |_,_,.nil=>rfl|_,_,.cons r t=>⟨_,_,rfl,⟨_,_,rfl,r,kN _⟩,FT t⟩
theorem XU{a:Expr}{p kp g:Pos}{c:Addr}(y:hU 3 X.A)(g1:Gl X "sorted")(m1:X.mg "sorted" = none)(m2:X.mg "len" = none)(hB:BI X)(m:X.env.code=.ref c)(hC:PySem.W.codeHdIn X.K c jY=true)(hq:X.env.qual++ "<lambda>" = QK)(hl:g.line=140/\g.col=33)(ha:DE X B O Y a fa)(C:PySem.defaultsOf (HE p0) X.env=([],[]))(P:closureFor rQ X.env=pure [])(he:starEach [a] X.env=(false,eval a X.env)::starEach [] X.env:=by rfl)(N:backTo pos (starEach [a] X.env)=(false,eval a X.env)::backTo pos (starEach [] X.env):=by rfl)(h:(backTo pos (starEach [a] X.env)).any (·.1)=false:=by rfl) :
  DF X B O Y (.Call (.Name "sorted" p) [a] [⟨some "key",.Lambda (HE p0) (NJ p1 p2 p3 p4 p5) rQ g,kp⟩] pos) (Uc fa):=.mk fun U s Z H Q I q=>by
 refine M5 (jX I g1 m1 (by decide +kernel:bootBuiltins "sorted" = some (.builtin "sorted")) ?_ (by decide) (by decide));refine zr ?_ N h rfl rfl;obtain⟨F,S,sk,o⟩:=q;have hA:=(cH ha.h eM he:PA X [a] _) pos U s Z H (fun W i=>∃(n:Addr) (ks:List (List Int)) (bs:List Addr) (E:List V) (j:Hp),W=[.ref n]/\bZ F H j i/\i n=some (zL n ks bs E)/\Paired (fun z b=>cA X.K j b (z.map V.int)) ks bs/\ks.length<60/\
   vQ X.K Y j i Q (some (.ok ((nU ks).map fun z=>.tup (z.map D.int))))) I ⟨F,S,sk,dD.mbF o fun r v j i e1 q1 w=>by
  have rv:=RR.rv e1.fh q1;generalize fS r=d at rv w;cases d<;>first|(exact False.elim w)|skip
  rename_i ks l;cases ks with
  |k ks=>exact False.elim w
  |t ks=>
   obtain⟨n,E,rfl,⟨bs,R,J⟩,_⟩:=rv;have G:vQ X.K Y j i Q (if ks.length<60 then some (.ok ((nU ks).map fun z=>.tup (z.map D.int)))else none):=w;by_cases x:ks.length<60
   ·rw[Z8 x]at G;exact⟨n,ks,bs,E,j,rfl,e1,R,J,x,G⟩
   ·rw[Z6 x]at G;exact False.elim G⟩
 refine eL hA fun us s1 ⟨W,i,I1,r1,n,ks,bs,E,j,ey,e1,R,J,x,w⟩=>?_;subst ey;obtain⟨u,rfl,ru⟩:=vals1 r1;obtain rfl:u=Value.ref n:=ru;have lo:i jY=some (.lam g.line g.col QK):=(by have:=e1.fh _ _ (sk.lo.mono e1.ff);rw[hl.1,hl.2];exact this);refine zd (WQ I1 lo hq m hC hB C P fun f e T h' tk H' I2 sm hf K ⟨w1,w2,w3,w4⟩ hsz=>yz ?_);have L:rJ H' h' jY e f g.line g.col QK (Cz QK p0 p1 p2 p3 p4 p5 ((X.mg "__name__").getD .none) e T):=⟨w1,w2,w3,w4,⟨_,K,rfl⟩,hf⟩;refine EJ (k:=0) I2 y.hd (sm _ _ R) (Paired.mapP J fun _ _ z=>cA.same (e1.fh.trans sm) z) L ?_ (by have:=y.un;lia) m2 x fun r H2 a0 hn s2 M hp=>?_
 ·exact⟨by simpa using y.hd,by have:=y.dp;simp;lia,by have:=y.un;simp;lia⟩
 ·have A:i r=none:=by
   cases z:i r with
   |none=>rfl|some u=>rw[sm _ _ z]at hn;cases hn
  exact w r _ j H2 ⟨bR.refl _,sm.trans s2,(e1.fh.trans sm).trans s2,fun _ _ _ z=>z⟩ A (e1.fh.free A) M (FT (hp _ J))
end PF
namespace PF
open PySem PySem.Spec PySem.W L2
open PyProof.Rows hiding St InstAt
variable{P:Program}{w:World}{K:Z4}{mg:Str->Option Value}{x qual:Str}{st:Stmt}{fd:V1}{N ps:List Str}{m:List D->M D}
theorem kB.dxc{base:Heap}{f c:Addr}{k:Nat}{g:DS->Option Fl}(hc:fd.code=.ref c)(F:kB K x qual st f fd)(X:aY N ps (aO st))(L:∀(a:Value) (A:Around) (outer:List Env) (s:Shared) (H:Hp) (E:XK),hU k (A.deeper (envOfC qual (aO st) s.heap.objs.size f a))->∀B O:Hp,a=.ref c->OK (nL (SR K P w) P w K mg base N qual (aO st) f a A outer s H E) B O (fun c d=>E (.ref c) none d) (gS st) g)(J:∀b r,b.length=ps.length->m b=some r->fin (g (iT N b))=some r):uZ P w K mg base (SR K P w) (k+1) f fd ps (SS K ps.length m):=by
 obtain⟨oc,od,kV,V,pm,an,a,ct,C,rfl,G,j⟩:=F.ex;have T:a=.ref c:=hc;refine Gv G j X (fun t H Q E h=>BZ h) fun A outer s H t Q E I h=>?_;obtain⟨p,b,fh,lo,r,l,o⟩:=h;refine⟨_,(L a A outer s H E I p H T).h,p,iT N b,wX fh lo r,?_⟩;cases z:m b with
 |none=>rw[z]at o;exact False.elim o
 |some y=>
  rw[z]at o;have e:=J b y l z;cases q:g (iT N b)with
  |none=>rw[q]at e;cases e
  |some R=>
   rw[q]at e;cases R with
   |next S=>have i:Except.ok D.non=y:=(by injection e);subst i;exact fun σ' n d sk=>o .non n d sk.ext rfl
   |ret W=>have i:Except.ok W=y:=(by injection e);subst i;exact fun v n d ex u=>o v n d ex u
   |brk S=>cases e|cont S=>cases e
   |ex c=>have i:Except.error c=y:=(by injection e);subst i;exact fun d M=>o d M
end PF
namespace PF
open PySem PySem.Spec L2
open PyProof.Rows hiding St InstAt
abbrev WR:HO:=.lam 140 33 QK
variable{P:Program}{w:World}{K:Z4}{mg:Str->Option Value}{a:Addr}{fd:V1}{x:Str}{m:List D->M D}
theorem QJ{mb:Str->Option Value}{k:Nat}{fa c:Addr}{f:Shared}{E:List Value}{ns:List Int}(KX:K.In f.heap)(N:f.heap.Ns X3 mg)(g:f.heap.Ns builtinsNs mb)(a3:∀x:Str,x≠ "__name__" ->mb x=bootBuiltins x)(Q:f.heap.NoLimit)(hg:f.gens=#[])(G:f.heap.get? a=some {cls:=.type "list",data:=.seq E.toArray})(hi:IntsAre E ns)(hl:ns.length<=sizeLine)(hr:hU k callerA)(hT:f.heap.get? jY=some (PySem.W.tabObj #[]))(a5:K.lookup jY=none)(hC:PySem.W.codeHdIn K c jY=true)(F:∀base:Heap,K.In base->base.Ns X3 mg->uZ P w K mg base kM k fa fd [x] (SS K 1 m))(D:∀(s:Shared) (u:Value),BindsTo s fd ⟨[u],[]⟩ [(x,u)])(hm:m [.scr ns]=some (.ok (.bl true))) :
  codeAny (model P w) callerA (.call (.ref fa) ⟨[.ref a],[]⟩) (fun r t=>r=.ok (.ret (.bool true))/\OldK f.heap t.heap/\t.os=f.os/\AllBare t.gens) f:=by
 have rv:=L2.AF hi;have L:=hi.length;have J:a≠jY:=fun z=>(by rw[z,hT]at G;cases G);have C:∀H:Hp,(∀b u,H b=some u->b=jY\/(b=a/\∃o xs,u=.frz o (.lst xs)))->H jY=some WR->iA K H a (ns.map V.int)->pG P w H f.heap->(H a≠none->K.lookup a=none)->
   codeAny (model P w) callerA (.call (.ref fa) ⟨[.ref a],[]⟩) (fun r t=>r=.ok (.ret (.bool true))/\OldK f.heap t.heap/\t.os=f.os/\AllBare t.gens) f:=by
  intro H hO hP hS hok hK;have i:∀{b:Addr} {o:Obj},f.heap.get? b=some o->H b=none->(DB f.heap H).get? b=some o:=fun e n=>XD e n;have a0:∀{b:Addr} {o:Obj} {S:Array DictEntry} {T:Nat},f.heap.get? b=some o->o.data=.dict S T->H b=none:=fun{b o S T} e d=>by
   cases q:H b with
   |none=>rfl
   |some u=>
    rcases hO b u q with rfl|⟨rfl,_⟩
    ·rw[hT]at e;cases e;cases d
    ·rw[G]at e;cases e;cases d
  have y:∀{b:Addr} {m:Str->Option Value},f.heap.Ns b m->(DB f.heap H).Ns b m:=fun{b m} ⟨o,S,T,e,d,r⟩=>⟨o,S,T,i e (a0 e d),d,r⟩;have R:K.In (DB f.heap H):=fun b o e=>i (KX b o e) (by
   cases q:H b with
   |none=>rfl
   |some u=>
    rcases hO b u q with rfl|⟨rfl,_⟩
    ·rw[a5]at e;cases e
    ·rw[hK (by rw[q];simp)]at e;cases e)
  have hM:Mod K mg (DB f.heap H):=⟨R,y N,⟨mb,y g,a3⟩,let ⟨mc,h1,l⟩:=Q;⟨mc,y h1,l⟩⟩;have e0:tV P w K mg (DB f.heap H) callerA [] f H:=⟨rfl,hM,fun b o e=>Ce e,z6 (QW _ _),trivial,fun b g=>absurd (show b∈([]:List Addr)from g) (by simp),hok,.of_eq hg⟩;have a1:SS K 1 m [.ref a] H (fun v W=>v=.bl true/\W jY=some WR) fun _ _ _=>False:=⟨H,[.scr ns],bR.refl _,hP,aX.one ⟨a,rfl,hS⟩,rfl,by rw[hm];exact fun v F' W ex r=>⟨r,ex.hh _ _ hP⟩⟩;refine N0 ((F _ R (y N)).run callerA [] f H ⟨[.ref a],[]⟩ [.ref a] [.ref a] _ _ hr e0 (D f (.ref a)) (.cons rfl .nil) a1) fun r t h=>?_;cases r with
  |error e=>exact False.elim h
  |ok fl=>
   cases fl with
   |next=>exact False.elim h|brk=>exact False.elim h|cont=>exact False.elim h
   |ret u=>
    obtain⟨v,W,os,bare,un,A,r',q,a4⟩:=h;subst q;obtain rfl:u=Value.bool true:=r';obtain⟨ps,M,_⟩:=(show cD P w W t.heap jY (.lam _ _ _)from A _ _ a4);have a2:isCodeTable f.heap jY:=(by obtain⟨o,X,_,_,_,_,_,_,_,h1,l,h3,h4,_⟩:=PySem.W.codeHd_of_K KX hC;exact⟨c,o,X,h1,l,h3,h4⟩);refine⟨rfl,⟨fun b o e=>?_,fun b o e=>?_⟩,os,bare⟩
    ·by_cases g:b=jY
     ·subst g;rw[hT]at e;cases e;exact .inr (.inl ⟨a2,rfl,#[],ps,rfl,by rw[M];simp[PySem.W.tabObj]⟩)
     ·left;cases q:H b with
      |none=>exact un.keep b o e q (by intro z;exact absurd (show b∈([]:List Addr)from z) (by simp)) (by simp)
      |some u=>
       rcases hO b u q with z|⟨_,ob,xs,z⟩
       ·exact absurd z g
       ·subst z;have p:=un.frzs b ob _ q;obtain⟨e1,_⟩:=hok b _ q;obtain⟨e2,_⟩:=A b _ p;rw[e]at e1;cases e1;exact e2
    ·by_cases g:b=jY
     ·subst g;exact⟨_,M⟩
     ·exact un.there b o e (by simp)
 have I:∀H:Hp,cD P w H f.heap jY WR:=fun H=>⟨#[],hT,.inl rfl⟩;cases hk:K.lookup a with
 |some o=>
  have e:=KX a o hk;rw[G]at e;cases e;refine C (fun b=>if b=jY then some WR else none) (fun b u z=>?_) (Z8 rfl) (.inr ⟨_,E.toArray,_,hk,rfl,rfl,rfl,by rw[Y7,L];exact hl,by simpa using rv⟩) (fun b u z=>?_) fun z=>absurd (Z6 J) z
  ·by_cases g:b=jY
   ·exact .inl g
   ·have j:=(Z6 g).symm.trans z;cases j
  ·by_cases g:b=jY
   ·subst g;have j:=(Z8 rfl).symm.trans z;cases j;exact I _
   ·have j:=(Z6 g).symm.trans z;cases j
 |none=>
  refine C (fun b=>if b=jY then some WR else if b=a then some (.frz {cls:=.type "list",data:=.seq E.toArray} (.lst (ns.map V.int)))else none) (fun b u z=>?_) (Z8 rfl) (.inl (.inr ⟨{cls:=.type "list",data:=.seq E.toArray},(Z6 J).trans (Z8 rfl)⟩)) (fun b u z=>?_) fun _=>hk
  ·by_cases g:b=jY
   ·exact .inl g
   ·have j:=(Z6 g).symm.trans z;by_cases l:b=a
    ·have p:=(Z8 l).symm.trans j;cases p;exact .inr ⟨l,_,_,rfl⟩
    ·have p:=(Z6 l).symm.trans j;cases p
  ·by_cases g:b=jY
   ·subst g;have j:=(Z8 rfl).symm.trans z;cases j;exact I _
   ·have j:=(Z6 g).symm.trans z;by_cases l:b=a
    ·subst l;have p:=(Z8 rfl).symm.trans j;cases p;exact⟨G,by rw[Y9];exact hl,E,_,rv,G⟩
    ·have p:=(Z6 l).symm.trans j;cases p
theorem Mz{l:PySem.W.OpenLaw}{k:Nat}{q:Program}{e:List Str}{Q:(Str->Option Value)->Heap->Prop}{z:World->Heap->Prop}{d:DefRec}{K:Params->Z4}{c:Addr}(A:hU k callerA)(C:l.most=some 63)(r:d.params.defaults=[])(D:∀ns:List Int,ns.length<=63->m [.scr ns]=some (.ok (.bl true)))(J:∀(w:World) (h:Heap),z w h->(K w.params).In h/\h.get? jY=some (PySem.W.tabObj #[]))(t:∀p:Params,(K p).lookup jY=none)(M:∀p:Params,PySem.W.codeHdIn (K p) c jY=true) (F:∀(w:World) (mg:Str->Option Value) (j:Addr) (h:Heap),(K w.params).In h->h.Ns X3 mg->mg d.name=some (.ref j)->
   ∃fd:V1,(∀(s:Shared) (u:Value),BindsTo s fd ⟨[u],[]⟩ [(x,u)])/\∀base:Heap,(K w.params).In base->base.Ns X3 mg->uZ l.prog w (K w.params) mg base kM k j fd [x] (SS (K w.params) 1 m)) :
  PySem.W.WalkO q e Q z l.row.toRowW d [] (fun f y=>PySem.call f y):=by
 refine Att.IM C r fun w s₀ R mg S j o pm V N a y ns G P T hd H n i g b E=>?_;have v:=J w _ P;obtain⟨fd,I,L⟩:=F w mg j _ v.1 G.T.g n;exact QJ v.1 G.T.g G.T.b G.T.builtins G.T.nolimit E i g (W2 b (by decide)) A v.2 (t _) (M _) L I (D ns b)
end PF
namespace PF
open PySem
noncomputable def kdB(K:Z4):Bool:=K.all fun p=>p.2.dict.isNone || (match p.2.cls with|.type t=>!(t=="tuple")|_=>true)
variable{a:Addr}
theorem WM{o:Obj}:∀{K:Z4},K.lookup a=some o->(a,o)∈K
 |[],e=>nomatch e
 |(b,u)::K,e=>by
  rw[List.lookup_cons]at e;cases c:a==b with
  |true=>rw[c]at e;cases e;rw[eq_of_beq c];exact X7
  |false=>rw[c]at e;exact X5 _ (WM e)
variable{K:Z4}
theorem Ju(h:kdB K=true):Mv K:=fun a o e c=>by have:=A9.mp h _ (WM e);rw[c]at this;simpa using this
end PF
namespace PF
open PySem PySem.Spec PySem.W L2
open PyProof.Rows hiding St InstAt
variable{X:Cx}{B O:Hp}{Y:Addr->Hp->Prop}{pos:Pos}{e:Expr}{es:List Expr}{CX:ZN}{j n:Nat}{x:Str}{m:List D->M D}
theorem bC{c:DS->M (List VR)}{k:Nat}{p:Pos}(l:nQ X.prog X.w X.K X.mg X.base CX j x n m)(g:hU k X.A)(h:Gl X x)(f:uY CX X (Ex Y))(i:DA X B O Y (e::es) c)(d:j<=k:=by decide)(b:(x==("__debug__" : Str))=false:=by decide)(he:starEach (e::es) X.env=(false,eval e X.env)::starEach es X.env:=by rfl)(a:(backTo pos (starEach es X.env)).any (·.1)=false:=by rfl) :
  DE X B O Y (.Call (.Name x p) (e::es) [] pos) (aR n m c):=Dz l (g.mono d) h f i b he a
noncomputable def Zt(N P:List Str)(sc:Scope):Bool:=(match sc.kind with|.function=>true|_=>false)&&!sc.isCoroutine&&!sc.isGenerator&&decide N.Nodup&&decide (N.take P.length=P)&&P.all (fun x=>match sc.names.lookup x with|some .local=>true|some .cell=>true|_=>false)&&sc.names.all fun y=>match y.2 with|.free=>false|_=>true
variable{N:List Str}
theorem dH{P:List Str}{a:Scope}(h:Zt N P a=true):aY N P a:=by
 unfold Zt at h;simp only[X6,KM,U5]at h;obtain⟨⟨⟨⟨⟨⟨b,l⟩,k⟩,j⟩,i⟩,g⟩,f⟩:=h;refine⟨?_,l,k,j,i,fun x d=>?_,fun y c e=>?_⟩
 ·split at b
  ·assumption
  ·cases b
 ·have:=A9.mp g x d;split at this
  ·rename_i e;exact .inl e
  ·rename_i e;exact .inr e
  ·cases this
 ·have:=A9.mp f y c;rw[e]at this;cases this
end PF
namespace R
open PySem L2 PF
def pR:DS->Option Fl:=
 (aU (qB (eW (aF Mu (aC 1) (cY cZ (aC 0)))) (cB (aF bM (aC 0) (aC 1))) dP)
  (cB (dC (.int 0))))
def jN:List D->M D:=fun ds=>kQ (fin (pR (bF 2 ds)))
def uO(M_l_cell_at:List D->M D):DS->Option Fl:=
 (aU (bN 2 (aF (eO dF fun i j=>i%j) (aF bU (aF cK (aF cK (aR 2 M_l_cell_at (aD (aC 0) (aD (aC 1) aL))) (aF bU (dC (.int 7919)) (aC 1))) (dC (.int 1))) (dC (.int 48271))) (dC (.int 2147483647))))
  (cB (aF (eO dF fun i j=>i%j) (aF cK (aF cK (aF bU (aC 2) (aC 2)) (aF bU (dC (.int 7)) (aC 2))) (aC 1)) (dC (.int 2147483629)))))
def eX:List D->M D:=fun ds=>kQ (fin (uO jN (bF 3 ds)))
def uP:DS->Option Fl:=
 (aU (bN 2 (aF (eO dF fun i j=>i%j) (aF bU (aF cK (aF cK (aC 0) (aF bU (dC (.int 104729)) (aC 1))) (dC (.int 17))) (dC (.int 69621))) (dC (.int 2147483647))))
  (cB (aF (eO dF fun i j=>i%j) (aF cK (aF cK (aF bU (aC 2) (aC 2)) (aF bU (dC (.int 3)) (aC 2))) (aC 1)) (dC (.int 2147483629)))))
def iW:List D->M D:=fun ds=>kQ (fin (uP (bF 3 ds)))
def oM:DS->Option Fl:=
 (cB (qC (cY (oY "int") (aC 0)) (qC (YD (cY (oY "bool") (aC 0))) (yS Kv Kv (aC 1) (aC 0) (aC 2)))))
def bT:List D->M D:=fun ds=>kQ (fin (oM (bF 3 ds)))
def qV(M_l_drawn:List D->M D):DS->Option Fl:=
 (aU (bN 6 (aR 2 M_l_drawn (aD (aC 0) (aD (aC 5) aL))))
  (wJ 4 (aF bU (aF (eO dF fun i j=>i%j) (aF (eO rD fun i j=>i / j) (aC 6) (dC (.int 8))) (aC 1)) (cY BU (Eb (aF JE (aF (eO dF fun i j=>i%j) (aF (eO rD fun i j=>i / j) (aC 0) (dC (.int 16))) (dC (.int 3))) (dC (.int 0))) (aF lO (aF (eO dF fun i j=>i%j) (aC 6) (dC (.int 3))) (dC (.int 0))))))))
def DM(M_l_drawn:List D->M D):DS->Option Fl:=
 (aU (bN 3 (aF (eO dF fun i j=>i%j) (aC 0) (aF cK (aC 2) (dC (.int 1)))))
  (aU (yQ 4 (qA aL))
  (aU (lJ (jK (aD (aC 3) aL)) (aQ 5) (qV M_l_drawn))
  (aU (qB (eW (aF JE (aC 3) (dC (.int 0)))) (mO 4 (cY mH (dC (.int 1))) (aF cK (dC (.int 1)) (aF (eO dF fun i j=>i%j) (aR 2 M_l_drawn (aD (aC 0) (aD (dC (.int 40)) aL))) (aF (iV fun i j=>i-j) (aC 1) (dC (.int 1)))))) dP)
  (cB (cY qY (aC 4)))))))
def qM:List D->M D:=fun ds=>kQ (fin (DM iW (bF 7 ds)))
def jZ(M_l_number:List D->M D):DS->Option Fl:=
 (aU (qB (LN (pZ (eW (cY (oY "tuple") (aC 0)))) (eW (aF rH (mP (gE 1 [1] (iQ (aC 0)) (aQ 0) (pZ (eW (aR 3 M_l_number (aD (aC 0) (aD (dC (.int 0)) (aD (aF (iV fun i j=>i-j) (aC 1) (dC (.int 1))) aL)))))) (aC 0))) (mP (qA aL))))) (cB (dC (.bl false))) dP)
  (cB (Eb (aF lO (aC 0) (dS aL)) (aF rH (aF bM (aC 0) (cY mH (dC (.int 1)))) (dC (.int 0))))))
def fK:List D->M D:=fun ds=>kQ (fin (jZ bT (bF 2 ds)))
def rT(M_l_is_long_sum:List D->M D):DS->Option Fl:=
 (cB (qC (aR 2 M_l_is_long_sum (aD (aC 0) (aD (aC 1) aL))) (aF Kv (cY cZ (aC 0)) (dC (.int 9)))))
def dI:List D->M D:=fun ds=>kQ (fin (rT fK (bF 2 ds)))
def jQ:DS->M Bool:=
 (EF (eW (aF JE (aC 1) (dC (.int 0)))) (eW (aF lO (aF bM (aC 0) (aF (iV fun i j=>i-j) (aC 1) (dC (.int 1)))) (dC (.int 0)))))
def qD:DS->Option Fl:=
 (bN 1 (aF (iV fun i j=>i-j) (aC 1) (dC (.int 1))))
def uK:DS->Option Fl:=
 (aU (bN 1 (cY cZ (aC 0)))
  (aU (eG (jQ) (qD) 200)
  (cB (cY qY (ED (aC 0) wI (NX (aC 1)))))))
def bH:List D->M D:=fun ds=>kQ (fin (uK (bF 2 ds)))
def yB(M_trimmed:List D->M D):DS->Option Fl:=
 (cB (aR 1 M_trimmed (aD (mP (gE 1 [2,1] (iQ (aC 0)) (aQ 0) (fun _=>some (.ok true)) (aF (eO dF fun i j=>i%j) (aF bU (aC 2) (aC 0)) (aC 1)))) aL)))
def bL:List D->M D:=fun ds=>kQ (fin (yB bH (bF 3 ds)))
def pC:DS->Option Fl:=
 (cB (aF bM (mP (gE 1 [1,0] (kL (aD (dC (.int 1)) (aD (aC 1) aL))) (aQ 0) (eW (aF lO (aF (eO dF fun i j=>i%j) (aF bU (aC 2) (aC 0)) (aC 1)) (dC (.int 1)))) (aC 0))) (dC (.int 0))))
def aW:List D->M D:=fun ds=>kQ (fin (pC (bF 2 ds)))
def tU(M_trimmed:List D->M D):DS->Option Fl:=
 (mO 3 (aC 4) (aC 5))
def tR(M_trimmed:List D->M D):DS->Option Fl:=
 (mO 3 (aC 4) (aF (eO dF fun i j=>i%j) (aF cK (aF bM (aC 3) (aC 4)) (aC 5)) (aC 2)))
def LB(M_trimmed:List D->M D):DS->Option Fl:=
 (aU (yQ 3 (BC bU (mP (qA (aD (dC (.int 0)) aL))) (aF NA (cY cZ (aC 0)) (cY cZ (aC 1)))))
  (aU (lJ (nK (aC 0)) (gK 2 (bE (aQ 4) (bE (aQ 5) gL))) (tU M_trimmed))
  (aU (lJ (nK (aC 1)) (gK 2 (bE (aQ 4) (bE (aQ 5) gL))) (tR M_trimmed))
  (cB (aR 1 M_trimmed (aD (aC 3) aL))))))
def xS:List D->M D:=fun ds=>kQ (fin (LB bH (bF 6 ds)))
def DL(M_plus:List D->M D)(M_scaled:List D->M D):DS->Option Fl:=
 (cB (aR 3 M_plus (aD (aC 0) (aD (aR 3 M_scaled (aD (aC 1) (aD (aF (iV fun i j=>i-j) (aC 2) (dC (.int 1))) (aD (aC 2) aL)))) (aD (aC 2) aL)))))
def cW:List D->M D:=fun ds=>kQ (fin (DL xS bL (bF 3 ds)))
def qU(M_trimmed:List D->M D):DS->Option Fl:=
 (mO 3 (aF cK (aC 4) (aC 6)) (aF (eO dF fun i j=>i%j) (aF cK (aF bM (aC 3) (aF cK (aC 4) (aC 6))) (aF bU (aC 5) (aC 7))) (aC 2)))
def nO(M_trimmed:List D->M D):DS->Option Fl:=
 (lJ (nK (aC 1)) (gK 2 (bE (aQ 6) (bE (aQ 7) gL))) (qU M_trimmed))
def DD(M_trimmed:List D->M D):DS->Option Fl:=
 (aU (yQ 3 (BC bU (mP (qA (aD (dC (.int 0)) aL))) (aF cK (cY cZ (aC 0)) (cY cZ (aC 1)))))
  (aU (lJ (nK (aC 0)) (gK 2 (bE (aQ 4) (bE (aQ 5) gL))) (nO M_trimmed))
  (cB (aR 1 M_trimmed (aD (aC 3) aL)))))
def sV:List D->M D:=fun ds=>kQ (fin (DD bH (bF 8 ds)))
def oU(M_turned_number:List D->M D)(M_trimmed:List D->M D):DS->Option Fl:=
 (mO 4 (aF cK (aC 6) (aC 8)) (aF (eO dF fun i j=>i%j) (aF (iV fun i j=>i-j) (aF bM (aC 4) (aF cK (aC 6) (aC 8))) (aF bU (aC 7) (aC 9))) (aC 2)))
def oS(M_turned_number:List D->M D)(M_trimmed:List D->M D):DS->Option Fl:=
 (aU (bN 7 (aF (eO dF fun i j=>i%j) (aF bU (aF bM (aC 4) (aF (iV fun i j=>i-j) (aF cK (aC 6) (cY cZ (aC 1))) (dC (.int 1)))) (aC 3)) (aC 2)))
  (aU (mO 5 (aC 6) (aC 7))
  (lJ (nK (aC 1)) (gK 2 (bE (aQ 8) (bE (aQ 9) gL))) (oU M_turned_number M_trimmed))))
def yC(M_turned_number:List D->M D)(M_trimmed:List D->M D):DS->Option Fl:=
 (aU (qB (eW (aF lO (cY cZ (aC 1)) (dC (.int 0)))) (fun _=>none) dP)
  (aU (bN 3 (aR 2 M_turned_number (aD (aF bM (aC 1) (cY mH (dC (.int 1)))) (aD (aC 2) aL))))
  (aU (yQ 4 (uW (aC 0)))
  (aU (yQ 5 (BC bU (mP (qA (aD (dC (.int 0)) aL))) (cY cZ (aC 0))))
  (aU (lJ (EE (aD (aF (iV fun i j=>i-j) (cY cZ (aC 0)) (cY cZ (aC 1))) (aD (cY mH (dC (.int 1))) (aD (cY mH (dC (.int 1))) aL)))) (aQ 6) (oS M_turned_number M_trimmed))
  (cB (dS (aD (aR 1 M_trimmed (aD (aC 5) aL)) (aD (aR 1 M_trimmed (aD (aC 4) aL)) aL)))))))))
def iJ:List D->M D:=fun ds=>kQ (fin (yC aW bH (bF 10 ds)))
def rS(M_parted:List D->M D)(M_minus:List D->M D)(M_times:List D->M D):DS->Option Fl:=
 (aU (bN 3 (aF bM (aR 3 M_parted (aD (aF bM (aC 0) (dC (.int 0))) (aD (aF bM (aC 1) (dC (.int 0))) (aD (aC 2) aL)))) (dC (.int 0))))
  (cB (mP (gE 2 [2,3] (Km (aD (aC 0) (aD (aC 1) aL))) (gK 2 (bE (aQ 0) (bE (aQ 1) gL))) (fun _=>some (.ok true)) (aR 3 M_minus (aD (aC 0) (aD (aR 3 M_times (aD (aC 3) (aD (aC 1) (aD (aC 2) aL)))) (aD (aC 2) aL))))))))
def gY:List D->M D:=fun ds=>kQ (fin (rS iJ cW sV (bF 4 ds)))
def oQ(M_row_less:List D->M D)(M_turned_number:List D->M D)(M_scaled:List D->M D):DS->M Bool:=
 (eW (aF JE (cY cZ (aF bM (aC 4) (dC (.int 0)))) (dC (.int 0))))
def sD(M_row_less:List D->M D)(M_turned_number:List D->M D)(M_scaled:List D->M D):DS->Option Fl:=
 (aU (bN 5 (aR 3 M_row_less (aD (aC 3) (aD (aC 4) (aD (aC 2) aL)))))
  (aU (bN 3 (aC 4))
  (bN 4 (aC 5))))
def tH(M_row_less:List D->M D)(M_turned_number:List D->M D)(M_scaled:List D->M D):DS->Option Fl:=
 (aU (bN 3 (mP (qA (aD (aC 0) (aD (dC (.tup (([1]:List Int).map .int))) (aD (dS aL) aL))))))
  (aU (bN 4 (mP (qA (aD (aC 1) (aD (dS aL) (aD (dC (.tup (([1]:List Int).map .int))) aL))))))
  (aU (eG (oQ M_row_less M_turned_number M_scaled) (sD M_row_less M_turned_number M_scaled) 200)
  (aU (qB (eW (aF lO (cY cZ (aF bM (aC 3) (dC (.int 0)))) (dC (.int 0)))) (cB (dS (aD (dS aL) (aD (dS aL) (aD (dS aL) aL))))) dP)
  (aU (bN 6 (aR 2 M_turned_number (aD (aF bM (aF bM (aC 3) (dC (.int 0))) (cY mH (dC (.int 1)))) (aD (aC 2) aL))))
  (cB (cY qY (mP (gE 1 [6,2] (iQ (aC 3)) (aQ 0) (fun _=>some (.ok true)) (aR 3 M_scaled (aD (aC 0) (aD (aC 1) (aD (aC 2) aL)))))))))))))
def eY:List D->M D:=fun ds=>kQ (fin (tH gY aW bL (bF 7 ds)))
def lK:DS->M Bool:=
 (EF (eW (aF rH (aC 1) (mP (qA aL)))) (eW (aF lO (aF bM (aC 1) (cY mH (dC (.int 1)))) (dC (.int 0)))))
def sA:DS->Option Fl:=
 (Ea 1)
def yE:DS->Option Fl:=
 (aU (yQ 1 (uW (aC 0)))
  (aU (eG (lK) (sA) 200)
  (cB (cY qY (aC 1)))))
def gN:List D->M D:=fun ds=>kQ (fin (yE (bF 2 ds)))
def IL(M_l_trim:List D->M D):DS->Option Fl:=
 (mO 3 (aF cK (aC 4) (aC 6)) (aF (eO dF fun i j=>i%j) (aF cK (aF bM (aC 3) (aF cK (aC 4) (aC 6))) (aF bU (aC 5) (aC 7))) (aC 2)))
def vN(M_l_trim:List D->M D):DS->Option Fl:=
 (lJ (nK (aC 1)) (gK 2 (bE (aQ 6) (bE (aQ 7) gL))) (IL M_l_trim))
def uN(M_l_trim:List D->M D):DS->Option Fl:=
 (aU (yQ 3 (BC bU (mP (qA (aD (dC (.int 0)) aL))) (aF cK (cY cZ (aC 0)) (cY cZ (aC 1)))))
  (aU (lJ (nK (aC 0)) (gK 2 (bE (aQ 4) (bE (aQ 5) gL))) (vN M_l_trim))
  (cB (aR 1 M_l_trim (aD (aC 3) aL)))))
def cT:List D->M D:=fun ds=>kQ (fin (uN gN (bF 8 ds)))
def oP(M_l_trim:List D->M D):DS->M Bool:=
 (eW (aF Yr (cY cZ (aC 3)) (cY cZ (aC 1))))
def sC(M_l_trim:List D->M D):DS->Option Fl:=
 (aU (bN 5 (aF bU (aF bM (aC 3) (cY mH (dC (.int 1)))) (aC 4)))
  (aU (bN 6 (aF (iV fun i j=>i-j) (cY cZ (aC 3)) (cY cZ (aC 1))))
  (bN 3 (mP (uW (aR 1 M_l_trim (aD (mP (gE 2 [2,5,1,6] (nK (aC 3)) (gK 2 (bE (aQ 0) (bE (aQ 1) gL))) (fun _=>some (.ok true)) (aF (eO dF fun i j=>i%j) (aF (iV fun i j=>i-j) (aC 1) (aF bU (aC 3) (aF bM (aF cK (aF bU (dS (aD (dC (.int 0)) aL)) (aC 5)) (aC 4)) (aC 0)))) (aC 2)))) aL)))))))
def yF(M_l_trim:List D->M D):DS->Option Fl:=
 (aU (bN 3 (mP (uW (aC 0))))
  (aU (bN 4 (aF bM (mP (gE 1 [2,1] (jK (aD (aC 2) aL)) (aQ 0) (eW (aF lO (aF (eO dF fun i j=>i%j) (aF bU (aC 0) (aF bM (aC 2) (cY mH (dC (.int 1))))) (aC 1)) (dC (.int 1)))) (aC 0))) (dC (.int 0))))
  (aU (eG (oP M_l_trim) (sC M_l_trim) 200)
  (cB (cY qY (aC 3))))))
def gO:List D->M D:=fun ds=>kQ (fin (yF gN (bF 7 ds)))
def uL(M_parted:List D->M D):DS->Option Fl:=
 (cB (aF bM (aR 3 M_parted (aD (aC 0) (aD (aC 1) (aD (aC 2) aL)))) (dC (.int 1))))
def fN:List D->M D:=fun ds=>kQ (fin (uL iJ (bF 3 ds)))
def qT:DS->Option Fl:=
 (bN 3 (aF (eO dF fun i j=>i%j) (aF cK (aF bU (aC 3) (aC 1)) (aC 4)) (aC 2)))
def DC:DS->Option Fl:=
 (aU (bN 3 (dC (.int 0)))
  (aU (lJ (YB (aC 0)) (aQ 4) (qT))
  (cB (aC 3))))
def oF:List D->M D:=fun ds=>kQ (fin (DC (bF 5 ds)))
def DJ(M_value:List D->M D):DS->Option Fl:=
 (cB (cY qY (mP (gE 1 [0,1] (jK (aD (aC 1) aL)) (aQ 0) (eW (aF lO (aR 3 M_value (aD (aC 1) (aD (aC 0) (aD (aC 2) aL)))) (dC (.int 0)))) (aC 0)))))
def qK:List D->M D:=fun ds=>kQ (fin (DJ oF (bF 2 ds)))
def oK:DS->Option Fl:=
 (cB (aF cK (aF bU (dS (aD (dC (.int 0)) aL)) (aC 0)) (dC (.tup (([1]:List Int).map .int)))))
def cP:List D->M D:=fun ds=>kQ (fin (oK (bF 1 ds)))
def DH(M_trimmed:List D->M D):DS->Option Fl:=
 (aU (bN 2 (mP (gE 2 [1] (nK (aC 0)) (gK 2 (bE (aQ 0) (bE (aQ 1) gL))) (fun _=>some (.ok true)) (aF (eO dF fun i j=>i%j) (aF bU (aC 0) (aC 1)) (aC 2)))))
  (cB (aR 1 M_trimmed (aD (ED (aC 2) (NX (dC (.int 1))) wI) aL))))
def mC:List D->M D:=fun ds=>kQ (fin (DH bH (bF 3 ds)))
def jR(M_minus:List D->M D)(M_scaled:List D->M D):DS->M Bool:=
 (EF (eW (aF JE (cY cZ (aC 3)) (dC (.int 0)))) (eW (aF RU (cY cZ (aC 3)) (aC 1))))
def qF(M_minus:List D->M D)(M_scaled:List D->M D):DS->Option Fl:=
 (aU (bN 5 (aF AL (aC 1) (cY cZ (aC 3))))
  (aU (bN 6 (aF bM (aC 3) (cY mH (dC (.int 1)))))
  (aU (bN 3 (aR 3 M_minus (aD (aC 3) (aD (aR 3 M_scaled (aD (aF bM (aC 5) (dC (.int 0))) (aD (aC 6) (aD (aC 2) aL)))) (aD (aC 2) aL)))))
  (bN 4 (aR 3 M_minus (aD (aC 4) (aD (aR 3 M_scaled (aD (aF bM (aC 5) (dC (.int 1))) (aD (aC 6) (aD (aC 2) aL)))) (aD (aC 2) aL))))))))
def uQ(M_minus:List D->M D)(M_scaled:List D->M D):DS->Option Fl:=
 (aU (bN 3 (aF bM (aC 0) (dC (.int 0))))
  (aU (bN 4 (aF bM (aC 0) (dC (.int 1))))
  (aU (eG (jR M_minus M_scaled) (qF M_minus M_scaled) 200)
  (cB (dS (aD (aC 3) (aD (aC 4) aL)))))))
def fP:List D->M D:=fun ds=>kQ (fin (uQ cW bL (bF 7 ds)))
def fC(M_lone_power:List D->M D)(M_rest_by:List D->M D)(M_cleared:List D->M D)(M_minus:List D->M D)(M_turned_number:List D->M D)(M_scaled:List D->M D):DS->Option Fl:=
 (aU (bN 4 (aR 1 M_lone_power (aD (aC 3) aL)))
  (aU (bN 5 (aR 3 M_rest_by (aD (aR 1 M_lone_power (aD (aF bU (aC 3) (aC 1)) aL)) (aD (aC 0) (aD (aC 1) aL)))))
  (aU (bN 6 (aR 3 M_cleared (aD (dS (aD (aR 3 M_minus (aD (aC 5) (aD (aC 4) (aD (aC 1) aL)))) (aD (aC 4) aL))) (aD (aC 2) (aD (aC 1) aL)))))
  (aU (qB (eW (aF lO (cY cZ (aF bM (aC 6) (dC (.int 0)))) (dC (.int 0)))) (cB (aF bM (aC 6) (dC (.int 1)))) dP)
  (aU (bN 7 (aR 2 M_turned_number (aD (aF bM (aF bM (aC 6) (dC (.int 0))) (cY mH (dC (.int 1)))) (aD (aC 1) aL))))
  (OA 2 (cY cZ (aF bM (aC 6) (dC (.int 0)))) (dS (aD (aR 3 M_scaled (aD (aF bM (aC 6) (dC (.int 0))) (aD (aC 7) (aD (aC 1) aL)))) (aD (aR 3 M_scaled (aD (aF bM (aC 6) (dC (.int 1))) (aD (aC 7) (aD (aC 1) aL)))) aL)))))))))
def oI(M_lone_power:List D->M D)(M_rest_by:List D->M D)(M_cleared:List D->M D)(M_minus:List D->M D)(M_turned_number:List D->M D)(M_scaled:List D->M D):DS->Option Fl:=
 (aU (Rr 2)
  (aU (lJ (kL (aD (dC (.int 1)) (aD (aF (iV fun i j=>i-j) (cY cZ (aC 0)) (dC (.int 1))) aL))) (aQ 3) (fC M_lone_power M_rest_by M_cleared M_minus M_turned_number M_scaled))
  (cB (dC .non))))
def fI:List D->M D:=fun ds=>kQ (fin (oI cP fN fP cW aW bL (bF 8 ds)))
def gH(M_steady_sum:List D->M D)(M_minus:List D->M D)(M_scaled:List D->M D)(M_common:List D->M D):DS->Option Fl:=
 (aU (bN 2 (aR 2 M_steady_sum (aD (aC 0) (aD (aC 1) aL))))
  (aU (qB (eW (cY pE (aC 2))) (cB (dC .non)) dP)
  (aU (bN 3 (mP (gE 1 [2,1] (jK (aD (aC 1) aL)) (aQ 0) (fun _=>some (.ok true)) (aR 3 M_minus (aD (aC 1) (aD (aR 3 M_scaled (aD (dC (.tup (([1]:List Int).map .int))) (aD (aC 0) (aD (aC 2) aL)))) (aD (aC 2) aL)))))))
  (cB (cY lU (mP (gE 1 [0,1] (iQ (aC 3)) (aQ 0) (fun _=>some (.ok true)) (aF bM (aR 3 M_common (aD (aC 1) (aD (aC 0) (aD (aC 2) aL)))) (dC (.int 0))))))))))
def cI:List D->M D:=fun ds=>kQ (fin (gH fI cW bL eY (bF 4 ds)))
def iX(M_roots:List D->M D)(M_slope:List D->M D)(M_common:List D->M D)(M_part_by_steady:List D->M D):DS->Option Fl:=
 (aU (qB (eW (aF Mu (cY cZ (aC 0)) (dC (.int 3)))) (cB (dC .non)) dP)
  (aU (bN 2 (aR 2 M_roots (aD (aC 0) (aD (aC 1) aL))))
  (aU (qB (eW (aF JE (cY cZ (aC 2)) (dC (.int 0)))) (cB (dS (aD (aF (eO dF fun i j=>i%j) (aF (iV fun i j=>i-j) (aC 1) (aF bM (aC 2) (dC (.int 0)))) (aC 1)) (aD (dC (.int 1)) aL)))) dP)
  (aU (bN 3 (aR 2 M_slope (aD (aC 0) (aD (aC 1) aL))))
  (aU (qB (eW (aF lO (cY cZ (aC 3)) (dC (.int 0)))) (cB (aF oB (aC 0) (aC 1))) dP)
  (aU (bN 4 (aF bM (aR 3 M_common (aD (aC 0) (aD (aC 3) (aD (aC 1) aL)))) (dC (.int 0))))
  (aU (qB (eW (aF JE (cY cZ (aC 4)) (dC (.int 1)))) (cB (aC 4)) dP)
  (cB (aR 2 M_part_by_steady (aD (aC 0) (aD (aC 1) aL)))))))))))
def dZ:List D->M D:=fun ds=>kQ (fin (iX qK mC eY cI (bF 5 ds)))
def yH(M_part_of:List D->M D):DS->Option Fl:=
 (cB (qC (aF JE (cY cZ (aC 0)) (dC (.int 1))) (cY pE (aR 2 M_part_of (aD (aC 0) (aD (aC 1) aL))))))
def oG:List D->M D:=fun ds=>kQ (fin (yH dZ (bF 2 ds)))
def EO:DS->Option Fl:=
 (bN 4 (aF cK (aC 4) (mP (gE 1 [5] (jK (aD (aC 1) aL)) (aQ 0) (fun _=>some (.ok true)) (aF cK (aC 1) (dS (aD (aC 0) aL)))))))
def EN:DS->Option Fl:=
 (aU (bN 4 (mP (qA aL)))
  (aU (lJ (iQ (aC 2)) (aQ 5) (EO))
  (bN 2 (aC 4))))
def yD:DS->Option Fl:=
 (aU (bN 2 (mP (qA (aD (dS aL) aL))))
  (aU (lJ (jK (aD (aC 0) aL)) (aQ 3) (EN))
  (cB (mP (gE 1 [] (iQ (aC 2)) (aQ 0) (fun _=>some (.ok true)) (aF cK (aC 0) (dS (aD (dC (.int 1)) aL))))))))
def fJ:List D->M D:=fun ds=>kQ (fin (yD (bF 6 ds)))
def gF(M_l_wholes:List D->M D)(M_l_rest:List D->M D):DS->Option Fl:=
 (qB (eW (aF rH (mP (gE 1 [0,1] (iQ (aR 2 M_l_wholes (aD (aC 2) (aD (aC 1) aL)))) (aQ 0) (eW (aF lO (aR 3 M_l_rest (aD (aC 1) (aD (aC 0) (aD (aC 2) aL)))) (dS aL))) (aC 0))) (mP (qA aL)))) (cB (dC (.bl false))) dP)
def oN(M_l_wholes:List D->M D)(M_l_rest:List D->M D):DS->Option Fl:=
 (aU (qB (eW (aF Mu (cY cZ (aC 0)) (dC (.int 2)))) (cB (dC (.bl false))) dP)
  (aU (lJ (kL (aD (dC (.int 1)) (aD (aF cK (aF (eO rD fun i j=>i / j) (aF (iV fun i j=>i-j) (cY cZ (aC 0)) (dC (.int 1))) (dC (.int 2))) (dC (.int 1))) aL))) (aQ 2) (gF M_l_wholes M_l_rest))
  (cB (dC (.bl true)))))
def cQ:List D->M D:=fun ds=>kQ (fin (oN fJ gO (bF 3 ds)))
def wF(M_part_of:List D->M D)(M_parted:List D->M D):DS->Option Fl:=
 (aU (bN 2 (aR 2 M_part_of (aD (aC 0) (aD (aC 1) aL))))
  (aU (qB (eW (cY pE (aC 2))) (cB (dC .non)) dP)
  (cB (dS (aD (aC 2) (aD (aF bM (aR 3 M_parted (aD (aC 0) (aD (aC 2) (aD (aC 1) aL)))) (dC (.int 0))) aL))))))
def m_split:List D->M D:=fun ds=>kQ (fin (wF dZ iJ (bF 3 ds)))
def oJ(M_scaled:List D->M D)(M_turned_number:List D->M D):DS->Option Fl:=
 (cB (aR 3 M_scaled (aD (aC 0) (aD (aR 2 M_turned_number (aD (aF bM (aC 0) (cY mH (dC (.int 1)))) (aD (aC 1) aL))) (aD (aC 1) aL)))))
def eP:List D->M D:=fun ds=>kQ (fin (oJ bL aW (bF 2 ds)))
def eD(M_split:List D->M D)(M_made_whole:List D->M D):DS->M Bool:=
 (eW (aF JE (cY cZ (aC 3)) (dC (.int 0))))
def fD(M_split:List D->M D)(M_made_whole:List D->M D):DS->Option Fl:=
 (aU (NW 3 4)
  (aU (bN 5 (aR 2 M_split (aD (aC 4) (aD (aC 1) aL))))
  (qB (eW (cY ME (aC 5))) (NZ 3 (aC 5)) (qB (eW (aF JE (cY cZ (aC 4)) (dC (.int 1)))) (aU (bN 6 (aR 2 M_made_whole (aD (aC 4) (aD (aC 1) aL))))
  (IC 2 (aC 6) (aF cK (EC (aC 2) (aD (aC 6) (aD (dC (.int 0)) aL))) (dC (.int 1))))) dP))))
def lD(M_split:List D->M D)(M_made_whole:List D->M D):DS->Option Fl:=
 (aU (YC 2)
  (aU (yQ 3 (qA (aD (aC 0) aL)))
  (aU (eG (eD M_split M_made_whole) (fD M_split M_made_whole) 200)
  (cB (aC 2)))))
def eI:List D->M D:=fun ds=>kQ (fin (lD m_split eP (bF 7 ds)))
def mD(M_prime_counts:List D->M D):DS->Option Fl:=
 (aU (qB (eW (aF lO (cY cZ (aC 0)) (dC (.int 0)))) (fun _=>some (.ex 3)) dP)
  (Ec (aU (bN 2 (aR 2 M_prime_counts (aD (aC 0) (aD (aC 1) aL))))
  (aU (bN 3 (mP (Uc (aC 2))))
  (cB (dS (aD (aF bM (aC 0) (cY mH (dC (.int 1)))) (aD (cY qY (mP (gE 1 [2] (iQ (aC 3)) (aQ 0) (fun _=>some (.ok true)) (dS (aD (aC 0) (aD (aF oA (aC 1) (aC 0)) aL)))))) aL))))))))
def eQ:List D->M D:=fun ds=>(fin (mD eI (bF 4 ds)))
def kH(M_factors_x:List D->M D):DS->Option Fl:=
 (aU (IB (bN 2 (aR 2 M_factors_x (aD (aC 0) (aD (aC 1) aL)))) (fun k=>if k=3 then some .non else none))
  (cB (aF bM (mP (qA (aD (aC 2) (aD (dC (.int 0)) aL)))) (cY BU (cY pE (aC 2))))))
def cJ:List D->M D:=fun ds=>kQ (fin (kH eQ (bF 5 ds)))
def lQ(M_l_number:List D->M D)(M_l_is_sum:List D->M D)(M_l_is_prime:List D->M D)(M_l_times:List D->M D):DS->Option Fl:=
 (bN 3 (aR 3 M_l_times (aD (aC 3) (aD (aC 4) (aD (aC 1) aL)))))
def lP(M_l_number:List D->M D)(M_l_is_sum:List D->M D)(M_l_is_prime:List D->M D)(M_l_times:List D->M D):DS->Option Fl:=
 (aU (qB (LN (pZ (eW (aR 2 M_l_is_sum (aD (aC 4) (aD (aC 1) aL))))) (pZ (eW (aR 3 M_l_number (aD (aC 5) (aD (dC (.int 1)) (aD (dC (.int 20)) aL))))))) (cB (dC (.bl false))) dP)
  (aU (qB (LN (eW (aF lO (aC 4) (dS aL))) (LN (eW (aF rH (aF bM (aC 4) (cY mH (dC (.int 1)))) (dC (.int 1)))) (pZ (eW (aR 2 M_l_is_prime (aD (aC 4) (aD (aC 1) aL))))))) (cB (dC (.bl false))) dP)
  (lJ (jK (aD (aC 5) aL)) (aQ 6) (lQ M_l_number M_l_is_sum M_l_is_prime M_l_times))))
def yG(M_l_number:List D->M D)(M_l_is_sum:List D->M D)(M_l_is_prime:List D->M D)(M_l_times:List D->M D):DS->Option Fl:=
 (aU (qB (LN (pZ (eW (cY (oY "tuple") (aC 2)))) (LN (eW (aF rH (cY cZ (aC 2)) (dC (.int 2)))) (pZ (eW (aR 3 M_l_number (aD (aF bM (aC 2) (dC (.int 0))) (aD (dC (.int 1)) (aD (aF (iV fun i j=>i-j) (aC 1) (dC (.int 1))) aL)))))))) (cB (dC (.bl false))) dP)
  (aU (qB (LN (pZ (eW (cY (oY "tuple") (aF bM (aC 2) (dC (.int 1)))))) (eW (aF rH (mP (gE 1 [] (iQ (aF bM (aC 2) (dC (.int 1)))) (aQ 0) (pZ (eW (cY (oY "tuple") (aC 0)))) (aC 0))) (mP (qA aL))))) (cB (dC (.bl false))) dP)
  (aU (bN 3 (dS (aD (aF bM (aC 2) (dC (.int 0))) aL)))
  (aU (lJ (iQ (aF bM (aC 2) (dC (.int 1)))) (gK 2 (bE (aQ 4) (bE (aQ 5) gL))) (lP M_l_number M_l_is_sum M_l_is_prime M_l_times))
  (aU (bN 7 (mP (gE 2 [] (iQ (aF bM (aC 2) (dC (.int 1)))) (gK 2 (bE (aQ 0) (bE (aQ 1) gL))) (fun _=>some (.ok true)) (dS (aD (cY cZ (aC 0)) (aD (aC 0) aL))))))
  (cB (qC (aF lO (aC 3) (aC 0)) (aF lO (aC 7) (mP (Yh (aC 7)))))))))))
def gA:List D->M D:=fun ds=>kQ (fin (yG bT dI cQ cT (bF 8 ds)))
def qE(M_l_mixed:List D->M D)(M_l_sum:List D->M D)(M_l_told_k22:List D->M D)(M_l_times:List D->M D)(M_l_good:List D->M D):DS->Option Fl:=
 (IC 9 (aC 10) (aF cK (EC (aC 9) (aD (aC 10) (aD (dC (.int 0)) aL))) (aC 11)))
def uM(M_l_mixed:List D->M D)(M_l_sum:List D->M D)(M_l_told_k22:List D->M D)(M_l_times:List D->M D)(M_l_good:List D->M D):DS->Option Fl:=
 (aU (bN 1 (aF bM (dS (aD (dC (.int 2)) (aD (dC (.int 3)) (aD (dC (.int 5)) aL)))) (aF (eO dF fun i j=>i%j) (aR 2 M_l_mixed (aD (aC 0) (aD (dC (.int 0)) aL))) (dC (.int 3)))))
  (aU (bN 2 (aF cK (dC (.int 5)) (aF bU (dC (.int 4)) (cY BU (qC (aF lO (aC 1) (dC (.int 2))) (aF lO (aF (eO dF fun i j=>i%j) (aR 2 M_l_mixed (aD (aC 0) (aD (dC (.int 3)) aL))) (dC (.int 4))) (dC (.int 1))))))))
  (aU (bN 3 (aR 3 M_l_sum (aD (aR 2 M_l_mixed (aD (aC 0) (aD (dC (.int 1)) aL))) (aD (aC 1) (aD (aC 2) aL)))))
  (aU (bN 4 (aR 3 M_l_sum (aD (aR 2 M_l_mixed (aD (aC 0) (aD (dC (.int 2)) aL))) (aD (aC 1) (aD (aC 2) aL)))))
  (aU (bN 5 (aR 2 M_l_told_k22 (aD (aC 3) (aD (aC 1) aL))))
  (aU (bN 6 (aR 2 M_l_told_k22 (aD (aC 4) (aD (aC 1) aL))))
  (aU (bN 7 (aR 3 M_l_times (aD (aC 3) (aD (aC 4) (aD (aC 1) aL)))))
  (aU (bN 8 (aR 2 M_l_told_k22 (aD (aC 7) (aD (aC 1) aL))))
  (aU (qB (LN (eW (aF rH (cY pE (aC 5)) (aF lO (aC 3) (dS aL)))) (LN (eW (aF rH (cY pE (aC 6)) (aF lO (aC 4) (dS aL)))) (eW (aF rH (cY pE (aC 8)) (aF lO (aC 7) (dS aL)))))) (cB (dC (.bl false))) dP)
  (aU (qB (LN (EF (eW (aF rH (aC 3) (dS aL))) (pZ (eW (aR 3 M_l_good (aD (aC 3) (aD (aC 1) (aD (aC 5) aL))))))) (EF (eW (aF rH (aC 4) (dS aL))) (pZ (eW (aR 3 M_l_good (aD (aC 4) (aD (aC 1) (aD (aC 6) aL)))))))) (cB (dC (.bl false))) dP)
  (aU (qB (eW (aF lO (aC 7) (dS aL))) (cB (dC (.bl true))) dP)
  (aU (NY 9 (aF bM (aC 5) (dC (.int 1))))
  (aU (lJ (iQ (aF bM (aC 6) (dC (.int 1)))) (gK 2 (bE (aQ 10) (bE (aQ 11) gL))) (qE M_l_mixed M_l_sum M_l_told_k22 M_l_times M_l_good))
  (cB (qC (aR 3 M_l_good (aD (aC 7) (aD (aC 1) (aD (aC 8) aL)))) (aF EM (cY iS (aF bM (aC 8) (dC (.int 1)))) (aC 9)))))))))))))))))
def qL:List D->M D:=fun ds=>kQ (fin (uM eX qM cJ cT gA (bF 12 ds)))
end R
namespace PF
open PySem L2
def aH(l:List Int):D:=.tup (l.map .int)
@[simp] abbrev VZ(l:List Int):Option Slot:=some (.val (aH l))
@[simp] abbrev VI(i:Int):Option Slot:=some (.val (.int i))
def yV(l:List Int)(k:Nat):Int:=l.getD k 0
theorem Lv(l:List Int)(k:Nat)(j:Int)(b:j=k):R.jN [.scr l,.int j]=some (.ok (.int (yV l k))):=by
 subst b;unfold R.jN R.pR;by_cases h:k<l.length
 ·have a:(k:Int)<l.length:=(by lia);simp[a,fE,yV,h]
 ·have a:¬(k:Int)<l.length:=(by lia);simp[a,yV,h]
noncomputable def fR(l:List Int)(k:Nat):Int:=
 let d:=(yV l k+7919*k+1)*48271%2147483647
 (d*d+7*d+k)%2147483629
theorem GR(a:Int):0<=a%2147483647/\a%2147483647<2147483647:=⟨V4 _ (by decide),V9 _ (by decide)⟩
theorem wK(l:List Int)(k:Nat)(d:k<=100)(j:Int)(a:j=k):R.eX [.scr l,.int j]=some (.ok (.int (fR l k))):=by subst a;unfold R.eX R.uO fR;have hd:=GR ((yV l k+7919*k+1)*48271);have e1:dR 7919 (k:Int)=true:=fH (by decide) (by decide);have e2:∀i:Int,dR i 48271=true:=fun i=>CL (by decide) (by decide);have c:dR ((yV l k+7919*k+1)*48271%2147483647) ((yV l k+7919*k+1)*48271%2147483647)=true:=fH (by lia) (by lia);have b:∀i:Int,dR 7 i=true:=fun i=>fH (by decide) (by decide);simp[Lv l k _ rfl,e1,e2,c,b]
theorem GU(l:List Int)(k:Nat):0<=fR l k/\fR l k<2147483629:=⟨V4 _ (by decide),V9 _ (by decide)⟩
noncomputable def iL(n k:Int):Int:=
 let d:=(n+104729*k+17)*69621%2147483647
 (d*d+3*d+k)%2147483629
theorem OI(n k:Int)(d:0<=k)(c:k<=100):R.iW [.int n,.int k]=some (.ok (.int (iL n k))):=by unfold R.iW R.uP iL;have hd:=GR ((n+104729*k+17)*69621);have e1:dR 104729 k=true:=fH (by decide) (by decide);have e2:∀i:Int,dR i 69621=true:=fun i=>CL (by decide) (by decide);have b:dR ((n+104729*k+17)*69621%2147483647) ((n+104729*k+17)*69621%2147483647)=true:=fH (by lia) (by lia);have a:∀i:Int,dR 3 i=true:=fun i=>fH (by decide) (by decide);simp[e1,e2,b,a]
theorem XQ(n k:Int):0<=iL n k/\iL n k<2147483629:=⟨V4 _ (by decide),V9 _ (by decide)⟩
def jT(p:Int)(l:List Int):Prop:=∀x∈l,0<=x/\x<p
def Top(l:List Int):Prop:=l.getLast?≠some 0
def Sm(p:Int)(l:List Int):Prop:=jT p l/\Top l
def bK(p:Int):Prop:=p=2\/p=3\/p=5
variable{p:Int}
theorem bK.two_le(h:bK p):2<=p/\p<=5:=by rcases h with h|h|h<;>lia
def pA(p:Int):D->Bool
 |.int i=>decide (0<=i)&&decide (i<p)|_=>false
theorem ZE(d:D)(p:Int):R.bT [d,.int 0,.int (p-1)]=some (.ok (.bl (pA p d))):=by
 unfold R.bT R.oM;cases d with
 |int i=>
  by_cases h:0<=i
  ·have e:(i<=p-1)=(i<p):=(by apply propext;lia);simp[pA,h,e]
  ·simp[pA,h]
 |_=>simp[pA]
theorem xT{set:D->DS->Option DS}{g:DS->Option Fl}{d:D}{r:List D}{S b a:DS}(e:set d S=some b)(c:g b=some (.next a)):eR set g (d::r) S=eR set g r a:=by rw[eR,e];simp only;rw[c]
theorem AR{set:D->DS->Option DS}{g:DS->Option Fl}(P:Nat->DS->Prop):∀(l:List D) (i:Nat) (S:DS),P i S->(∀k d S,l[k]? = some d->P (i+k) S->∃b a,set d S=some b/\g b=some (.next a)/\P (i+k+1) a)->
  ∃c,eR set g l S=some (.next c)/\P (i+l.length) c
 |[],i,S,h0,_=>⟨S,rfl,h0⟩
 |d::l,i,S,h0,hs=>by obtain⟨b,a,e1,e2,p⟩:=hs 0 d S rfl h0;rw[xT e1 e2];obtain⟨c,e,q⟩:=AR P l (i+1) a p fun k d S h f=>(by have z:i+1+k=i+(k+1):=(by lia);obtain⟨b,a,e1,e2,p⟩:=hs (k+1) d S (by simpa using h) (z▸f);exact⟨b,a,e1,e2,by rw[z];exact p⟩);have z:i+(d::l).length=i+1+l.length:=(by simp;lia);refine⟨c,e,?_⟩;rw[z];exact q
theorem dQ{set:D->DS->Option DS}{g:DS->Option Fl}(P:Nat->DS->Prop){l:List D}{S:DS}(e:P 0 S)(c:∀k d S,l[k]? = some d->P k S->∃b a,set d S=some b/\g b=some (.next a)/\P (k+1) a) :
  ∃S',eR set g l S=some (.next S')/\P l.length S':=by
 have:=AR P l 0 S e (fun k d S h p=>by rw[S7]at p ⊢;exact c k d S h p);rw[S7]at this;exact this
variable{lo hi:Int}
theorem nW{k:Nat}{d:D}(h:(bY lo hi)[k]? = some d):d=.int (lo+k)/\(k:Int)<hi-lo:=by
 unfold bY at h;rw[W8]at h;cases q:(List.range (hi-lo).toNat)[k]? with
 |none=>rw[q]at h;cases h
 |some j=>rw[q]at h;have b:=List.getElem?_eq_some_iff.mp q;obtain⟨c,a⟩:=b;rw[On]at a;rw[U7]at c;subst a;simp at h;exact⟨h.symm,by lia⟩
theorem gX(lo hi:Int):(bY lo hi).length=(hi-lo).toNat:=by simp[bY]
variable{n:Nat}
theorem WW(h:0<n):FE n (-1)=some (n-1):=by unfold FE;rw[Z6 (by lia),Z8 (by lia)];congr 1;lia
variable{l:List Int}
theorem jT.set(h:jT p l){x:Int}(c:0<=x/\x<p)(i:Nat):jT p (l.set i x):=fun y b=>by
 rcases List.mem_or_eq_of_mem_set b with a|a
 ·exact h y a
 ·subst a;exact c
theorem jT.snoc(h:jT p l){x:Int}(c:0<=x/\x<p):jT p (l++[x]):=fun y b=>by
 rcases List.mem_append.mp b with a|a
 ·exact h y a
 ·simp at a;subst a;exact c
theorem Ss(v:bK p)(n a:Int)(m:Nat)(C:m<=90) :
  ∃(l:List Int) (f c:Option Slot),eR (aQ 5) (R.qV R.iW) (bY 0 m) [some (.val (.int n)),some (.val (.int p)),some (.val (.int a)),some (.val (.int m)),some (.own []),none,none] =
   some (.next [some (.val (.int n)),some (.val (.int p)),some (.val (.int a)),some (.val (.int m)),some (.own (l.map D.int)),f,c])/\l.length=m/\jT p l:=by
 have u:=v.two_le;obtain⟨E,e,l,f,c,q,o,i⟩:=dQ (set:=aQ 5) (g:=R.qV R.iW)
  (fun k S=>∃(l:List Int) (f c:Option Slot),S=[some (.val (.int n)),some (.val (.int p)),some (.val (.int a)),some (.val (.int m)),some (.own (l.map D.int)),f,c]/\l.length=k/\jT p l)
  (l:=bY 0 m) (S:=[some (.val (.int n)),some (.val (.int p)),some (.val (.int a)),some (.val (.int m)),some (.own []),none,none])
  ⟨[],none,none,rfl,rfl,fun x h=>by simp at h⟩ (fun k d S y ⟨l,f,c,q,o,i⟩=>by
   obtain⟨rfl,w⟩:=nW y;subst q;have z:(k:Int)<=100:=(by lia);rw[Int.zero_add];have hd:=XQ n k;have A:0<=iL n k / 8%p/\iL n k / 8%p<p:=⟨V4 _ (by lia),V9 _ (by lia)⟩;have b:0<p:=(by lia);refine⟨_,_,rfl,?_,l++[iL n k / 8%p*(if(decide (n / 16%3>0) || (iL n k%3==0))=true then 1 else 0)],some (.val (.int k)),some (.val (.int (iL n k))),rfl,?_,?_⟩
   ·have e1:∀j:Int,dR (iL n k / 8%p) j=true:=fun j=>fH (by lia) (by lia);have e2:l.length<100000:=(by lia);have r:=OI n k (by lia) (by lia);unfold R.qV;by_cases s:n / 16%3>0
    ·simp[r,b,s,e1,e2]
    ·by_cases t:iL n k%3=0
     ·simp[r,b,s,t,e1,e2]
     ·simp[r,b,s,t,e1,e2]
   ·simp[o]
   ·refine i.snoc ?_;split<;>lia)
 subst q;rw[gX]at o;exact⟨l,f,c,e,by lia,i⟩
theorem Hc(q:bK p)(n a:Int)(D:0<=n)(z:0<=a)(y:a<=20) :
  ∃l,Sm p l/\(l.length:Int)=n%(a+1)/\R.qM [.int n,.int p,.int a]=some (.ok (aH l)):=by
 have s:=q.two_le;have A:=V4 n (show a+1≠0 by lia);have t:=V9 n (show 0<a+1 by lia);have o:(0:Int)<a+1:=(by lia);obtain⟨m,j⟩:∃m:Nat,n%(a+1)=m:=⟨(n%(a+1)).toNat,by lia⟩;have g:m<=90:=(by lia);have b:-1000000000<=(m:Int)/\(m:Int)<=1000000000:=(by lia);obtain⟨l,w,v,e,C,r⟩:=Ss q n a m g;unfold R.qM R.DM;rw[j];by_cases c:0<m
 ·have u:(0:Int)<m:=(by lia);have f:0<l.length:=(by lia);have d:0<p-1:=(by lia);have k:0<=iL n 40%(p-1)/\iL n 40%(p-1)<p-1:=⟨V4 _ (by lia),V9 _ (by lia)⟩;refine⟨l.set (l.length-1) (1+iL n 40%(p-1)),⟨r.set (by lia) _,?_⟩,by simp;lia,?_⟩
  ·unfold Top;rw[Rt];simp;rw[D6 (by lia)];simp;lia
  ·simp[show(1:Int)<p by lia,c,j,o,b,e,u,WW f,OI n 40 (by decide) (by decide),d,aH]
 ·have k:l=[]:=L1 (by lia);have i:m=0:=(by lia);subst k;subst i;refine⟨[],⟨fun x h=>by simp at h,by simp[Top]⟩,by simp,?_⟩;simp at e;simp[j,o,b,e,aH]
def YZ(d:D):Prop:=nJ d<=40/\∀l,d=.tup l->l.length<=1000
noncomputable def mM(p:Int):D->Bool
 |.tup l=>l.all (pA p)&&(l.isEmpty || (match l.getLast? with|some (.int i)=>!decide (i=0)|_=>true))|_=>false
def rR(p:Int)(d:D):Bool:=mM p d&&(match d with|.tup l=>decide (l.length<=9)|_=>false)
theorem WO{l:List D}(h:l.all (pA p)=true)(a:l≠[]):∃i:Int,l.getLast? = some (.int i):=by
 have b:l.getLast a∈l:=List.getLast_mem a;have q:=A9.mp h _ b;rw[List.getLast?_eq_some_getLast a];cases z:l.getLast a with
 |int i=>exact⟨i,rfl⟩|_=>rw[z]at q;cases q
theorem LI{l:List D}{f:D->Bool}:fB (l.filter f)<=fB l:=by
 induction l with
 |nil=>exact Z5 _
 |cons d l a=>
  rw[List.filter_cons,fB];split
  ·rw[fB];lia
  ·lia
theorem HX(l:List D):wG (.lst l) (.lst [])=l.isEmpty:=by
 cases l with
 |nil=>simp[wG,nI]|cons a l=>simp[wG,nI]
theorem HW(l:List D):wG (.tup l) (.tup [])=l.isEmpty:=by
 cases l with
 |nil=>simp[wG,nI]|cons a l=>simp[wG,nI]
theorem vM(l:List D)(h:fB l<=90):rH (.lst l) (.lst [])=some (.bl (!l.isEmpty)):=by unfold rH;rw[Z8 (by simp[nJ,fB];lia),HX]
theorem IJ(l:List D)(h:fB l<=90):lO (.tup l) (.tup [])=some (.bl l.isEmpty):=by unfold lO;rw[Z8 (by simp[nJ,fB];lia),HW]
variable{α:Type}
theorem DN(l:List α)(f:α->Bool):(l.filter fun x=>!f x).isEmpty=l.all f:=by
 induction l with
 |nil=>rfl
 |cons a l b=>rw[List.filter_cons,List.all_cons];cases q:f a<;>simp[b]
theorem EU(d:D)(p:Int)(h:YZ d):R.fK [d,.int p]=some (.ok (.bl (mM p d))):=by
 unfold R.fK R.jZ;cases d with
 |tup l=>
  have q:=h.2 l rfl;have hd:fB l<=39:=(by have:=h.1;rw[nJ]at this;lia);have n:l.length<=100000:=(by lia);have e2:=iO (set:=aQ 0) (t:=pZ (eW (aR 3 R.bT (aD (aC 0) (aD (dC (.int 0)) (aD (aF (iV fun i j=>i-j) (aC 1) (dC (.int 1))) aL)))))) (fe:=aC 0) (γ:=D) id id (fun d=>!pA p d) (fun o=>[o,some (.val (.int p))]) l none
    (fun a o _=>rfl) (fun a _=>by simp[ZE]) (fun a _=>rfl)
  simp only[List.map_id]at e2;have b:=vM (l.filter fun d=>!pA p d) (by have:=LI (l:=l) (f:=fun d=>!pA p d);lia);rw[DN]at b;have g:=IJ l (by lia);simp only[yP,Rx,Ru,Ko,Rb,Rn,Kn,fY,Oq,List.getElem?_cons_zero,zo,Qd,Hl,ZX,ZZ,WX,ZS,Kq,TC,Yo,Sb,Ed,Rv,Ef,Ee,QQ,Rz];by_cases k:l.all (pA p)=true
  ·rw[k]at b;by_cases m:l=[]
   ·subst m;simp at e2 b g;simp[e2,b,g,mM]
   ·obtain⟨i,hi⟩:=WO k m;have c:l.isEmpty=false:=(by simpa using m);rw[c]at g;simp[e2,n,b,g,IP,hi,mM,k,c]
  ·have e:l.all (pA p)=false:=(by simpa using k);rw[e]at b;simp[e2,n,b,mM,e]
 |_=>simp[mM]
theorem Ls(d:D)(p:Int)(h:YZ d):R.dI [d,.int p]=some (.ok (.bl (rR p d))):=by
 unfold R.dI R.rT;cases d with
 |tup l=>
  cases c:mM p (.tup l)with
  |true=>
   by_cases b:l.length<=9
   ·have a:(l.length:Int)<=9:=(by lia);simp[EU _ p h,c,rR,a,b]
   ·have a:¬(l.length:Int)<=9:=(by lia);simp[EU _ p h,c,rR,a,b]
  |false=>simp[EU _ p h,c,rR]
 |_=>simp[EU _ p h,rR,mM]
theorem NV{l:List D}(h:∀d∈l,nJ d<=n):fB l<=n:=by
 induction l with
 |nil=>exact Y3 _
 |cons a l b=>rw[fB];have:=h a (by simp);have:=b fun d hd=>h d (by simp[hd]);lia
def Flat(n:Nat)(l:List D):Prop:=l.length<=n/\∀d∈l,nJ d<=5
theorem Flat.ints(h:l.length<=n):Flat n (l.map D.int):=⟨by simpa using h,fun d hd=>by obtain⟨i,_,rfl⟩:=List.mem_map.mp hd;simp[nJ]⟩
theorem Flat.fine{l:List D}(h:Flat n l)(b:n<=1000):YZ (.tup l)/\YZ (.lst l):=by have:=NV h.2;refine⟨⟨by rw[nJ];lia,fun a e=>?_⟩,⟨by rw[nJ];lia,fun a e=>by cases e⟩⟩;injection e with e;subst e;exact W2 h.1 b
theorem Ar(ns:List Int):∃p,bK p/\∀{S:DS} (b:S[0]? = some (some (.val (.scr ns)))),aF bM (dS (aD (dC (.int 2)) (aD (dC (.int 3)) (aD (dC (.int 5)) aL)))) (aF (eO dF fun i j=>i%j) (aR 2 R.eX (aD (aC 0) (aD (dC (.int 0)) aL))) (dC (.int 3))) S=some (.ok (.ok (.int p))):=by
 have d:=V4 (fR ns 0) (show(3:Int)≠0 by decide);have c:=V9 (fR ns 0) (show(0:Int)<3 by decide);have e:=wK ns 0 (by decide) 0 rfl;have a:fR ns 0%3=0\/fR ns 0%3=1\/fR ns 0%3=2:=(by lia);rcases a with a|a|a
 ·exact⟨2,.inl rfl,fun{S} b=>by simp[b,e,a,fE]⟩
 ·exact⟨3,.inr (.inl rfl),fun{S} b=>by simp[b,e,a,fE]⟩
 ·exact⟨5,.inr (.inr rfl),fun{S} b=>by simp[b,e,a,fE]⟩
end PF
namespace K01
open PySem L2 PF
end K01
namespace PA
open Lean.Grind
structure aZ(R:Type) where
 c:Nat->R
variable{n:Nat}
section
variable{R:Type}[CommRing R]
@[ext] theorem aZ.ext{f g:aZ R}(h:∀k,f.c k=g.c k):f=g:=by cases f;cases g;congr;exact funext h
noncomputable def sh(f:Nat->R):Nat->R:=fun k=>f (k+1)
noncomputable def cv:(Nat->R)->(Nat->R)->Nat->R
 |f,g,0=>f 0*g 0|f,g,n+1=>f 0*g (n+1)+cv (sh f) g n
theorem YF(f a g:Nat->R)(n:Nat):cv (fun k=>f k+a k) g n=cv f g n+cv a g n:=by
 induction n generalizing f a with
 |zero=>simp only[cv];grind
 |succ n b=>rw[cv,cv,cv];have e:sh (fun k=>f k+a k)=fun k=>sh f k+sh a k:=rfl;rw[e,b (sh f) (sh a)];grind
theorem Ei(f g a:Nat->R)(n:Nat):cv f (fun k=>g k+a k) n=cv f g n+cv f a n:=by
 induction n generalizing f with
 |zero=>simp only[cv];grind|succ n b=>simp only[cv];rw[b (sh f)];grind
theorem LQ(a:R)(f g:Nat->R)(n:Nat):cv (fun k=>a*f k) g n=a*cv f g n:=by
 induction n generalizing f with
 |zero=>simp only[cv];grind
 |succ n b=>rw[cv,cv];have e:sh (fun k=>a*f k)=fun k=>a*sh f k:=rfl;rw[e,b (sh f)];grind
theorem Eg(f g:Nat->R)(n:Nat):cv f g (n+1)=cv f (sh g) n+f (n+1)*g 0:=by
 induction n generalizing f with
 |zero=>simp only[cv,sh]
 |succ n a=>rw[cv,a (sh f)];simp only[cv,sh];grind
theorem Eh(f g:Nat->R)(n:Nat):cv f g n=cv g f n:=by
 induction n generalizing f g with
 |zero=>simp only[cv];grind
 |succ n a=>rw[cv,Eg g f,a (sh f) g];grind
theorem YE(f g h:Nat->R)(n:Nat):cv (cv f g) h n=cv f (cv g h) n:=by
 induction n generalizing f with
 |zero=>simp only[cv];grind
 |succ n a=>have e:sh (cv f g)=fun k=>f 0*sh g k+cv (sh f) g k:=funext fun k=>(by simp only[sh,cv]);have e1:=YF (fun k=>f 0*sh g k) (cv (sh f) g) h n;have e2:=LQ (f 0) (sh g) h n;have b:=a (sh f);rw[cv,e,e1,e2,b];simp only[cv];grind
theorem EG(g:Nat->R)(n:Nat):cv (fun _=>(0:R)) g n=0:=by
 induction n with
 |zero=>simp only[cv];grind
 |succ n a=>have e:sh (fun _:Nat=>(0:R))=fun _=>0:=rfl;rw[cv,e,a];grind
noncomputable def onec:Nat->R:=fun k=>if k=0 then 1 else 0
theorem Hw:sh (onec:Nat->R)=fun _=>0:=funext fun k=>by simp[sh,onec]
theorem LP(g:Nat->R)(n:Nat):cv onec g n=g n:=by
 cases n with
 |zero=>simp only[cv,onec];grind
 |succ n=>rw[cv,Hw,EG];simp only[onec];grind
instance:Add (aZ R):=⟨fun f g=>⟨fun k=>f.c k+g.c k⟩⟩
instance:Mul (aZ R):=⟨fun f g=>⟨cv f.c g.c⟩⟩
instance:Neg (aZ R):=⟨fun f=>⟨fun k=>- f.c k⟩⟩
instance:Sub (aZ R):=⟨fun f g=>⟨fun k=>f.c k-g.c k⟩⟩
noncomputable def Cn(a:R):aZ R:=⟨fun k=>if k=0 then a else 0⟩
instance (n:Nat):OfNat (aZ R) n:=⟨Cn (OfNat.ofNat n)⟩
def nc(n:Nat):R:=(Semiring.natCast (α:=R)).natCast n
def ic(i:Int):R:=(Ring.intCast (α:=R)).intCast i
instance:NatCast (aZ R):=⟨fun n=>Cn (nc n)⟩
instance:IntCast (aZ R):=⟨fun n=>Cn (ic n)⟩
noncomputable def Zs(f:aZ R):Nat->aZ R
 |0=>1|n+1=>Zs f n*f
instance:HPow (aZ R) Nat (aZ R):=⟨Zs⟩
instance:SMul Nat (aZ R):=⟨fun n f=>(n:aZ R)*f⟩
instance:SMul Int (aZ R):=⟨fun n f=>(n:aZ R)*f⟩
theorem fM(f g:aZ R)(k:Nat):(f+g).c k=f.c k+g.c k:=rfl
theorem oZ(f g:aZ R)(k:Nat):(f-g).c k=f.c k-g.c k:=rfl
theorem AO(f:aZ R)(k:Nat):(-f).c k=- f.c k:=rfl
theorem xP(f g:aZ R)(k:Nat):(f*g).c k=cv f.c g.c k:=rfl
theorem eU(k:Nat):(0:aZ R).c k=0:=by show(if k=0 then(OfNat.ofNat 0:R)else 0)=0;split<;>rfl
theorem MD:(0:aZ R).c=fun _=>(0:R):=funext eU
theorem CK:(1:aZ R).c=onec:=rfl
theorem JP(f g:aZ R):f*g=g*f:=aZ.ext fun k=>Eh _ _ k
theorem FA(a:R):Cn (-a)=- Cn a:=aZ.ext fun k=>by show(if k=0 then -a else 0)=-(if k=0 then a else 0);split<;>grind
instance:CommRing (aZ R) where
 add_zero f:=aZ.ext fun k=>by rw[fM,eU];grind
 add_comm f g:=aZ.ext fun k=>by rw[fM,fM];grind
 add_assoc f g h:=aZ.ext fun k=>by simp only[fM];grind
 mul_assoc f g h:=aZ.ext fun k=>YE _ _ _ k
 mul_one f:=by rw[JP];exact aZ.ext fun k=>by rw[xP,CK,LP]
 one_mul f:=aZ.ext fun k=>by rw[xP,CK,LP]
 left_distrib f g h:=aZ.ext fun k=>Ei _ _ _ k
 right_distrib f g h:=aZ.ext fun k=>YF _ _ _ k
 zero_mul f:=aZ.ext fun k=>by rw[xP,MD,EG]
 mul_zero f:=by rw[JP];exact aZ.ext fun k=>by rw[xP,MD,EG]
 pow_zero f:=rfl
 pow_succ f n:=rfl
 ofNat_succ n:=aZ.ext fun k=>by
  rw[fM];show(if k=0 then(OfNat.ofNat (n+1):R)else 0)=(if k=0 then(OfNat.ofNat n:R)else 0)+(if k=0 then(OfNat.ofNat 1:R)else 0);split
  ·exact Semiring.ofNat_succ n
  ·grind
 ofNat_eq_natCast n:=aZ.ext fun k=>by show(if k=0 then(OfNat.ofNat n:R)else 0)=(if k=0 then(nc n:R)else 0);rw[show(OfNat.ofNat n:R)=nc n from Semiring.ofNat_eq_natCast n]
 nsmul_eq_natCast_mul n f:=rfl
 neg_add_cancel f:=aZ.ext fun k=>by rw[fM,AO,eU];grind
 sub_eq_add_neg f g:=aZ.ext fun k=>by rw[fM,AO,oZ];grind
 neg_zsmul i f:=by show((-i:Int):aZ R)*f=-((i:aZ R)*f);have e:((-i:Int):aZ R)=- (i:aZ R):=(by show Cn (ic (-i):R)=- Cn (ic i:R);rw[show(ic (-i):R)=- ic i from Ring.intCast_neg i,FA]);rw[e];refine aZ.ext fun k=>?_;rw[AO,xP,xP];have e2:(-(i:aZ R)).c=fun k=>(-1:R)*(i:aZ R).c k:=funext fun k=>(by rw[AO];grind);rw[e2,LQ];grind
 zsmul_natCast_eq_nsmul n f:=by show((n:Int):aZ R)*f=(n:aZ R)*f;have e:((n:Int):aZ R)=(n:aZ R):=(by show Cn (ic (n:Int):R)=Cn (nc n:R);rw[show(ic (n:Int):R)=nc n from Ring.intCast_natCast n]);rw[e]
 intCast_ofNat n:=by show Cn (ic (OfNat.ofNat n:Int):R)=Cn (OfNat.ofNat n:R);rw[show(ic (OfNat.ofNat n:Int):R)=OfNat.ofNat n from Ring.intCast_ofNat n]
 intCast_neg i:=by show Cn (ic (-i):R)=- Cn (ic i:R);rw[show(ic (-i):R)=- ic i from Ring.intCast_neg i,FA]
 mul_comm f g:=JP f g
example (f g h:aZ R):(f+g)*h-g*h=h*f:=by grind
noncomputable def mn(a:R)(k:Nat):aZ R:=⟨fun n=>if n=k then a else 0⟩
theorem Qc(a:R)(k:Nat):sh (mn a (k+1)).c=(mn a k).c:=funext fun n=>by simp[sh,mn]
theorem cU(a:R)(k:Nat)(f:aZ R)(n:Nat):(mn a k*f).c n=if k<=n then a*f.c (n-k)else 0:=by
 rw[xP]
 induction k generalizing n with
 |zero=>have e:(mn a 0).c=fun j=>a*onec j:=funext fun j=>(by simp only[mn,onec];split<;>grind);rw[e,LQ,LP];simp
 |succ k b=>
  cases n with
  |zero=>simp[cv,mn];grind
  |succ n=>rw[cv,Qc,b];have e:(mn a (k+1)).c 0=0:=(by simp[mn]);rw[e];simp;grind
theorem xQ(a b:R)(j k:Nat):mn a j*mn b k=mn (a*b) (j+k):=aZ.ext fun n=>by
 rw[cU];simp only[mn];by_cases h:n=j+k
 ·subst h;simp
 ·rw[Z6 h];split
  ·rw[Z6 (by lia)];grind
  ·rfl
theorem kG(k:Nat):(mn 0 k:aZ R)=0:=aZ.ext fun n=>by rw[eU];simp[mn]
theorem rP:(mn 1 0:aZ R)=1:=rfl
def Bd(f:aZ R)(n:Nat):Prop:=∀k,n<=k->f.c k=0
theorem Bd.mono{f:aZ R}{m:Nat}(h:Bd f n)(l:n<=m):Bd f m:=fun k a=>h k (W2 l a)
theorem Bd.zero(n:Nat):Bd (0:aZ R) n:=fun k _=>eU k
theorem Bd.add{f g:aZ R}(h:Bd f n)(b:Bd g n):Bd (f+g) n:=fun k a=>by rw[fM,h k a,b k a];grind
theorem Bd.sub{f g:aZ R}(h:Bd f n)(b:Bd g n):Bd (f-g) n:=fun k a=>by rw[oZ,h k a,b k a];grind
theorem Bd.mn(a:R)(k:Nat):Bd (mn a k) (k+1):=fun n b=>by simp only[PA.mn];rw[Z6 (by lia)]
theorem Bd.eq0{f:aZ R}(h:Bd f 0):f=0:=aZ.ext fun k=>by rw[eU];exact h k (Y3 _)
noncomputable def low(f:aZ R)(n:Nat):aZ R:=⟨fun k=>if k<n then f.c k else 0⟩
theorem CT(f:aZ R)(n:Nat):Bd (low f n) n:=fun k a=>by simp only[low];rw[Z6 (by lia)]
theorem uB{f:aZ R}(h:Bd f (n+1)):f=low f n+mn (f.c n) n:=aZ.ext fun k=>by
 rw[fM];simp only[low,mn];by_cases b:k<n
 ·rw[Z8 b,Z6 (by lia)];grind
 ·by_cases a:k=n
  ·subst a;simp;grind
  ·rw[Z6 b,Z6 a,h k (by lia)];grind
theorem Bd.mul:∀{n:Nat} {f g:aZ R} {m:Nat},Bd f n->Bd g m->Bd (f*g) (n+m-1)
 |0,f,g,m,h,h'=>by rw[Bd.eq0 h];have:(0:aZ R)*g=0:=(by grind);rw[this];exact Bd.zero _
 |n+1,f,g,m,h,h'=>fun k b=>by
  rw[uB h];have e:(low f n+PA.mn (f.c n) n)*g=low f n*g+PA.mn (f.c n) n*g:=(by grind);rw[e,fM,cU];have a:=Bd.mul (CT f n) h' k (by lia);rw[a];split
  ·rw[h' (k-n) (by lia)];grind
  ·grind
theorem vY{m:Nat}{f g:aZ R}(h:Bd f (n+1))(b:Bd g (m+1)):(f*g).c (n+m)=f.c n*g.c m:=by rw[uB h];have e:(low f n+PA.mn (f.c n) n)*g=low f n*g+PA.mn (f.c n) n*g:=(by grind);rw[e,fM,cU];have a:(low f n*g).c (n+m)=0:=Bd.mul (CT f n) b (n+m) (by lia);rw[a,Z8 (by lia)];have e2:n+m-n=m:=(by lia);have c:(low f n+PA.mn (f.c n) n).c n=f.c n:=(by rw[fM];simp[low,PA.mn];grind);rw[e2,c];grind
theorem yK{f:aZ R}:∀{n:Nat},Bd f n->f≠0->∃k,k<n/\f.c k≠0/\Bd f (k+1)
 |0,h,h0=>absurd (Bd.eq0 h) h0
 |n+1,h,h0=>by
  rcases O4 (f.c n=0)with q|q
  ·have d:Bd f n:=fun k a=>by
    rcases Nat.eq_or_lt_of_le a with e|e
    ·subst e;exact q
    ·exact h k e
   obtain⟨k,g,c,b⟩:=yK d h0;exact⟨k,by lia,c,b⟩
  ·exact⟨n,by lia,q,h⟩
end
end PA
namespace PF
open PySem L2 PA
variable{q n:Nat}{l:List Int}{p:Int}{α:Type}
section
variable[NeZero q]
theorem xZ(a b:Int):(ic (a+b):Fin q)=ic a+ic b:=Lean.Grind.Ring.intCast_add a b
theorem lC(a b:Int):(ic (a*b):Fin q)=ic a*ic b:=Lean.Grind.Ring.intCast_mul a b
theorem LA(a:Int):(ic (-a):Fin q)=- ic a:=Lean.Grind.Ring.intCast_neg a
theorem XC(a b:Int):(ic (a-b):Fin q)=ic a-ic b:=by rw[Int.sub_eq_add_neg,xZ,LA];grind
theorem rE{a b:Int}:(ic a:Fin q)=ic b↔a%q=b%q:=Lean.Grind.IsCharP.intCast_ext_iff q
theorem pP(a:Int):(ic (a%q):Fin q)=ic a:=rE.mpr (Int.emod_emod_of_dvd _ (Int.dvd_refl _))
theorem bJ:(ic 0:Fin q)=0:=Lean.Grind.Ring.intCast_zero
theorem fA:(ic 1:Fin q)=1:=Lean.Grind.Ring.intCast_one
theorem lB{a b:Int}(d:0<=a/\a<q)(c:0<=b/\b<q)(h:(ic a:Fin q)=ic b):a=b:=by
 have:=rE.mp h
 rwa [Q5 d.1 d.2,Q5 c.1 c.2]at this
def co(l:List Int)(k:Nat):Int:=l.getD k 0
variable (q) in
noncomputable def ser(l:List Int):aZ (Fin q):=⟨fun k=>ic (co l k)⟩
theorem cM(l:List Int)(k:Nat):(ser q l).c k=ic (co l k):=rfl
theorem dN{k:Nat}(h:k<l.length):co l k=l[k]:=by simp[co,List.getD,h]
theorem bX{k:Nat}(h:l.length<=k):co l k=0:=by simp[co,List.getD,h]
theorem bI:ser q []=0:=aZ.ext fun k=>by rw[cM,eU];simp[co,bJ]
theorem cF(l:List Int):Bd (ser q l) l.length:=fun k a=>by rw[cM,bX a,bJ]
theorem sO(l:List Int)(k:Nat)(x:Int)(h:k<l.length):ser q (l.set k x)=ser q l+mn (ic x-ic (co l k)) k:=aZ.ext fun n=>by
 rw[fM,cM,cM];simp only[mn];by_cases e:n=k
 ·subst e;rw[Z8 rfl];have:co (l.set n x) n=x:=(by simp[co,List.getD,h]);rw[this];grind
 ·rw[Z6 e];have:co (l.set k x) n=co l n:=(by simp[co,List.getD,X4 (Y8 e)]);rw[this];grind
theorem UF(l:List Int)(x:Int):ser q (l++[x])=ser q l+mn (ic x) l.length:=aZ.ext fun n=>by
 rw[fM,cM,cM];simp only[mn];by_cases e:n=l.length
 ·subst e;rw[Z8 rfl,bX (l:=l) (Z5 _),bJ];have:co (l++[x]) l.length=x:=(by simp[co,List.getD]);rw[this];grind
 ·rw[Z6 e];have:co (l++[x]) n=co l n:=by
   by_cases h:n<l.length
   ·simp[co,List.getD,Re h]
   ·rw[bX (l:=l) (by lia),bX (by simp;lia)]
  rw[this];grind
theorem pL(l:List Int)(k:Nat)(h:k<l.length):ser q (l.take (k+1))=ser q (l.take k)+mn (ic l[k]) k:=by have e:l.take (k+1)=l.take k++[l[k]]:=(by rw[List.take_succ_eq_append_getElem h]);rw[e,UF];simp[J6 (P7 h)]
theorem uC(n:Nat):ser q (List.replicate n 0)=0:=aZ.ext fun k=>by
 rw[cM,eU];have:co (List.replicate n (0:Int)) k=0:=by
  by_cases h:k<n
  ·simp[co,List.getD,h]
  ·rw[bX (by simp;lia)]
 rw[this,bJ]
theorem OT(n:Nat)(l:List Int):ser q (List.replicate n 0++l)=mn 1 n*ser q l:=aZ.ext fun k=>by
 rw[cU,cM,cM];by_cases h:n<=k
 ·rw[Z8 h];have:co (List.replicate n (0:Int)++l) k=co l (k-n):=by
   simp[co,List.getD,R0 (show(List.replicate n (0:Int)).length<=k by simpa using h)]
  rw[this];grind
 ·rw[Z6 h];have:co (List.replicate n (0:Int)++l) k=0:=by
   simp[co,List.getD,Re (show k<(List.replicate n (0:Int)).length by simp;lia),show k<n by lia]
  rw[this,bJ]
theorem Au(c:Int)(l:List Int):ser q (l.map fun x=>c*x%q)=mn (ic c) 0*ser q l:=aZ.ext fun k=>by
 rw[cU,cM,cM,Z8 (Y3 _)];by_cases h:k<l.length
 ·have:co (l.map fun x=>c*x%(q:Int)) k=c*co l k%q:=(by simp[co,List.getD,h]);rw[this,pP,lC];rfl
 ·rw[bX (by simp;lia),U6,bX (l:=l) (by lia),bJ];grind
theorem UG(f:Nat->Int)(n:Nat)(k:Nat):(ser q ((List.range n).map f)).c k=if k<n then ic (f k)else 0:=by
 rw[cM];by_cases h:k<n
 ·rw[Z8 h];simp[co,List.getD,h]
 ·rw[Z6 h,bX (by simp;lia),bJ]
def Nm(l r:List Int):Prop:=∃n,n<=l.length/\r=l.take n/\(∀k,n<=k->co l k=0)/\Top r
theorem Nm.ser{r:List Int}(h:Nm l r):PF.ser q r=PF.ser q l:=by
 obtain⟨n,c,rfl,b,_⟩:=h;refine aZ.ext fun k=>?_;rw[cM,cM];by_cases a:k<n
 ·have:co (l.take n) k=co l k:=(by simp[co,List.getD,a]);rw[this]
 ·rw[bX (by simp;lia),b k (by lia)]
theorem Nm.red{r:List Int}(h:Nm l r)(b:jT p l):jT p r:=by obtain⟨n,d,rfl,c,_⟩:=h;exact fun x a=>b x (K5 a)
theorem Nm.sm{r:List Int}(h:Nm l r)(a:jT p l):Sm p r:=⟨h.red a,by obtain⟨n,_,_,_,t⟩:=h;exact t⟩
theorem Nm.len{r:List Int}(h:Nm l r):r.length<=l.length:=by obtain⟨n,b,rfl,a,_⟩:=h;simp;lia
theorem Nm.bd{r:List Int}(h:Nm l r){m:Nat}(a:∀k,m<=k->co l k=0):r.length<=m:=by
 obtain⟨n,d,rfl,b,t⟩:=h;rcases W7 m n with c|c
 ·exfalso;apply t;rw[Rt];have e:(l.take n).length-1=n-1:=(by simp;lia);rw[e,La (by lia),Y1 (by lia)];have:=a (n-1) (by lia);rw[dN (by lia)]at this;rw[this]
 ·simp;lia
theorem Top.last(h:Top l)(a:l≠[]):co l (l.length-1)≠0:=by intro e;apply h;have b:=List.length_pos_iff.mpr a;rw[Rt,Y1 (by lia)];rw[dN (by lia)]at e;rw[e]
theorem jT.getD(h:jT p l)(a:0<p)(k:Nat):0<=co l k/\co l k<p:=by
 by_cases c:k<l.length
 ·rw[dN c];exact h _ (P0 c)
 ·rw[bX (by lia)];lia
theorem Sm.top(h:Sm q l)(a:l≠[]):(ser q l).c (l.length-1)≠0:=fun e=>by have b:(0:Int)<q:=(by have:=Nat.pos_of_ne_zero (NeZero.ne q);lia);rw[cM,<-bJ]at e;exact h.2.last a (lB (h.1.getD b _) ⟨by lia,b⟩ e)
theorem vZ{a b:List Int}(e:Sm q a)(g:Sm q b)(h:ser q a=ser q b):a=b:=by
 have l:(0:Int)<q:=(by have:=Nat.pos_of_ne_zero (NeZero.ne q);lia);have d:∀k,co a k=co b k:=fun k=>lB (e.1.getD l k) (g.1.getD l k) (by have:=V8 (fun f=>f.c k) h;exact this);have j:∀{a b:List Int},Sm q a->Sm q b->(∀k,co a k=co b k)->a.length<=b.length:=fun{a b} e g d=>by
  rcases W7 b.length a.length with c|c
  ·exfalso;refine e.2.last (by rintro rfl;simp at c) ?_;rw[d,bX (by lia)]
  ·exact c
 have m:a.length=b.length:=Nat.le_antisymm (j e g d) (j g e fun k=>(d k).symm);refine List.ext_getElem m fun i o n=>?_;rw[<-dN o,<-dN n];exact d i
theorem nH:∀a b:List Int,nI (a.map D.int) (b.map D.int)=decide (a=b)
 |[],[]=>by simp[nI]
 |[],_::_=>by simp[nI]
 |_::_,[]=>by simp[nI]
 |x::a,y::b=>by
  simp only[Y4,nI,wG,nH a b];by_cases h:x=y
  ·subst h;simp
  ·simp[h]
theorem DR(l:List Int):fB (l.map D.int)=0:=by
 induction l with
 |nil=>rfl|cons a l b=>simp[fB,nJ,b]
@[simp] theorem Se(a b:List Int):lO (aH a) (aH b)=some (.bl (decide (a=b))):=by unfold lO aH;rw[Z8 (by simp[nJ,DR]),wG,nH]
@[simp] theorem Sa(a b:List Int):rH (aH a) (aH b)=some (.bl (!decide (a=b))):=by unfold rH aH;rw[Z8 (by simp[nJ,DR]),wG,nH]
@[simp] theorem Ku(a:List Int):rH (.lst (a.map D.int)) (.lst [])=some (.bl (!decide (a=[]))):=by have:rH (.lst (a.map D.int)) (.lst (([]:List Int).map D.int))=some (.bl (!decide (a=[]))):=(by unfold rH;rw[Z8 (by simp[nJ,DR,fB]),wG,nH]);exact this
theorem nP{i:Int}(a:0<=i)(b:i<l.length):atI (l.map D.int) i=some (.int (co l i.toNat)):=by rw[fE a,W8,Y1 (by lia),dN (by lia)];rfl
theorem fQ(h:l≠[]):atI (l.map D.int) (-1)=some (.int (co l (l.length-1))):=by have a:=List.length_pos_iff.mpr h;rw[IP,Rt,W8];simp only[Y9];rw[Y1 (by lia),dN (by lia)];rfl
theorem ID(l:List α)(n:Nat):cutD l none (some (n:Int))=l.take n:=by
 unfold cutD;simp only[HT.sIx];rw[Z6 (by lia),M1,U6,T4];rcases Nat.le_total n l.length with c|c
 ·rw[J6 c]
 ·rw[Nat.min_eq_right c,R8 (Z5 _),R8 c]
theorem Wj(n:Nat):(List.replicate n [D.int 0]).flatten=(List.replicate n (0:Int)).map D.int:=by
 induction n with
 |zero=>rfl|succ n a=>simp[U1,a]
theorem lT{c:DS->M Bool}{b:DS->Option Fl}{S S2:DS}(d:c S=some (.ok true))(a:b S=some (.next S2)):eG c b (n+1) S=eG c b n S2:=by rw[eG,d];simp only;rw[a]
theorem jI{c:DS->M Bool}{b:DS->Option Fl}{S:DS}(a:c S=some (.ok false)):eG c b (n+1) S=some (.next S):=by rw[eG,a]
theorem BM(l:List Int):∀(m f:Nat),m<=l.length->m<f->∃n,n<=m/\eG R.jQ R.qD f [some (Slot.val (D.lst (List.map D.int l))),VI m]=some (.next [some (Slot.val (D.lst (List.map D.int l))),VI n])/\(∀k,n<=k->k<m->co l k=0)/\(n=0\/co l (n-1)≠0)
 |0,f+1,_,_=>⟨0,Z5 _,jI (by simp[R.jQ]),fun k g d=>by lia,.inl rfl⟩
 |m+1,f+1,g,d=>by
  have e:atI (l.map D.int) (((m+1:Nat):Int)-1)=some (.int (co l m)):=(by rw[nP (by lia) (by lia)];congr 3;lia);have j:atI (l.map D.int) ((m:Int)+1-1)=some (.int (co l m)):=e;have a:atI (l.map D.int) (m:Int)=some (.int (co l m)):=(by rw[<-j];congr 1;lia);have b:(0:Int)<(m:Int)+1:=(by lia);by_cases c:co l m=0
  ·obtain⟨n,g1,g2,g3,i⟩:=BM l m f (by lia) (by lia);refine⟨n,by lia,?_,fun k h o=>?_,i⟩
   ·rw[lT (S2:=[some (Slot.val (D.lst (List.map D.int l))),VI m]) (by simp[R.jQ,a,b,c]) (by simp[R.qD]),g2]
   ·by_cases z:k=m
    ·subst z;exact c
    ·exact g3 k h (by lia)
  ·exact⟨m+1,Z5 _,jI (by simp[R.jQ,a,b,c]),fun k g d=>by lia,.inr (by simpa using c)⟩
theorem sL(h:n<=l.length)(a:n=0\/co l (n-1)≠0):Top (l.take n):=by
 rcases a with rfl|a
 ·simp[Top]
 ·intro e;rw[Rt]at e;rcases C8 n with z|z
  ·subst z;simp at e
  ·have e1:(l.take n).length-1=n-1:=(by simp;lia);rw[e1,La (by lia),Y1 (by lia)]at e;rw[dN (by lia)]at a;exact a (by simpa using e)
theorem kW(l:List Int)(h:l.length<=190):∃r,Nm l r/\R.bH [.lst (l.map D.int)]=some (.ok (aH r)):=by
 obtain⟨n,g1,g2,g3,b⟩:=BM l l.length 200 (Z5 _) (by lia);refine⟨l.take n,⟨n,g1,rfl,fun k a=>?_,sL g1 b⟩,?_⟩
 ·by_cases c:k<l.length
  ·exact g3 k a c
  ·exact bX (by lia)
 ·unfold R.bH R.uK;simp[g2,ID,aH]
theorem YW(d:D):∀(l:List Int) (f:Nat),l.length<f->∃r,Nm l r/\eG R.lK R.sA f [some (Slot.val d),some (Slot.own (List.map D.int l))]=some (.next [some (Slot.val d),some (Slot.own (List.map D.int r))]):=fun l=>by
 induction h:l.length generalizing l with
 |zero=>intro f hf;have p:=L1 h;subst p;obtain⟨b,rfl⟩:∃b,f=b+1:=⟨f-1,by lia⟩;exact⟨[],⟨0,Z5 _,rfl,fun k _=>by simp[co],by simp[Top]⟩,jI (by simp[R.lK,rH,nJ,fB,wG,nI])⟩
 |succ m o=>
  intro f hf;obtain⟨b,rfl⟩:∃b,f=b+1:=⟨f-1,by lia⟩;have a:l≠[]:=(by rintro rfl;simp at h);have e:=fQ a;have e1:l.length-1=m:=(by lia);rw[e1]at e;by_cases c:co l m=0
  ·have hd:l.dropLast.length=m:=(by simp;lia);obtain⟨r,⟨n,g1,g2,g3,s⟩,q⟩:=o l.dropLast hd b (by lia);refine⟨r,⟨n,by lia,?_,fun k i=>?_,s⟩,?_⟩
   ·rw[g2,D3,List.take_take,J6 (by lia)]
   ·by_cases t:k<m
    ·have:=g3 k i;rw[dN (by lia)]at this;rw[dN (by lia),<-this,List.getElem_dropLast]
    ·by_cases j:k=m
     ·subst j;exact c
     ·exact bX (by lia)
   ·have g:¬l.length=0:=(by lia);rw[lT (S2:=[some (Slot.val d),some (Slot.own (List.map D.int l.dropLast))]) (by simp[R.lK,a,e,c]) (by simp[R.sA,Ea,g,a,List.map_dropLast]),q]
  ·refine⟨l,⟨l.length,Z5 _,by simp,fun k i=>bX i,?_⟩,jI (by simp[R.lK,a,e,c])⟩;have:=sL (l:=l) (n:=l.length) (Z5 _) (.inr (by rw[e1];exact c));simpa using this
theorem IY(d:D)(l:List Int)(hd:d=.lst (l.map D.int)\/d=aH l)(h:l.length<=190):∃r,Nm l r/\R.gN [d]=some (.ok (aH r)):=by
 obtain⟨r,g1,g2⟩:=YW d l 200 (by lia);refine⟨r,g1,?_⟩;unfold R.gN R.yE;rcases hd with rfl|rfl
 ·simp[g2,aH]
 ·unfold aH at g2 ⊢;simp[g2]
end
theorem mZ{a:List Int}{k:Nat}{d:D}(h:(fL (a.map D.int))[k]? = some d):∃c:k<a.length,d=.tup [.int k,.int a[k]]:=by
 obtain⟨x,b,f⟩:=BB h;rw[W8]at b;cases z:a[k]? with
 |none=>rw[z]at b;cases b
 |some y=>rw[z]at b;obtain⟨c,e⟩:=List.getElem?_eq_some_iff.mp z;refine⟨c,?_⟩;rw[f,e];simp at b;rw[b]
theorem iY(a:List Int):(fL (a.map D.int)).length=a.length:=by rw[qN,Y9]
theorem sY{i:Int}(b:0<=i)(a:i<n):FE n i=some i.toNat:=by unfold FE;rw[Z8 b,Z8 a]
variable{f:DS->M VR}
@[simp] theorem Ms{S:DS}(h:f S=some (.ok (.ok (aH l)))):nK f S=some (.ok (fL (l.map D.int))):=by unfold nK;rw[h];rfl
@[simp] theorem Ve(l:List Int):cZ (aH l)=some (.int l.length):=by simp[aH]
@[simp] theorem WB(l:List Int):dU (aH l)=true:=by simp[aH]
@[simp] theorem Wq(l:List Int)(i:Int):bM (aH l) (.int i)=atI (l.map D.int) i:=rfl
@[simp] theorem Tz(l:List Int):items (.ok (aH l))=some (l.map D.int):=rfl
@[simp] theorem Tq(i j:Int):NA (.int i) (.int j)=some (.int (if j>i then j else i)):=rfl
@[simp] theorem Uk{S:DS}:nK f S=mb (f S) fun r=>match items r with
 |some l=>some (.ok (fL l))|none=>none:=rfl
@[simp] theorem Yj{S:DS}(i:Nat):Ea i S=match S[i]? with
 |some (some (.own l))=>if l.length=0 then none else some (.next (S.set i (some (.own l.dropLast))))
 |_=>none:=rfl
@[simp] theorem A0(l:List Int):Sg (aH l)=some (.ok (l.map D.int)):=rfl
@[simp] theorem Vc(l:List Int):qY (aH l)=some (aH l):=rfl
theorem bS(a:bK p)(e:p=q):2<=q/\q<=5:=by have:=a.two_le;lia
theorem hZ{n:Nat}{k:Int}(a:0<=k)(h:k<=1000):lZ 1 k=true:=by simp[lZ,big];lia
section
variable[NeZero q]
theorem tW{a:Int}(b:bK p)(d:1<=a)(c:a<p):∃t,0<=t/\t<p/\a*t%p=1/\R.aW [.int a,.int p]=some (.ok (.int t)):=by
 rcases b with rfl|rfl|rfl
 ·have:a=1:=(by lia);subst this;exact⟨1,by decide,by decide,by decide,rfl⟩
 ·have:a=1\/a=2:=(by lia);rcases this with rfl|rfl
  ·exact⟨1,by decide,by decide,by decide,rfl⟩
  ·exact⟨2,by decide,by decide,by decide,rfl⟩
 ·have:a=1\/a=2\/a=3\/a=4:=(by lia);rcases this with rfl|rfl|rfl|rfl
  ·exact⟨1,by decide,by decide,by decide,rfl⟩
  ·exact⟨3,by decide,by decide,by decide,rfl⟩
  ·exact⟨2,by decide,by decide,by decide,rfl⟩
  ·exact⟨4,by decide,by decide,by decide,rfl⟩
theorem jT.mapmod(b:0<p)(f:Int->Int)(l:List Int):jT p (l.map fun x=>f x%p):=fun x a=>by obtain⟨y,_,rfl⟩:=List.mem_map.mp a;exact⟨V4 _ (by lia),V9 _ b⟩
theorem gQ(d:0<q)(l:List Int)(c:Int)(e:l.length<=190)(k:-1000<=c)(h:c<=1000):∃r,Sm q r/\r.length<=l.length/\ser q r=mn (ic c) 0*ser q l/\R.bL [aH l,.int c,.int q]=some (.ok (aH r)):=by
 obtain⟨r,g1,g2⟩:=kW (l.map fun x=>c*x%(q:Int)) (by simpa using e);have b:(0:Int)<q:=(by lia);refine⟨r,g1.sm (jT.mapmod b (fun x=>c*x) l),by have:=g1.len;simpa using this,by rw[g1.ser,Au],?_⟩;have e2:=qQ (set:=aQ 0) (t:=fun _=>some (.ok true)) (fe:=aF (eO dF fun i j=>i%j) (aF bU (aC 2) (aC 0)) (aC 1)) (γ:=Int) D.int (fun x=>.int (c*x%(q:Int))) (fun o=>[o,VI q,VI c]) l none
  (fun a o _=>rfl) (fun a _=>rfl) (fun a _=>by simp[d,fH (show -18446744073709551616<c by lia) (show c<18446744073709551616 by lia)])
 have m:(l.map D.int).length<=100000:=(by simp;lia);have g:l.map (fun x=>D.int (c*x%(q:Int)))=(l.map fun x=>c*x%(q:Int)).map D.int:=(by simp);rw[g]at e2;have f:l.length<=100000:=(by lia);unfold R.bL R.yB;simp[e2,f];simp at g2;simp[g2]
theorem Fc(a b:List Int)(n:Nat)(A:a.length<=n)(w:jT q a)(y:0<q):∃(N:List Int) (f c:Option Slot),eR (gK 2 (bE (aQ 4) (bE (aQ 5) gL))) (R.tU R.bH) (fL (a.map D.int)) [VZ a,VZ b,VI q,some (Slot.own (List.map D.int (List.replicate n 0))),none,none] =
  some (.next [VZ a,VZ b,VI q,some (Slot.own (List.map D.int N)),f,c])/\N.length=n/\jT q N/\ser q N=ser q a:=by
 have u:(0:Int)<q:=(by lia);obtain⟨E,e,N,f,c,s,r,p,o,_⟩:=dQ (set:=gK 2 (bE (aQ 4) (bE (aQ 5) gL))) (g:=R.tU R.bH)
  (fun k S=>∃(N:List Int) (f c:Option Slot),S=[VZ a,VZ b,VI q,some (Slot.own (List.map D.int N)),f,c]/\N.length=n/\jT q N/\ser q N=ser q (a.take k)/\∀j,k<=j->co N j=0)
  (l:=fL (a.map D.int)) (S:=[VZ a,VZ b,VI q,some (Slot.own (List.map D.int (List.replicate n 0))),none,none])
  ⟨List.replicate n 0,none,none,rfl,by simp,fun x t=>by
   obtain⟨_,rfl⟩:=List.mem_replicate.mp t;lia,by simp[uC,bI],fun j _=>by
   by_cases h:j<n
   ·rw[dN (by simpa using h)];simp
   ·exact bX (by simp;lia)⟩ (fun k d S v ⟨N,f,c,s,r,p,o,hz⟩=>by
   obtain⟨m,rfl⟩:=mZ v;subst s;refine⟨[VZ a,VZ b,VI q,some (Slot.own (List.map D.int N)),VI k,VI (a[k])],[VZ a,VZ b,VI q,some (Slot.own (List.map D.int (N.set k a[k]))),VI k,VI (a[k])],by simp,?_,N.set k a[k],VI k,VI (a[k]),rfl,by simpa using r,p.set (w _ (P0 m)) k,?_,fun j C=>?_⟩
   ·have z:=sY (n:=N.length) (i:=(k:Int)) (by lia) (by lia);simp[R.tU,z]
   ·rw[sO _ _ _ (by lia),pL _ _ m,o,hz k (Z5 _),bJ];congr 2;grind
   ·have:co (N.set k a[k]) j=co N j:=(by simp[co,List.getD,X4 (show k≠j by lia)]);rw[this];exact hz j (by lia))
 subst s;rw[iY,R8 (Z5 _)]at o;exact⟨N,f,c,e,r,p,o⟩
theorem Ez(a b c:List Int)(o m:Option Slot)(A:b.length<=c.length)(y:jT q c)(w:0<q):∃(N:List Int) (h f:Option Slot),eR (gK 2 (bE (aQ 4) (bE (aQ 5) gL))) (R.tR R.bH) (fL (b.map D.int)) [VZ a,VZ b,VI q,some (Slot.own (List.map D.int c)),o,m] =
  some (.next [VZ a,VZ b,VI q,some (Slot.own (List.map D.int N)),h,f])/\N.length=c.length/\jT q N/\ser q N=ser q c+ser q b:=by
 have r:(0:Int)<q:=(by lia);obtain⟨C,e,N,h,f,u,s,p,j⟩:=dQ (set:=gK 2 (bE (aQ 4) (bE (aQ 5) gL))) (g:=R.tR R.bH)
  (fun k S=>∃(N:List Int) (h f:Option Slot),S=[VZ a,VZ b,VI q,some (Slot.own (List.map D.int N)),h,f]/\N.length=c.length/\jT q N/\ser q N=ser q c+ser q (b.take k))
  (l:=fL (b.map D.int)) (S:=[VZ a,VZ b,VI q,some (Slot.own (List.map D.int c)),o,m])
  ⟨c,o,m,rfl,rfl,y,by simp[bI];grind⟩ (fun k d S x ⟨N,h,f,u,s,p,j⟩=>by
   obtain⟨t,rfl⟩:=mZ x;subst u;refine⟨[VZ a,VZ b,VI q,some (Slot.own (List.map D.int N)),VI k,VI (b[k])],[VZ a,VZ b,VI q,some (Slot.own (List.map D.int (N.set k ((co N k+b[k])%q)))),VI k,VI (b[k])],by simp,?_,N.set k ((co N k+b[k])%q),VI k,VI (b[k]),rfl,by simpa using s,p.set ⟨V4 _ (by lia),V9 _ r⟩ k,?_⟩
   ·have z:=sY (n:=N.length) (i:=(k:Int)) (by lia) (by lia);have v:=nP (l:=N) (i:=(k:Int)) (by lia) (by lia);simp[R.tR,z,v,w]
   ·rw[sO _ _ _ (by lia),pL _ _ t,j,pP,xZ];have:(ic (co N k)+ic b[k]-ic (co N k):Fin q)=ic b[k]:=(by grind);rw[this];grind)
 subst u;rw[iY,R8 (Z5 _)]at j;exact⟨N,h,f,e,s,p,j⟩
theorem Lq(d:0<q)(a b:List Int)(l:jT q a)(w:jT q b)(la:a.length<=190)(s:b.length<=190):∃r,Sm q r/\r.length<=max a.length b.length/\ser q r=ser q a+ser q b/\R.xS [aH a,aH b,.int q]=some (.ok (aH r)):=by obtain⟨n,v⟩:∃n:Nat,n=max a.length b.length:=⟨_,rfl⟩;have c:(if a.length<b.length then(b.length:Int)else(a.length:Int))=(n:Int):=(by split<;>lia);obtain⟨N,f,e,e1,u,j,h⟩:=Fc a b n (by lia) l d;obtain⟨m,p,o,e2,t,i,g⟩:=Ez a b N f e (by lia) j d;obtain⟨r,g1,g2⟩:=kW m (by lia);refine⟨r,g1.sm i,by have:=g1.len;lia,by rw[g1.ser,g,h],?_⟩;have ok:=hZ (n:=1) (k:=(n:Int)) (by lia) (by lia);rw[K1]at e1;unfold R.xS R.LB;simp[c,ok,e1,e2,g2]
theorem oW(c:0<q)(f:q<=5)(a b:List Int)(g:jT q a)(la:a.length<=190)(d:b.length<=190):∃r,Sm q r/\r.length<=max a.length b.length/\ser q r=ser q a-ser q b/\R.cW [aH a,aH b,.int q]=some (.ok (aH r)):=by
 obtain⟨s,j,m,i,h⟩:=gQ c b ((q:Int)-1) d (by lia) (by lia);obtain⟨r,g1,g2,g3,l⟩:=Lq c a s g j.1 la (by lia);refine⟨r,g1,by lia,?_,?_⟩
 ·rw[g3,i];have:(ic ((q:Int)-1):Fin q)=-1:=by
   have e:(ic ((q:Int)-1):Fin q)=ic (-1):=rE.mpr (by rw[show((q:Int)-1)=-1+q by lia,Int.add_emod_right]);rw[e,LA,fA]
  rw[this];have e:(mn (-1) 0:aZ (Fin q))=-1:=aZ.ext fun k=>(by rw[AO];simp only[mn,CK,onec];split<;>grind);rw[e];grind
 ·unfold R.cW R.DL;simp[h,l]
theorem YV(a b c:List Int)(r x:Int)(j:Nat)(G:r=j)(p o:Option Slot)(J:j+b.length<=c.length)(H:jT q c)(E:0<q)(I:0<=x)(C:x<=1000):∃(N:List Int) (h f:Option Slot),eR (gK 2 (bE (aQ 6) (bE (aQ 7) gL))) (R.qU R.bH) (fL (b.map D.int)) [VZ a,VZ b,VI q,some (Slot.own (List.map D.int c)),VI r,VI x,p,o] =
  some (.next [VZ a,VZ b,VI q,some (Slot.own (List.map D.int N)),VI r,VI x,h,f])/\N.length=c.length/\jT q N/\ser q N=ser q c+mn (ic x) j*ser q b:=by
 subst G;have t:(0:Int)<q:=(by lia);obtain⟨K,e,N,h,f,w,u,s,m⟩:=dQ (set:=gK 2 (bE (aQ 6) (bE (aQ 7) gL))) (g:=R.qU R.bH)
  (fun k S=>∃(N:List Int) (h f:Option Slot),S=[VZ a,VZ b,VI q,some (Slot.own (List.map D.int N)),VI j,VI x,h,f]/\N.length=c.length/\jT q N/\ser q N=ser q c+mn (ic x) j*ser q (b.take k))
  (l:=fL (b.map D.int)) (S:=[VZ a,VZ b,VI q,some (Slot.own (List.map D.int c)),VI j,VI x,p,o])
  ⟨c,p,o,rfl,rfl,H,by simp[bI];grind⟩ (fun k d S F ⟨N,h,f,w,u,s,m⟩=>by
   obtain⟨v,rfl⟩:=mZ F;subst w;refine⟨[VZ a,VZ b,VI q,some (Slot.own (List.map D.int N)),VI j,VI x,VI k,VI (b[k])],[VZ a,VZ b,VI q,some (Slot.own (List.map D.int (N.set (j+k) ((co N (j+k)+x*b[k])%q)))),VI j,VI x,VI k,VI (b[k])],by simp,?_,N.set (j+k) ((co N (j+k)+x*b[k])%q),VI k,VI (b[k]),rfl,by simpa using u,s.set ⟨V4 _ (by lia),V9 _ t⟩ _,?_⟩
   ·have z:=sY (n:=N.length) (i:=(j:Int)+k) (by lia) (by lia);have y:=nP (l:=N) (i:=(j:Int)+k) (by lia) (by lia);have A:((j:Int)+k).toNat=j+k:=(by lia);rw[A]at z y;have ok:dR x b[k]=true:=fH (by lia) (by lia);simp[R.qU,z,y,E,ok]
   ·rw[sO _ _ _ (by lia),pL _ _ v,m,pP,xZ,lC];have:(ic (co N (j+k))+ic x*ic b[k]-ic (co N (j+k)):Fin q)=ic x*ic b[k]:=(by grind);rw[this,<-xQ];grind)
 subst w;rw[iY,R8 (Z5 _)]at m;exact⟨N,h,f,e,u,s,m⟩
theorem IW(a b:List Int)(n:Nat)(H:a.length+b.length<=n)(F:jT q a)(C:0<q)(z:q<=5):∃(N:List Int) (i h f c:Option Slot),eR (gK 2 (bE (aQ 4) (bE (aQ 5) gL))) (R.nO R.bH) (fL (a.map D.int)) [VZ a,VZ b,VI q,some (Slot.own (List.map D.int (List.replicate n 0))),none,none,none,none] =
  some (.next [VZ a,VZ b,VI q,some (Slot.own (List.map D.int N)),i,h,f,c])/\N.length=n/\jT q N/\ser q N=ser q a*ser q b:=by
 have A:(0:Int)<q:=(by lia);obtain⟨I,e,N,i,h,f,c,r,u,p,m⟩:=dQ (set:=gK 2 (bE (aQ 4) (bE (aQ 5) gL))) (g:=R.nO R.bH)
  (fun k S=>∃(N:List Int) (i h f c:Option Slot),S=[VZ a,VZ b,VI q,some (Slot.own (List.map D.int N)),i,h,f,c]/\N.length=n/\jT q N/\ser q N=ser q (a.take k)*ser q b)
  (l:=fL (a.map D.int)) (S:=[VZ a,VZ b,VI q,some (Slot.own (List.map D.int (List.replicate n 0))),none,none,none,none])
  ⟨List.replicate n 0,none,none,none,none,rfl,by simp,fun x o=>by
   obtain⟨_,rfl⟩:=List.mem_replicate.mp o;lia,by simp[uC,bI];grind⟩ (fun k d S E ⟨N,i,h,f,c,r,u,p,m⟩=>by
   obtain⟨j,rfl⟩:=mZ E;subst r;have o:=F _ (P0 j);obtain⟨v,t,s,e1,G,y,w⟩:=YV a b N (k:Int) a[k] k rfl f c (by lia) p C o.1 (by lia);refine⟨[VZ a,VZ b,VI q,some (Slot.own (List.map D.int N)),VI k,VI (a[k]),f,c],[VZ a,VZ b,VI q,some (Slot.own (List.map D.int v)),VI k,VI (a[k]),t,s],by simp,?_,v,VI k,VI (a[k]),t,s,rfl,by lia,y,?_⟩
   ·simp[R.nO,e1]
   ·rw[w,m,pL _ _ j];grind)
 subst r;rw[iY,R8 (Z5 _)]at m;exact⟨N,i,h,f,c,e,u,p,m⟩
theorem ET(g:0<q)(c:q<=5)(a b:List Int)(h:jT q a)(la:a.length<=90)(o:b.length<=90):∃r,Sm q r/\r.length<=a.length+b.length/\ser q r=ser q a*ser q b/\R.sV [aH a,aH b,.int q]=some (.ok (aH r)):=by obtain⟨N,m,l,j,i,e1,p,f,e⟩:=IW a b (a.length+b.length) (Z5 _) h g c;obtain⟨r,g1,g2⟩:=kW N (by lia);refine⟨r,g1.sm f,by have:=g1.len;lia,by rw[g1.ser,e],?_⟩;have ok:=hZ (n:=1) (k:=((a.length:Int)+b.length)) (by lia) (by lia);have d:((a.length:Int)+b.length).toNat=a.length+b.length:=(by lia);rw[K1]at e1;unfold R.sV R.DD;simp[ok,d,e1,g2]
theorem BO(h:0<q)(d:q<=5)(a b:List Int)(i:jT q a)(la:a.length<=90)(p:b.length<=90):∃r,Sm q r/\r.length<=a.length+b.length/\ser q r=ser q a*ser q b/\R.cT [aH a,aH b,.int q]=some (.ok (aH r)):=by obtain⟨N,o,m,l,j,e1,s,g,f⟩:=IW a b (a.length+b.length) (Z5 _) i h d;obtain⟨r,g1,g2⟩:=IY (.lst (N.map D.int)) N (.inl rfl) (by lia);refine⟨r,g1.sm g,by have:=g1.len;lia,by rw[g1.ser,f],?_⟩;have ok:=hZ (n:=1) (k:=((a.length:Int)+b.length)) (by lia) (by lia);have e:((a.length:Int)+b.length).toNat=a.length+b.length:=(by lia);have c:R.vN R.gN=R.nO R.bH:=rfl;rw[K1]at e1;unfold R.cT R.uN;rw[c];simp[ok,e,e1,g2]
end
variable{lo hi:Int}
section
variable[NeZero q]
theorem SE(a b c W:List Int)(t s o:Int)(j:Nat)(H:s=j)(r p:Option Slot)(K:j+b.length<=c.length)(I:jT q c)(F:0<q)(J:0<=o)(E:o<=1000) :
  ∃(N:List Int) (h f:Option Slot),eR (gK 2 (bE (aQ 8) (bE (aQ 9) gL))) (R.oU R.aW R.bH) (fL (b.map D.int)) [VZ a,VZ b,VI q,VI t,some (Slot.own (List.map D.int c)),some (Slot.own (List.map D.int W)),VI s,VI o,r,p] =
  some (.next [VZ a,VZ b,VI q,VI t,some (Slot.own (List.map D.int N)),some (Slot.own (List.map D.int W)),VI s,VI o,h,f])/\N.length=c.length/\jT q N/\ser q N=ser q c-mn (ic o) j*ser q b:=by
 subst H;have v:(0:Int)<q:=(by lia);obtain⟨L,e,N,h,f,y,w,u,m⟩:=dQ (set:=gK 2 (bE (aQ 8) (bE (aQ 9) gL))) (g:=R.oU R.aW R.bH)
  (fun k S=>∃(N:List Int) (h f:Option Slot),S=[VZ a,VZ b,VI q,VI t,some (Slot.own (List.map D.int N)),some (Slot.own (List.map D.int W)),VI j,VI o,h,f]/\N.length=c.length/\jT q N/\ser q N=ser q c-mn (ic o) j*ser q (b.take k))
  (l:=fL (b.map D.int)) (S:=[VZ a,VZ b,VI q,VI t,some (Slot.own (List.map D.int c)),some (Slot.own (List.map D.int W)),VI j,VI o,r,p])
  ⟨c,r,p,rfl,rfl,I,by simp[bI];grind⟩ (fun k d S G ⟨N,h,f,y,w,u,m⟩=>by
   obtain⟨x,rfl⟩:=mZ G;subst y;refine⟨[VZ a,VZ b,VI q,VI t,some (Slot.own (List.map D.int N)),some (Slot.own (List.map D.int W)),VI j,VI o,VI k,VI (b[k])],[VZ a,VZ b,VI q,VI t,some (Slot.own (List.map D.int (N.set (j+k) ((co N (j+k)-o*b[k])%q)))),some (Slot.own (List.map D.int W)),VI j,VI o,VI k,VI (b[k])],by simp,?_,N.set (j+k) ((co N (j+k)-o*b[k])%q),VI k,VI (b[k]),rfl,by simpa using w,u.set ⟨V4 _ (by lia),V9 _ v⟩ _,?_⟩
   ·have z:=sY (n:=N.length) (i:=(j:Int)+k) (by lia) (by lia);have A:=nP (l:=N) (i:=(j:Int)+k) (by lia) (by lia);have C:((j:Int)+k).toNat=j+k:=(by lia);rw[C]at z A;have ok:dR o b[k]=true:=fH (by lia) (by lia);simp[R.oU,z,A,F,ok]
   ·rw[sO _ _ _ (by lia),pL _ _ x,m,pP,XC,lC];have:(ic (co N (j+k))-ic o*ic b[k]-ic (co N (j+k)):Fin q)=(-1:Fin q)*(ic o*ic b[k]):=(by grind);rw[this];have e2:mn ((-1:Fin q)*(ic o*ic b[k])) (j+k)=- (mn (ic o) j*mn (ic b[k]) k):=by
     rw[xQ];refine aZ.ext fun n=>?_;rw[AO];simp only[mn];split<;>grind
    rw[e2];grind)
 subst y;rw[iY,R8 (Z5 _)]at m;exact⟨N,h,f,e,w,u,m⟩
theorem RG{k:Nat}{d:D}(h:(nC lo hi)[k]? = some d):d=.int (lo-k)/\(k:Int)<lo-hi:=by
 unfold nC at h;rw[W8]at h;cases z:(List.range (lo-hi).toNat)[k]? with
 |none=>rw[z]at h;cases h
 |some j=>rw[z]at h;obtain⟨b,a⟩:=List.getElem?_eq_some_iff.mp z;rw[On]at a;rw[U7]at b;subst a;simp at h;exact⟨h.symm,by lia⟩
theorem RF(lo hi:Int):(nC lo hi).length=(lo-hi).toNat:=by simp[nC]
theorem SD(a b:List Int)(t:Int)(ha:jT q a)(hb:Sm q b)(K:b≠[])(V:0<q)(a1:q<=5)(ht:0<=t/\t<q)(p:co b (b.length-1)*t%q=1)(a2:a.length<=190)(a5:b.length<=190) :
  ∃(N W:List Int) (v r m h:Option Slot),eR (aQ 6) (R.oS R.aW R.bH) (nC ((a.length:Int)-b.length) (-1)) [VZ a,VZ b,VI q,VI t,some (Slot.own (List.map D.int a)),some (Slot.own (List.map D.int (List.replicate a.length 0))),none,none,none,none] =
  some (.next [VZ a,VZ b,VI q,VI t,some (Slot.own (List.map D.int N)),some (Slot.own (List.map D.int W)),v,r,m,h])/\N.length=a.length/\W.length=a.length/\jT q N/\jT q W/\ser q a=ser q W*ser q b+ser q N/\∀k,b.length-1<=k->co N k=0:=by
 have f:(0:Int)<q:=(by lia);have a6:=List.length_pos_iff.mpr K;refine Classical.byContradiction fun hN=>?_;obtain⟨S',e,N,W,v,r,m,h,M,X,hw,E,u,I,C,s⟩:=dQ (set:=aQ 6) (g:=R.oS R.aW R.bH)
  (fun k S=>∃(N W:List Int) (v r m h:Option Slot),S=[VZ a,VZ b,VI q,VI t,some (Slot.own (List.map D.int N)),some (Slot.own (List.map D.int W)),v,r,m,h]/\N.length=a.length/\W.length=a.length/\jT q N/\jT q W/\ser q a=ser q W*ser q b+ser q N/\(∀i,a.length<=i+k->co N i=0)/\∀i,i+b.length+k<=a.length->co W i=0)
  (l:=nC ((a.length:Int)-b.length) (-1)) (S:=[VZ a,VZ b,VI q,VI t,some (Slot.own (List.map D.int a)),some (Slot.own (List.map D.int (List.replicate a.length 0))),none,none,none,none])
  ⟨a,List.replicate a.length 0,none,none,none,none,rfl,rfl,by simp,ha,fun x w=>by
   obtain⟨_,rfl⟩:=List.mem_replicate.mp w;lia,by rw[uC];grind,fun i hi=>bX (by lia),fun i hi=>by
   rw[dN (by simp;lia)];simp⟩ (fun k d S hk ⟨N,W,v,r,m,h,M,X,hw,E,u,I,C,s⟩=>by
   obtain⟨rfl,a3⟩:=RG hk;subst M;obtain⟨j,hj⟩:∃j:Nat,(a.length:Int)-b.length-k=j:=⟨((a.length:Int)-b.length-k).toNat,by lia⟩;rw[hj];have a4:j+b.length+k=a.length:=(by lia);obtain⟨x,w⟩:∃x,x=co N (j+b.length-1):=⟨_,rfl⟩;have a0:0<=x/\x<q:=(by rw[w];exact E.getD f _);obtain⟨o,J⟩:∃o,o=x*t%q:=⟨_,rfl⟩;have y:0<=o/\o<q:=(by rw[J];exact⟨V4 _ (by lia),V9 _ f⟩);obtain⟨F,T,Q,e1,l1,H,G⟩:=SE a b N (W.set j o) t (j:Int) o j rfl m h (by lia) E V y.1 (by lia);refine⟨[VZ a,VZ b,VI q,VI t,some (Slot.own (List.map D.int N)),some (Slot.own (List.map D.int W)),VI j,r,m,h],[VZ a,VZ b,VI q,VI t,some (Slot.own (List.map D.int F)),some (Slot.own (List.map D.int (W.set j o))),VI j,VI o,T,Q],by simp,?_,F,W.set j o,VI j,VI o,T,Q,rfl,by lia,by simpa using hw,H,u.set y j,?_,fun i hi=>?_,fun i hi=>?_⟩
   ·have z:=sY (n:=W.length) (i:=(j:Int)) (by lia) (by lia);have P:=nP (l:=N) (i:=(j:Int)+b.length-1) (by lia) (by lia);have z3:((j:Int)+b.length-1).toNat=j+b.length-1:=(by lia);rw[z3,<-w]at P;have ok:dR x t=true:=fH (by lia) (by lia);simp only[List.map_set]at e1;simp[R.oS,z,P,V,ok,<-J,e1]
   ·rw[G,sO _ _ _ (by lia),s j (by lia),bJ,I];have:(ic o-0:Fin q)=ic o:=(by grind);rw[this];grind
   ·
    by_cases c:a.length<=i+k
    ·have A:(ser q F).c i=0:=by
      rw[G,oZ,cU,cM,C i c,bJ,Z8 (by lia),cM,bX (l:=b) (by lia),bJ];grind
     rw[cM,<-bJ]at A;exact lB (H.getD f i) ⟨by lia,f⟩ A
    ·have L:i=j+b.length-1:=(by lia);have A:(ser q F).c i=0:=by
      rw[G,oZ,cU,cM,Z8 (by lia),cM,L,<-w];have e3:j+b.length-1-j=b.length-1:=(by lia);rw[e3,J,pP,lC];have e4:(ic (co b (b.length-1))*ic t:Fin q)=1:=by
       rw[<-lC,<-fA];refine rE.mpr ?_;rw[p];have:(2:Int)<=q:=by
        rcases W7 q 2 with c|c
        ·exfalso;have:q=1:=(by lia);rw[this]at p;lia
        ·lia
       rw[Q5 (by lia) (by lia)]
      have:(ic x*ic t*ic (co b (b.length-1)):Fin q)=ic x*(ic (co b (b.length-1))*ic t):=(by grind);rw[this,e4];grind
     rw[cM,<-bJ]at A;exact lB (H.getD f i) ⟨by lia,f⟩ A
   ·have:co (W.set j o) i=co W i:=(by simp[co,List.getD,X4 (show j≠i by lia)]);rw[this];exact s i (by lia))
 subst M;rw[RF]at C;refine hN ⟨N,W,v,r,m,h,e,X,hw,E,u,I,fun k hk=>C k (by lia)⟩
theorem zC(u:bK p)(d:p=q)(a b:List Int)(I:jT q a)(j:Sm q b)(c:b≠[])(la:a.length<=190)(C:b.length<=190) :
  ∃m r,Sm q m/\Sm q r/\m.length<=a.length/\r.length<b.length/\ser q a=ser q m*ser q b+ser q r/\R.iJ [aH a,aH b,.int q]=some (.ok (.tup [aH m,aH r])):=by
 have J:=bS u d;have i:(0:Int)<q:=(by lia);have H:=List.length_pos_iff.mpr c;have G:=j.1.getD i (b.length-1);have v:=j.2.last c;obtain⟨t,y,s,o,l⟩:=tW u (a:=co b (b.length-1)) (by lia) (by lia);rw[d]at s o l;obtain⟨N,W,S,Q,P,M,e,T,hw,F,h,E,D⟩:=SD a b t I j c (by lia) (by lia) ⟨y,s⟩ o la C;obtain⟨m,g,A⟩:=kW W (by lia);obtain⟨r,f,z⟩:=kW N (by lia);refine⟨m,r,g.sm h,f.sm F,by have:=g.len;lia,?_,by rw[E,g.ser,f.ser],?_⟩
 ·have:=f.bd D;lia
 ·have ok:=hZ (n:=1) (k:=(a.length:Int)) (by lia) (by lia);have L:¬((b.length:Int)=0):=(by lia);have x:¬b=[]:=c;have w:=fQ c;have K:NQ (some ((a.length:Int)-b.length)) (some (-1)) (some (-1))=some (.ok (nC ((a.length:Int)-b.length) (-1))):=by
   simp only[NQ];rw[Z8 ⟨by simp;lia,by simp,trivial⟩]
  rw[K1]at e;unfold R.iJ R.yC
  try unfold VZ at *
  unfold aH at *;simp[x,w,l,ok,EE,pD,K,e,A,z]
end
variable{fe:DS->M VR}{γ:Type}
theorem rY{set:D->DS->Option DS}{t:DS->M Bool}(f:γ->D)(k:γ->D)(st:Option Slot->Option Slot->DS)(v:γ->Option Slot×Option Slot)(l:List γ)(o b:Option Slot)(e:∀a o b,a∈l->set (f a) (st o b)=some (st (v a).1 (v a).2))(d:∀a,a∈l->t (st (v a).1 (v a).2)=some (.ok true))(c:∀a,a∈l->fe (st (v a).1 (v a).2)=some (.ok (.ok (k a)))) :
  iP set t fe (l.map f) (st o b)=some (l.map k):=by
 induction l generalizing o b with
 |nil=>rfl
 |cons a l g=>rw[Y4,iP,e a o b (by simp)];simp only;rw[d a (by simp)];simp only;rw[c a (by simp)];simp only;rw[g _ _ (fun a o b h=>e a o b (by simp[h])) (fun a h=>d a (by simp[h])) (fun a h=>c a (by simp[h]))];rfl
theorem nz2:∀a b:Fin 2,a*b=0->a=0\/b=0:=by decide
theorem nz3:∀a b:Fin 3,a*b=0->a=0\/b=0:=by decide
theorem nz5:∀a b:Fin 5,a*b=0->a=0\/b=0:=by decide
theorem zV(c:bK p)[NeZero q](e:p=q):∀a b:Fin q,a*b=0->a=0\/b=0:=by
 have:q=2\/q=3\/q=5:=(by rcases c with h|h|h<;>lia);rcases this with rfl|rfl|rfl
 ·exact nz2
 ·exact nz3
 ·exact nz5
section
variable[NeZero q]
theorem LG(nz:∀a b:Fin q,a*b=0->a=0\/b=0){b:List Int}(v:Sm q b)(c:b≠[]){f g r s:aZ (Fin q)}(hf:Bd f n)(p:Bd g n)(o:Bd r (b.length-1))(m:Bd s (b.length-1))(h:f*ser q b+r=g*ser q b+s):f=g/\r=s:=by
 have u:=List.length_pos_iff.mpr c;rcases O4 (f-g=0)with z|z
 ·have e:f=g:=(by grind);subst e;exact⟨rfl,by grind⟩
 ·exfalso;obtain⟨k,w,l,j⟩:=yK (hf.sub p) z;have e:(f-g)*ser q b=s-r:=(by grind);have d:Bd (ser q b) (b.length-1+1):=(cF b).mono (by lia);have t:=vY j d;rw[e,(m.sub o) (k+(b.length-1)) (by lia)]at t;rcases nz _ _ t.symm with i|i
  ·exact l i
  ·exact v.top c i
theorem Cs{a:Int}(d:bK p)(c:p=q)(f:1<=a)(e:a<p):∃t:Nat,(t:Int)<p/\a*t%p=1/\(List.range q).filter (fun(k:Nat)=>decide ((k:Int)*a%(q:Int)=1))=[t]:=by
 have b:q=2/\p=2\/q=3/\p=3\/q=5/\p=5:=(by rcases d with h|h|h<;>lia);rcases b with⟨rfl,rfl⟩|⟨rfl,rfl⟩|⟨rfl,rfl⟩
 ·have:a=1:=(by lia);subst this;exact⟨1,by decide,by decide,by decide⟩
 ·have:a=1\/a=2:=(by lia);rcases this with rfl|rfl
  ·exact⟨1,by decide,by decide,by decide⟩
  ·exact⟨2,by decide,by decide,by decide⟩
 ·have:a=1\/a=2\/a=3\/a=4:=(by lia);rcases this with rfl|rfl|rfl|rfl
  ·exact⟨1,by decide,by decide,by decide⟩
  ·exact⟨3,by decide,by decide,by decide⟩
  ·exact⟨2,by decide,by decide,by decide⟩
  ·exact⟨4,by decide,by decide,by decide⟩
theorem Lm(a b:List Int)(t:Int)(ht:0<=t/\t<q)(hb:Sm q b)(g:b≠[])(hq:2<=q)(a2:q<=5)(p:co b (b.length-1)*t%q=1)(lb:b.length<=190):∀(n:Nat) (l:List Int) (f:Nat) (G F:Option Slot),l.length=n->l.length<=190->l.length<f->Sm q l->
  ∃(r:List Int) (E C:Option Slot) (Q:aZ (Fin q)),eG (R.oP R.gN) (R.sC R.gN) f [VZ a,VZ b,VI q,some (Slot.val (D.lst (List.map D.int l))),VI t,G,F]=some (.next [VZ a,VZ b,VI q,some (Slot.val (D.lst (List.map D.int r))),VI t,E,C])/\Sm q r/\r.length<b.length/\r.length<=l.length/\Bd Q 200/\ser q l=Q*ser q b+ser q r:=fun n=>by
 have d:(0:Int)<q:=(by lia);have a4:=List.length_pos_iff.mpr g
 induction n using Nat.strongRecOn with
 |ind n ih=>
  intro l f G F hn hl hf X;obtain⟨S,rfl⟩:∃S,f=S+1:=⟨f-1,by lia⟩;refine Classical.byContradiction fun hN=>?_;by_cases c:b.length<=l.length
  ·have m:l≠[]:=(by rintro rfl;simp at c;exact g c);obtain⟨x,K⟩:∃x,x=co l (l.length-1):=⟨_,rfl⟩;have J:0<=x/\x<q:=(by rw[K];exact X.1.getD d _);obtain⟨w,hw⟩:∃w,w=l.length-b.length:=⟨_,rfl⟩;have a1:0<=x*t/\x*t<=1000:=by
    refine⟨Int.mul_nonneg J.1 ht.1,?_⟩;have:=Int.mul_le_mul (show x<=5 by lia) (show t<=5 by lia) ht.1 (by decide);lia
   have cw:∀k,co (List.replicate w 0++b) k=if w<=k then co b (k-w)else 0:=fun k=>by
    by_cases h:w<=k
    ·rw[Z8 h];simp[co,List.getD,R0 (show(List.replicate w (0:Int)).length<=k by simpa using h)]
    ·rw[Z6 h];simp[co,List.getD,Re (show k<(List.replicate w (0:Int)).length by simp;lia),show k<w by lia]
   obtain⟨L,A⟩:∃L:List Int,L=(List.range l.length).map fun i=>(co l i-x*t*co (List.replicate w 0++b) i)%(q:Int):=⟨_,rfl⟩;have u:jT q L:=fun y W=>(by rw[A]at W;obtain⟨k,_,rfl⟩:=List.mem_map.mp W;exact⟨V4 _ (by lia),V9 _ d⟩);have a5:L.length=l.length:=(by rw[A];simp);obtain⟨v,g1,g2⟩:=IY _ L (.inl rfl) (by lia);have e4:(ic (co b (b.length-1))*ic t:Fin q)=1:=(by rw[<-lC,<-fA];refine rE.mpr ?_;rw[p,Q5 (by lia) (by lia)]);have s:ser q L=ser q l-mn (ic (x*t)) w*ser q b:=by
    refine aZ.ext fun k=>?_;rw[A,UG,oZ,cU,cM,cM];by_cases P:k<l.length
    ·rw[Z8 P,pP,XC,lC (x*t),cw];split
     ·rfl
     ·rw[bJ];grind
    ·rw[Z6 P,bX (l:=l) (by lia),Z8 (by lia),bX (l:=b) (by lia),bJ];grind
   have hz:∀k,l.length-1<=k->co L k=0:=fun k P=>by
    by_cases h:l.length<=k
    ·exact bX (by lia)
    ·have N:k=l.length-1:=(by lia);have h1:(ser q L).c k=0:=by
      rw[s,oZ,cU,cM,Z8 (by lia),cM,N,<-K];have T:l.length-1-w=b.length-1:=(by lia);rw[T,lC];have:(ic x*ic t*ic (co b (b.length-1)):Fin q)=ic x*(ic (co b (b.length-1))*ic t):=(by grind);rw[this,e4];grind
     rw[cM,<-bJ]at h1;exact lB (u.getD d k) ⟨by lia,d⟩ h1
   have a3:v.length<l.length:=(by have:=g1.bd hz;lia);obtain⟨r,E,C,Q,i1,i2,i3,a0,i4,i5⟩:=ih v.length (by lia) v S (VI (x*t)) (VI w) rfl (by lia) (by lia) (g1.sm u);refine hN ⟨r,E,C,Q+mn (ic (x*t)) w,?_,i2,i3,by lia,i4.add ((Bd.mn _ _).mono (by lia)),?_⟩
   ·have z:=fQ m;rw[<-K]at z;have I:dR x t=true:=fH (by lia) (by lia);have e:∀y,dR (x*t) y=true:=fun y=>fH (by lia) (by lia);have H:=hZ (n:=1) (k:=(w:Int)) (by lia) (by lia);have M:(l.length:Int)-b.length=w:=(by lia);have c1:w+b.length<=100000:=(by lia);have a6:(b.length:Int)<=l.length:=(by lia);have e2:=rY (set:=gK 2 (bE (aQ 0) (bE (aQ 1) gL))) (t:=fun _=>some (.ok true)) (fe:=aF (eO dF fun i j=>i%j) (aF (iV fun i j=>i-j) (aC 1) (aF bU (aC 3) (aF bM (aF cK (aF bU (dS (aD (dC (.int 0)) aL)) (aC 5)) (aC 4)) (aC 0)))) (aC 2)) (γ:=Nat)
     (fun i=>D.tup [.int i,.int (co l i)]) (fun i=>.int ((co l i-x*t*co (List.replicate w 0++b) i)%(q:Int))) (fun o V=>[o,V,some (Slot.val (D.int q)),some (Slot.val (D.int (x*t))),some (Slot.val (aH b)),some (Slot.val (D.int w))]) (fun i=>(some (Slot.val (D.int i)),some (Slot.val (D.int (co l i))))) (List.range l.length) none none
     (fun i o V _=>by simp) (fun i _=>rfl) (fun i hi=>by have hi:=List.mem_range.mp hi;have x1:atI (List.replicate w (D.int 0)++b.map D.int) (i:Int)=some (.int (co (List.replicate w 0++b) i)):=(by have:=nP (l:=List.replicate w 0++b) (i:=(i:Int)) (by lia) (by simp;lia);rw[T4]at this;simpa using this);unfold aH;simp[H,c1,x1,e,show 0<q by lia])
    have T:fL (l.map D.int)=(List.range l.length).map fun(i:Nat)=>D.tup [.int i,.int (co l i)]:=(by unfold fL;rw[Y9];refine Q9 fun i hi=>?_;have hi:=List.mem_range.mp hi;simp[co,List.getD,hi]);have e6:(List.range l.length).map (fun i=>D.int ((co l i-x*t*co (List.replicate w 0++b) i)%(q:Int)))=L.map D.int:=(by rw[A];simp);rw[<-T,e6]at e2;have e5:(fL (l.map D.int)).length<=100000:=(by rw[iY];lia);simp only[aH]at e2 g2;rw[lT (S2:=[VZ a,VZ b,VI q,some (Slot.val (D.lst (List.map D.int v))),VI t,VI (x*t),VI w]) (by simp[R.oP,c]) (by simp[R.sC,z,I,M,e5,e2,g2,aH]),i1]
   ·have:=g1.ser (q:=q);rw[s]at this;rw[this]at i5;grind
  ·refine hN ⟨l,G,F,0,jI (by simp[R.oP];lia),X,by lia,Z5 _,Bd.zero _,by grind⟩
theorem zD(u:bK p)(d:p=q)(a b:List Int)(J:Sm q a)(l:Sm q b)(c:b≠[])(la:a.length<=190)(y:b.length<=190) :
  ∃r Q,Sm q r/\r.length<b.length/\r.length<=a.length/\Bd Q 200/\ser q a=Q*ser q b+ser q r/\R.gO [aH a,aH b,.int q]=some (.ok (aH r)):=by
 have e:=bS u d;have h:(0:Int)<q:=(by lia);have I:=List.length_pos_iff.mpr c;have H:=l.1.getD h (b.length-1);have v:=l.2.last c;obtain⟨t,s,n,x⟩:=Cs u d (a:=co b (b.length-1)) (by lia) (by lia);rw[d]at s n;obtain⟨r,P,N,Q,F,E,C,g,A,z⟩:=Lm a b t ⟨by lia,s⟩ l c e.1 e.2 n y a.length a 200 none none rfl la (by lia) J;refine⟨r,Q,E,C,g,A,z,?_⟩;have w:=fQ c;have K:∀i:Int,0<=i->i<q->eW (aF lO (aF (eO dF fun i j=>i%j) (aF bU (aC 0) (aF bM (aC 2) (cY mH (dC (.int 1))))) (aC 1)) (dC (.int 1))) [VI i,VI q,VZ b]=some (.ok (decide (i*co b (b.length-1)%(q:Int)=1))):=fun i T S=>(by have o:dR i (co b (b.length-1))=true:=fH (by lia) (by lia);simp[w,o,show 0<q by lia]);have e2:=iO (set:=aQ 0) (t:=eW (aF lO (aF (eO dF fun i j=>i%j) (aF bU (aC 0) (aF bM (aC 2) (cY mH (dC (.int 1))))) (aC 1)) (dC (.int 1)))) (fe:=aC 0) (γ:=Nat) (fun(k:Nat)=>D.int (k:Int)) (fun(k:Nat)=>D.int (k:Int)) (fun(k:Nat)=>decide ((k:Int)*co b (b.length-1)%(q:Int)=1)) (fun o=>[o,VI q,VZ b]) (List.range q) none
  (fun a o _=>rfl) (fun k G=>K k (by lia) (by have:=List.mem_range.mp G;lia)) (fun k _=>rfl)
 have M:bY 0 (q:Int)=(List.range q).map fun(k:Nat)=>D.int (k:Int):=(by simp[bY]);rw[x,<-M]at e2;have L:(bY 0 (q:Int)).length<=100000:=(by rw[gX];lia);have f:-1000000000<=(q:Int)/\(q:Int)<=1000000000:=(by lia);unfold R.gO R.yF;have m:qY (.lst (r.map D.int))=some (aH r):=rfl;simp[-FH,L,f,e2,fE,F,m]
end
section
variable[NeZero q]
def Pl(f:aZ (Fin q)):Prop:=∃n,Bd f n
theorem Pl.ser(l:List Int):Pl (ser q l):=⟨_,cF l⟩
theorem Pl.add{f g:aZ (Fin q)}(h:Pl f)(a:Pl g):Pl (f+g):=by obtain⟨n,h⟩:=h;obtain⟨m,a⟩:=a;exact⟨max n m,(h.mono (by lia)).add (a.mono (by lia))⟩
theorem Pl.sub{f g:aZ (Fin q)}(h:Pl f)(a:Pl g):Pl (f-g):=by obtain⟨n,h⟩:=h;obtain⟨m,a⟩:=a;exact⟨max n m,(h.mono (by lia)).sub (a.mono (by lia))⟩
theorem Pl.mul{f g:aZ (Fin q)}(h:Pl f)(a:Pl g):Pl (f*g):=by obtain⟨n,h⟩:=h;obtain⟨m,a⟩:=a;exact⟨_,h.mul a⟩
theorem Pl.zero:Pl (0:aZ (Fin q)):=⟨0,Bd.zero _⟩
theorem Pl.one:Pl (1:aZ (Fin q)):=⟨1,by rw[<-rP];exact Bd.mn 1 0⟩
theorem Pl.mn(a:Fin q)(k:Nat):Pl (mn a k):=⟨_,Bd.mn a k⟩
theorem yN(nz:∀a b:Fin q,a*b=0->a=0\/b=0){b:List Int}(j:Sm q b)(c:b≠[]){f g r s:aZ (Fin q)}(hf:Pl f)(d:Pl g)(i:Bd r (b.length-1))(e:Bd s (b.length-1))(h:f*ser q b+r=g*ser q b+s):f=g/\r=s:=by obtain⟨n,hf⟩:=hf;obtain⟨m,d⟩:=d;exact LG nz j c (hf.mono (show n<=max n m by lia)) (d.mono (by lia)) i e h
theorem Sm.len_le(h:Sm q l)(b:Bd (ser q l) n):l.length<=n:=by
 rcases W7 n l.length with c|c
 ·exfalso;have a:l≠[]:=(by rintro rfl;simp at c);exact h.top a (b _ (by lia))
 ·exact c
theorem Sm.nil_of(h:Sm q l)(e:ser q l=0):l=[]:=by have:=h.len_le (n:=0) (by rw[e];exact Bd.zero _);exact L1 (by lia)
theorem mB(nz:∀a b:Fin q,a*b=0->a=0\/b=0){a b c:List Int}(g:Sm q a)(f:Sm q b)(hc:Sm q c)(na:a≠[])(d:b≠[])(h:ser q c=ser q a*ser q b):c.length+1=a.length+b.length:=by
 have k:=List.length_pos_iff.mpr na;have j:=List.length_pos_iff.mpr d;have i:c.length<=a.length+b.length-1:=hc.len_le (by rw[h];exact(cF a).mul (cF b));have t:=vY ((cF (q:=q) a).mono (show a.length<=a.length-1+1 by lia)) ((cF (q:=q) b).mono (show b.length<=b.length-1+1 by lia));rcases W7 c.length (a.length+b.length-1)with z|z
 ·exfalso;rw[<-h,cF c _ (by lia)]at t;rcases nz _ _ t.symm with e|e
  ·exact g.top na e
  ·exact f.top d e
 ·lia
theorem CM(nz:∀a b:Fin q,a*b=0->a=0\/b=0){a b c:List Int}(f:Sm q a)(e:Sm q b)(hc:Sm q c)(h:ser q c=ser q a*ser q b):c.length+1<=a.length+b.length+1/\(a≠[]->b≠[]->c.length+1=a.length+b.length)/\((a=[]\/b=[])->c=[]):=by
 refine⟨?_,fun na d=>mB nz f e hc na d h,fun z=>?_⟩
 ·have:c.length<=a.length+b.length-1:=hc.len_le (by rw[h];exact(cF a).mul (cF b));lia
 ·refine hc.nil_of ?_;rw[h];rcases z with rfl|rfl
  ·rw[bI];grind
  ·rw[bI];grind
theorem VJ(nz:∀a b:Fin q,a*b=0->a=0\/b=0){a b m r:List Int}(l:Bd (ser q a) a.length)(i:Sm q b)(g:Sm q m)(d:b≠[])(k:r.length<b.length)(h:ser q a=ser q m*ser q b+ser q r):m=[]\/m.length+b.length<=a.length+1:=by
 rcases O4 (m=[])with z|z
 ·exact .inl z
 ·right;have j:=List.length_pos_iff.mpr z;have n:=List.length_pos_iff.mpr d;have t:=vY ((cF (q:=q) m).mono (show m.length<=m.length-1+1 by lia)) ((cF (q:=q) b).mono (show b.length<=b.length-1+1 by lia));have e:ser q m*ser q b=ser q a-ser q r:=(by grind);rcases W7 (a.length+1) (m.length+b.length)with c|c
  ·exfalso;rw[e,oZ,cF a _ (by lia),cF r _ (by lia)]at t;have f:(ser q m).c (m.length-1)*(ser q b).c (b.length-1)=0:=(by rw[<-t];grind);rcases nz _ _ f with e|e
   ·exact g.top z e
   ·exact i.top d e
  ·exact c
theorem LZ(S:bK p)(f:p=q)(c s o b i h:List Int)(C:Nat)(hC:C<=60)(V:Sm q c)(s1:Sm q s)(s2:Sm q o)(E:Sm q b)(t1:Sm q i)(t2:Sm q h)(g:b≠[])(l1:i.length+c.length<=C)(a4:s.length+b.length<=C)(l2:h.length+c.length<=C)(a3:o.length+b.length<=C) :
  ∃n0 n1 n2 m,Sm q n0/\Sm q n1/\Sm q n2/\n0.length<b.length/\n0.length<=c.length/\n1.length+b.length<=C/\n2.length+b.length<=C/\ser q c=ser q m*ser q b+ser q n0/\ser q n1=ser q s-ser q m*ser q i/\ser q n2=ser q o-ser q m*ser q h/\
   R.gY [.lst [aH c,aH s,aH o],.lst [aH b,aH i,aH h],.int q]=some (.ok (.lst [aH n0,aH n1,aH n2])):=by
 have a:=bS S f;have nz:=zV S f;have a5:=List.length_pos_iff.mpr g;refine Classical.byContradiction fun hN=>?_;obtain⟨m,r,d,m2,m3,X,W,m6⟩:=zC S f c b V.1 E g (by lia) (by lia);have pl:=VJ nz (cF c) E d g X W;obtain⟨T,D,a2,n,A⟩:=ET (by lia) a.2 m b d.1 (by lia) (by lia);obtain⟨x1,y,a1,l,x⟩:=ET (by lia) a.2 m i d.1 (by lia) (by lia);obtain⟨x2,w,a0,k,v⟩:=ET (by lia) a.2 m h d.1 (by lia) (by lia);obtain⟨n0,t,Q,P,N⟩:=oW (by lia) a.2 c T V.1 (by lia) (by lia);obtain⟨n1,M,L,K,J⟩:=oW (by lia) a.2 s x1 s1.1 (by lia) (by lia);obtain⟨n2,I,H,G,F⟩:=oW (by lia) a.2 o x2 s2.1 (by lia) (by lia);have e0:n0=r:=vZ t m2 (by rw[P,n];grind);subst e0;have k1:=CM nz d t1 y l;have k2:=CM nz d t2 w k;have q1:n1.length+b.length<=C:=by
  rcases O4 (m=[]\/i=[])with z|z
  ·have:=k1.2.2 z;subst this;simp at L;lia
  ·have j:m≠[]:=fun e=>z (.inl e);have u:i≠[]:=fun e=>z (.inr e);have:=k1.2.1 j u;rcases pl with e|e
   ·exact absurd e j
   ·lia
 have q2:n2.length+b.length<=C:=by
  rcases O4 (m=[]\/h=[])with z|z
  ·have:=k2.2.2 z;subst this;simp at H;lia
  ·have j:m≠[]:=fun e=>z (.inl e);have u:h≠[]:=fun e=>z (.inr e);have:=k2.2.1 j u;rcases pl with e|e
   ·exact absurd e j
   ·lia
 have q0:n0.length<=c.length:=by
  rcases pl with e|e
  ·subst e;have:T=[]:=(CM nz d E D n).2.2 (.inl rfl);subst this;simp at Q;lia
  ·lia
 refine hN ⟨n0,n1,n2,m,t,M,I,X,q0,q1,q2,W,by rw[K,l],by rw[G,k],?_⟩;unfold R.gY R.rS;simp[fE,m6,Km,vO,Hf,tZ,iP,A,x,v,N,J,F]
theorem YX(hp:bK p)(J:p=q)(a b:List Int)(A t:aZ (Fin q))(C:Nat)(hC:C<=60):∀(n:Nat) (e k j d h g:List Int) (f:Nat) (y o:Option Slot),d.length=n->n<f->Sm q e->Sm q k->Sm q j->Sm q d->Sm q h->Sm q g->
  h.length+e.length<=C->k.length+d.length<=C->g.length+e.length<=C->j.length+d.length<=C->ser q e=ser q k*A+ser q j*t->ser q d=ser q h*A+ser q g*t->
  (∃u v,Pl u/\Pl v/\A=u*ser q e+v*ser q d)->(∃u v,Pl u/\Pl v/\t=u*ser q e+v*ser q d)->
  ∃(g0 g1 g2:List Int) (w:D) (x:Option Slot),eG (R.oQ R.gY R.aW R.bL) (R.sD R.gY R.aW R.bL) f [VZ a,VZ b,VI q,some (Slot.val (D.lst [aH e,aH k,aH j])),some (Slot.val (D.lst [aH d,aH h,aH g])),y,o] =
    some (.next [VZ a,VZ b,VI q,some (Slot.val (D.lst [aH g0,aH g1,aH g2])),some (Slot.val w),x,o])/\Sm q g0/\Sm q g1/\Sm q g2/\g0.length<=C/\g1.length<=C/\g2.length<=C/\ser q g0=ser q g1*A+ser q g2*t/\(∃u,Pl u/\A=u*ser q g0)/\∃u,Pl u/\t=u*ser q g0:=fun n=>by
 induction n using Nat.strongRecOn with
 |ind n ih=>
  intro e k j d h g f y o hn hf S Q P N M L l1 H l2 G er eb s r;obtain⟨K,rfl⟩:∃K,f=K+1:=⟨f-1,by lia⟩;refine Classical.byContradiction fun V=>?_;obtain⟨u,v,F,X,s⟩:=s;obtain⟨z,W,l,E,r⟩:=r;by_cases c:d=[]
  ·subst c;rw[bI]at s r;refine V ⟨e,k,j,_,y,jI (by simp[R.oQ,fE]),S,Q,P,by lia,by lia,by lia,er,⟨u,F,by rw[s];grind⟩,⟨z,l,by rw[r];grind⟩⟩
  ·obtain⟨n0,n1,n2,m,k0,k1,k2,k3,k4,k5,k6,T,k8,k9,I⟩:=LZ hp J e k j d h g C hC S Q P N M L c l1 H l2 G;obtain⟨g0,g1,g2,w,x,i1,i⟩:=ih n0.length (by lia) d h g n0 n1 n2 K (some (Slot.val (D.lst [aH n0,aH n1,aH n2]))) o rfl (by lia) N M L k0 k1 k2 k5 (by lia) k6 (by lia) eb (by grind)
    ⟨u*ser q m+v,u,(F.mul (Pl.ser m)).add X,F,by rw[s,T];grind⟩ ⟨z*ser q m+W,z,(l.mul (Pl.ser m)).add E,l,by rw[r,T];grind⟩
   refine V ⟨g0,g1,g2,w,x,?_,i⟩;have c':0<d.length:=List.length_pos_iff.mpr c;rw[lT (S2:=[VZ a,VZ b,VI q,some (Slot.val (D.lst [aH d,aH h,aH g])),some (Slot.val (D.lst [aH n0,aH n1,aH n2])),some (Slot.val (D.lst [aH n0,aH n1,aH n2])),o]) (by simp[R.oQ,fE,c']) (by simp[R.sD,I]),i1]
end
section
variable[NeZero q]
theorem kE:ser q [1]=1:=aZ.ext fun k=>by
 rw[cM,CK];cases k with
 |zero=>simp[co,onec,fA]|succ k=>simp[co,onec,bJ]
theorem Sm.nil:Sm q []:=⟨fun x h=>by simp at h,by simp[Top]⟩
theorem Sm.one(h:2<=q):Sm q [1]:=⟨fun x a=>by simp at a;subst a;lia,by simp[Top]⟩
theorem NM{c t:Int}(a:2<=q)(h:c*t%q=1):(ic c*ic t:Fin q)=1:=by rw[<-lC,<-fA];refine rE.mpr ?_;rw[h,Q5 (by lia) (by lia)]
theorem wM(e:2<=q){g0 g:List Int}{c t:Int}(hc:c=co g0 (g0.length-1))(a:c*t%q=1)(k:Sm q g0)(f:Sm q g)(d:g0≠[])(l:g.length<=g0.length)(h:ser q g=mn (ic t) 0*ser q g0):g.length=g0.length/\co g (g.length-1)=1/\ser q g0=mn (ic c) 0*ser q g:=by
 have i:=List.length_pos_iff.mpr d;have b:(0:Int)<q:=(by lia);have e1:(ser q g).c (g0.length-1)=1:=(by rw[h,cU,Z8 (Y3 _),U6,cM,<-hc];have:=NM e a;grind);have e2:g.length=g0.length:=by
  rcases W7 g.length g0.length with z|z
  ·exfalso;rw[cF g _ (by lia),<-bJ,<-fA]at e1;have:=rE.mp e1;rw[Q5 (by lia) (by lia),Q5 (by lia) (by lia)]at this;lia
  ·lia
 refine⟨e2,?_,?_⟩
 ·rw[<-e2,cM,<-fA]at e1;exact lB (f.1.getD b _) ⟨by lia,by lia⟩ e1
 ·have j:mn (ic c) 0*mn (ic t) 0=(1:aZ (Fin q)):=by
   rw[xQ,NM e a,<-rP]
  rw[h];have:mn (ic c) 0*(mn (ic t) 0*ser q g0)=(mn (ic c) 0*mn (ic t) 0)*ser q g0:=(by grind);rw[this,j];grind
theorem zF(k:bK p)(d:p=q)(a b:List Int)(sa:Sm q a)(K:Sm q b)(la:a.length<=50)(lb:b.length<=50) :
  ∃g x y,Sm q g/\Sm q x/\Sm q y/\g.length<=60/\x.length<=60/\y.length<=60/\ser q g=ser q x*ser q a+ser q y*ser q b/\(∃u,Pl u/\ser q a=u*ser q g)/\(∃u,Pl u/\ser q b=u*ser q g)/\(g≠[]->co g (g.length-1)=1)/\(g=[]->x=[]/\y=[])/\
   R.eY [aH a,aH b,.int q]=some (.ok (.tup [aH g,aH x,aH y])):=by
 have e:=bS k d;have j:(0:Int)<q:=(by lia);refine Classical.byContradiction fun A=>?_;obtain⟨g0,g1,g2,w,w5,i,f,s1,s2,l0,l1,l2,e0,⟨u,r,E⟩,⟨v,o,C⟩⟩:=YX k d a b (ser q a) (ser q b) 60 (by lia) b.length a [1] [] b [] [1] 200 none none rfl (by lia) sa (Sm.one e.1) Sm.nil K Sm.nil (Sm.one e.1)
  (by simp;lia) (by simp;lia) (by simp;lia) (by simp;lia) (by rw[kE,bI];grind) (by rw[kE,bI];grind) ⟨1,0,Pl.one,Pl.zero,by grind⟩ ⟨0,1,Pl.zero,Pl.one,by grind⟩
 have I:aH [1]=D.tup [D.int 1]:=rfl;have l:aH []=D.tup []:=rfl;rw[I,l]at i;by_cases c:g0=[]
 ·subst c;refine A ⟨[],[],[],Sm.nil,Sm.nil,Sm.nil,by simp,by simp,by simp,by rw[bI];grind,⟨u,r,E⟩,⟨v,o,C⟩,fun h=>absurd rfl h,fun _=>⟨rfl,rfl⟩,?_⟩;unfold R.eY R.tH;simp[i,fE,l]
 ·have P:=List.length_pos_iff.mpr c;have ht:=f.1.getD j (g0.length-1);have N:=f.2.last c;obtain⟨t,t0,J,n,m⟩:=tW k (a:=co g0 (g0.length-1)) (by lia) (by lia);rw[d]at J n m;obtain⟨g,G,a2,F,a4⟩:=gQ (q:=q) (by lia) g0 t (by lia) (by lia) (by lia);obtain⟨x,X,b2,W,V⟩:=gQ (q:=q) (by lia) g1 t (by lia) (by lia) (by lia);obtain⟨y,T,c2,S,Q⟩:=gQ (q:=q) (by lia) g2 t (by lia) (by lia) (by lia);obtain⟨z,M,s⟩:=wM e.1 rfl n f G c a2 F;refine A ⟨g,x,y,G,X,T,by lia,by lia,by lia,by rw[F,W,S,e0];grind,⟨u*mn (ic (co g0 (g0.length-1))) 0,r.mul (Pl.mn _ _),by rw[E,s];grind⟩,⟨v*mn (ic (co g0 (g0.length-1))) 0,o.mul (Pl.mn _ _),by rw[C,s];grind⟩,fun _=>M,fun h=>by rw[h]at z;simp at z;lia,?_⟩;have H:=fQ c;have L:¬((g0.length:Int)=0):=(by lia);unfold R.eY R.tH;simp[i,fE,L,c,H,m,iP,a4,V,Q]
theorem QT(h:Sm q l):mM q (aH l)=true:=by
 unfold mM aH;simp only[X6,Pi,A9];refine⟨fun d hd=>?_,?_⟩
 ·obtain⟨i,hi,rfl⟩:=List.mem_map.mp hd;have:=h.1 i hi;simp[pA,this.1,this.2]
 ·by_cases c:l=[]
  ·subst c;simp
  ·right;rw[Rt,W8];have a:=List.length_pos_iff.mpr c;simp only[Y9];rw[Y1 (by lia)];have:=h.2.last c;rw[dN (by lia)]at this;simp[this]
theorem Lp(h:l.length<=1000):YZ (aH l):=((Flat.ints h).fine (Z5 _)).1
end
theorem RP(a:bK p):∃q:Nat,p=q/\2<=q/\q<=5:=by
 rcases a with rfl|rfl|rfl
 ·exact⟨2,rfl,by decide,by decide⟩
 ·exact⟨3,rfl,by decide,by decide⟩
 ·exact⟨5,rfl,by decide,by decide⟩
@[simp] theorem Vt(l:List Int)(n:Nat):wZ (aH l) none (some (n:Int))=some (aH (l.take n)):=by show some (D.tup (cutD (l.map D.int) none (some (n:Int))))=_;rw[ID];simp[aH]
@[simp] theorem Wu(a b:List Int):cK (aH a) (aH b)=if a.length+b.length<=100000 then some (aH (a++b))else none:=by unfold aH;simp
theorem Sm.snoc(h:jT q l){x:Int}(a:0<x/\x<q):Sm q (l++[x]):=⟨h.snoc ⟨by lia,a.2⟩,by simp[Top];lia⟩
theorem jT.take(h:jT p l)(n:Nat):jT p (l.take n):=fun x a=>h x (K5 a)
theorem aP{g h:DS->Option Fl}{S S':DS}(e:g S=some (.next S')):aU g h S=h S':=by rw[yP,e]
theorem fX:D.tup []=aH []:=rfl
theorem TJ(x:Int):D.tup [D.int x]=aH [x]:=rfl
end PF
namespace K20
open PySem L2 PF PA
end K20
namespace PF
open PySem L2 PA
variable{q:Nat}{p:Int}
section
variable[NeZero q]
def Eqv(G f g:aZ (Fin q)):Prop:=∃u,Pl u/\f-g=u*G
theorem Eqv.refl{G f:aZ (Fin q)}:Eqv G f f:=⟨0,Pl.zero,by grind⟩
theorem Eqv.symm{G f g:aZ (Fin q)}(h:Eqv G f g):Eqv G g f:=by obtain⟨u,a,e⟩:=h;exact⟨0-u,Pl.zero.sub a,by grind⟩
theorem Eqv.trans{G f g h:aZ (Fin q)}(a:Eqv G f g)(b:Eqv G g h):Eqv G f h:=by obtain⟨u,d,e⟩:=a;obtain⟨v,c,i⟩:=b;exact⟨u+v,d.add c,by grind⟩
theorem Eqv.mul{G f g c d:aZ (Fin q)}(a:Eqv G f g)(b:Eqv G c d)(j:Pl c)(pg:Pl g):Eqv G (f*c) (g*d):=by obtain⟨u,i,e⟩:=a;obtain⟨v,h,k⟩:=b;refine⟨u*c+g*v,(i.mul j).add (pg.mul h),?_⟩;have:f*c-g*d=(f-g)*c+g*(c-d):=(by grind);rw[this,e,k];grind
theorem Eqv.add{G f g d c:aZ (Fin q)}(a:Eqv G f g)(b:Eqv G d c):Eqv G (f+d) (g+c):=by obtain⟨u,i,e⟩:=a;obtain⟨v,h,j⟩:=b;exact⟨u+v,i.add h,by grind⟩
theorem Pl.pow{f:aZ (Fin q)}(h:Pl f):∀n:Nat,Pl (f ^ n)
 |0=>Pl.one
 |n+1=>by have e:f ^ (n+1)=f ^ n*f:=M9 f n;rw[e];exact(Pl.pow h n).mul h
theorem Eqv.pow{G f g:aZ (Fin q)}(a:Eqv G f g)(b:Pl f)(pg:Pl g):∀n:Nat,Eqv G (f ^ n) (g ^ n)
 |0=>Eqv.refl
 |n+1=>by have e:f ^ (n+1)=f ^ n*f:=M9 f n;have c:g ^ (n+1)=g ^ n*g:=M9 g n;rw[e,c];exact(Eqv.pow a b pg n).mul a b (pg.pow n)
theorem Eqv.eq(i:bK p)(a:p=q){b r s:List Int}(j:Sm q b)(c:b≠[])(g:Sm q r)(f:Sm q s)(l:r.length<b.length)(k:s.length<b.length)(h:Eqv (ser q b) (ser q r) (ser q s)):r=s:=by obtain⟨u,d,e⟩:=h;have:=yN (zV i a) j c Pl.zero d ((cF (q:=q) r).mono (by lia)) ((cF (q:=q) s).mono (by lia)) (show(0:aZ (Fin q))*ser q b+ser q r=u*ser q b+ser q s by grind);exact vZ g f this.2
theorem SI(j:bK p)(c:p=q)(a b:List Int)(l:jT q a)(k:Sm q b)(d:b≠[])(la:a.length<=190)(i:b.length<=190) :
  ∃r,Sm q r/\r.length<b.length/\Eqv (ser q b) (ser q a) (ser q r)/\R.fN [aH a,aH b,.int q]=some (.ok (aH r)):=by
 obtain⟨m,r,o,h,n,g,f,e⟩:=zC j c a b l k d la i;refine⟨r,h,g,⟨ser q m,Pl.ser m,by rw[f];grind⟩,?_⟩;unfold R.fN R.uL;simp[e,fE]
end
variable{i:Nat}{f:DS->M VR}
theorem Hj{g:Nat->Option D}{S:DS}{d:D}(h:f S=some (.ok (.ok d))):IB (bN i f) g S=some (.next (S.set i (some (.val d)))):=by unfold IB bN;rw[h];rfl
theorem Hk{g:Nat->Option D}{S:DS}{k:Nat}{d:D}(h:f S=some (.error k))(a:g k=some d):IB (bN i f) g S=some (.ret d):=by unfold IB bN;rw[h];simp[eZ,a]
variable{α:Type}
@[simp] theorem Yx(x y:α):atI [x,y] 0=some x:=rfl
@[simp] theorem Yw(x y:α):atI [x,y] 1=some y:=rfl
@[simp] theorem Yv(x y z:α):atI [x,y,z] 0=some x:=rfl
@[simp] theorem Yu(x y z:α):atI [x,y,z] 1=some y:=rfl
@[simp] theorem Yt(x y z:α):atI [x,y,z] 2=some z:=rfl
@[simp] theorem Nh:pE .non=some (.bl true):=rfl
@[simp] theorem Ng(l:List D):pE (.tup l)=some (.bl false):=rfl
@[simp] theorem Lz(l:List Int):pE (aH l)=some (.bl false):=rfl
@[simp] theorem Ni(i:Int):pE (.int i)=some (.bl false):=rfl
@[simp] theorem Rf(a b:List Int):wG (aH a) (aH b)=decide (a=b):=by unfold aH;rw[wG,nH]
@[simp] theorem Rg(a:List Int):nJ (aH a)=1:=by unfold aH;simp[nJ,DR]
section
variable[NeZero q]
theorem oO(nz:∀a b:Fin q,a*b=0->a=0\/b=0){a d:List Int}(sa:Sm q a)(e:Sm q d)(na:a≠[])(nd:d≠[]){u:aZ (Fin q)}(f:Pl u)(h:ser q a=u*ser q d):d.length<=a.length:=by
 rcases W7 a.length d.length with c|c
 ·exfalso;have:=yN nz e nd Pl.zero f ((cF a).mono (show a.length<=d.length-1 by lia)) (Bd.zero _) (show 0*ser q d+ser q a=u*ser q d+0 by rw[h];grind);exact na (sa.nil_of this.2)
 ·exact c
end
variable{l:List Int}
section
variable[NeZero q]
theorem BE(A:bK p)(d:p=q)(a b:List Int)(sa:Sm q a)(f:Sm q b)(n:b≠[])(la:a.length<=50)(s:b.length<=50) :
  ∃g x y,Sm q g/\Sm q x/\Sm q y/\x.length<=60/\y.length<=60/\R.eY [aH a,aH b,.int q]=some (.ok (.tup [aH g,aH x,aH y]))/\
   ((g≠[1]/\2<=g.length/\(∃u,Pl u/\ser q a=u*ser q g)/\(∃u,Pl u/\ser q b=u*ser q g))\/(g=[1]/\1=ser q x*ser q a+ser q y*ser q b)):=by
 obtain⟨g,x,y,m,l,k,D,r,o,C,w,i,hw,E,run⟩:=zF A d a b sa f la s;refine⟨g,x,y,m,l,k,r,o,run,?_⟩;by_cases c:g=[1]
 ·right;refine⟨c,?_⟩;rw[<-C,c,kE]
 ·left;have h:g≠[]:=by
   rintro rfl;obtain⟨v,_,j⟩:=i;rw[bI]at j;exact n (f.nil_of (by rw[j];grind))
  refine⟨c,?_,w,i⟩;have g0:=List.length_pos_iff.mpr h;rcases W7 g.length 2 with z|z
  ·exfalso
   match g,g0,z,hw h with
   |[t],_,_,e=>have:t=1:=(by simpa [co]using e);exact c (by rw[this])
  ·exact z
theorem sumZ(h:Sm q l)(a:l.length<=9):R.dI [aH l,.int q]=some (.ok (.bl true)):=by have e:rR q (aH l)=true:=(by unfold rR;rw[QT h];unfold aH;simp[a]);rw[Ls _ _ (Lp (by lia)),e]
end
end PF
namespace K33
open PySem L2 PF PA
variable{q:Nat}[NeZero q]
end K33
namespace PF
open PySem L2 PA
def hr(x:Int):List Int->Int
 |[]=>0|c::l=>c+x*hr x l
variable{q n:Nat}{p:Int}{l:List Int}
section
variable[NeZero q]
noncomputable def EV(f:aZ (Fin q))(x:Fin q):Nat->Fin q
 |0=>0|n+1=>EV f x n+f.c n*x ^ n
theorem ZJ(f g:aZ (Fin q))(x:Fin q):∀n,EV (f+g) x n=EV f x n+EV g x n
 |0=>by simp only[EV];grind
 |n+1=>by simp only[EV];rw[ZJ f g x n,fM];grind
theorem ZI{f:aZ (Fin q)}{x:Fin q}(h:Bd f n):∀m,n<=m->EV f x m=EV f x n
 |0,hm=>by have:n=0:=(by lia);subst this;rfl
 |m+1,hm=>by
  by_cases c:n=m+1
  ·subst c;rfl
  ·rw[EV,ZI h m (by lia),h m (by lia)];grind
theorem Gf(x:Fin q)(n:Nat):x ^ (n+1)=x ^ n*x:=M9 x n
theorem ZH(f:aZ (Fin q))(a x:Fin q):∀n,EV ((mn (-a) 0+mn 1 1)*f) x (n+1)=(x-a)*EV f x n-a*f.c n*x ^ n
 |0=>by have e:((mn (-a) 0+mn 1 1)*f).c 0=- a*f.c 0:=(by have:(mn (-a) 0+mn 1 1)*f=mn (-a) 0*f+mn 1 1*f:=(by grind);rw[this,fM,cU,cU];simp);simp only[EV,e];have:x ^ 0=(1:Fin q):=E5 x;rw[this];grind
 |n+1=>by have e:((mn (-a) 0+mn 1 1)*f).c (n+1)=f.c n-a*f.c (n+1):=(by have:(mn (-a) 0+mn 1 1)*f=mn (-a) 0*f+mn 1 1*f:=(by grind);rw[this,fM,cU,cU];simp;grind);rw[EV,ZH f a x n,e];simp only[EV];rw[Gf];grind
theorem Fk{f:aZ (Fin q)}{a x:Fin q}(h:Bd f n):EV ((mn (-a) 0+mn 1 1)*f) x (n+1)=(x-a)*EV f x n:=by rw[ZH,h n (Z5 _)];grind
theorem ZG(l:List Int)(x:Int):∀k,k<=l.length->EV (ser q l) (ic x) k+ic x ^ k*ic (hr x (l.drop k))=ic (hr x l)
 |0,_=>by have:(ic x:Fin q) ^ 0=1:=E5 _;rw[this,M1,EV];grind
 |k+1,hk=>by have a:=ZG l x k (by lia);rw[O2 (show k<l.length by lia),hr,xZ,lC]at a;rw[EV,cM,dN (show k<l.length by lia),Gf,<-a];grind
theorem He(l:List Int)(x:Int):EV (ser q l) (ic x) l.length=ic (hr x l):=by have:=ZG (q:=q) l x l.length (Z5 _);rw[B2,hr,bJ]at this;rw[<-this];grind
theorem Av(n:Int):ser q [-n%(q:Int),1]=mn (-(ic n)) 0+mn 1 1:=aZ.ext fun k=>by
 rw[cM,fM];simp only[mn]
 match k with
 |0=>simp[co,pP,LA]|1=>simp[co,fA]|k+2=>simp[co,bJ]
theorem Sm.lin(b:2<=q)(n:Int):Sm q [-n%(q:Int),1]:=⟨fun x a=>by
 simp at a;rcases a with rfl|rfl
 ·exact⟨V4 _ (by lia),V9 _ (by lia)⟩
 ·lia,by simp[Top]⟩
theorem UK(i:bK p)(d:p=q){r:List Int}{Q:aZ (Fin q)}(n:Int)(b:Sm q r)(g:r.length<2)(f:Pl Q)(h:ser q l=Q*ser q [-n%(q:Int),1]+ser q r):(r=[])↔hr n l%q=0:=by
 have j:=bS i d;obtain⟨m,k⟩:=f;have a:(ic (hr n l):Fin q)=ic (hr n r):=(by rw[<-He,<-He,<-ZI (cF l) (l.length+m+3) (by lia),<-ZI (cF r) (l.length+m+3) (by lia),h,ZJ];have e1:Q*ser q [-n%(q:Int),1]=(mn (-(ic n)) 0+mn 1 1)*Q:=(by rw[Av];grind);rw[e1,show l.length+m+3=(l.length+m+2)+1 from rfl,Fk (k.mono (by lia))];grind);constructor
 ·rintro rfl;rw[hr]at a;have:=rE.mp a;simpa using this
 ·intro e
  match r,b,g,a with
  |[],_,_,_=>rfl
  |[c],b,_,a=>exfalso;have e1:hr n [c]=c:=(by simp[hr]);rw[e1]at a;have:=rE.mp a;rw[e]at this;have hc:=b.1 c (by simp);rw[Q5 hc.1 hc.2]at this;exact b.2 (by simp[<-this])
theorem Ey(l:List Int)(x:Int)(o:0<=x/\x<=1000)(j:0<q)(i:q<=5):∃v,eR (aQ 4) R.qT (l.map D.int).reverse [VZ l,VI x,VI q,VI 0,none]=some (.next [VZ l,VI x,VI q,VI (hr x l%q),v]):=by
 have b:(0:Int)<q:=(by lia);obtain⟨p,e,v,f⟩:=dQ (set:=aQ 4) (g:=R.qT) (fun k S=>∃v,S=[VZ l,VI x,VI q,VI (hr x (l.drop (l.length-k))%q),v]) (l:=(l.map D.int).reverse) (S:=[VZ l,VI x,VI q,VI 0,none])
  ⟨none,by simp[hr]⟩ (fun k d S a ⟨v,f⟩=>by subst f;have c:k<l.length:=(by have:=(List.getElem?_eq_some_iff.mp a).1;simpa using this);have hd:d=.int l[l.length-1-k]:=(by rw[zb (by simpa using c)]at a;simp only[Y9,W8]at a;rw[Y1 (by lia)]at a;simpa using a.symm);subst hd;have e1:l.drop (l.length-(k+1))=l[l.length-1-k]::l.drop (l.length-k):=(by have e2:l.length-(k+1)=l.length-1-k:=(by lia);rw[e2,O2 (by lia)];congr 2;lia);obtain⟨w,hw⟩:∃w,w=hr x (l.drop (l.length-k)):=⟨_,rfl⟩;have h:0<=w%q/\w%q<q:=⟨V4 _ (by lia),V9 _ b⟩;refine⟨[VZ l,VI x,VI q,VI (w%q),VI (l[l.length-1-k])],[VZ l,VI x,VI q,VI (hr x (l.drop (l.length-(k+1)))%q),VI (l[l.length-1-k])],by simp[hw],?_,VI (l[l.length-1-k]),rfl⟩;have ok:dR (w%q) x=true:=fH (by lia) (by lia);have n:(w%q*x+l[l.length-1-k])%q=hr x (l.drop (l.length-(k+1)))%q:=(by rw[e1,hr,<-hw];have:w%q*x=(w-q*(w / q))*x:=(by rw[Int.emod_def]);rw[this];have m:(w-q*(w / q))*x+l[l.length-1-k]=(l[l.length-1-k]+x*w)+q*(-(w / q*x)):=(by grind);rw[m,Int.add_mul_emod_self_left]);simp[R.qT,ok,j,n])
 subst f;simp only[List.length_reverse,Y9,z8,M1]at e;exact⟨v,e⟩
theorem Fg(l:List Int)(x:Int)(c:0<=x/\x<=1000)(d:0<q)(a:q<=5):R.oF [aH l,.int x,.int q]=some (.ok (.int (hr x l%q))):=by obtain⟨v,e⟩:=Ey l x c d a;have b:Fy (.ok (aH l))=some (l.map D.int).reverse:=rfl;unfold R.oF R.DC;simp[YB,b,e]
noncomputable def jV(q:Nat)(l:List Int):List Int:=((List.range q).filter fun(k:Nat)=>decide (hr (k:Int) l%(q:Int)=0)).map fun(k:Nat)=>(k:Int)
theorem Fj(l:List Int)(f:0<q)(c:q<=5):R.qK [aH l,.int q]=some (.ok (aH (jV q l))):=by
 have g:∀k:Nat,k∈List.range q->eW (aF lO (aR 3 R.oF (aD (aC 1) (aD (aC 0) (aD (aC 2) aL)))) (dC (.int 0))) [VI k,VZ l,VI q]=some (.ok (decide (hr (k:Int) l%(q:Int)=0))):=fun k e=>(by have e:=List.mem_range.mp e;have:=Fg (q:=q) l (k:Int) ⟨by lia,by lia⟩ f c;simp[this]);have e2:=iO (set:=aQ 0) (t:=eW (aF lO (aR 3 R.oF (aD (aC 1) (aD (aC 0) (aD (aC 2) aL)))) (dC (.int 0)))) (fe:=aC 0) (γ:=Nat) (fun(k:Nat)=>D.int (k:Int)) (fun(k:Nat)=>D.int (k:Int)) (fun k=>decide (hr (k:Int) l%(q:Int)=0)) (fun o=>[o,VZ l,VI q]) (List.range q) none
  (fun a o _=>rfl) g (fun k _=>rfl)
 have i:bY 0 (q:Int)=(List.range q).map fun(k:Nat)=>D.int (k:Int):=(by simp[bY]);rw[<-i]at e2;have h:(bY 0 (q:Int)).length<=100000:=(by rw[gX];lia);have b:-1000000000<=(q:Int)/\(q:Int)<=1000000000:=(by lia);have d:qY (.lst (((List.range q).filter fun(k:Nat)=>decide (hr (k:Int) l%(q:Int)=0)).map fun(k:Nat)=>D.int (k:Int)))=some (aH (jV q l)):=(by unfold jV aH;simp);unfold R.qK R.DJ;simp[-FH,h,b,e2,d]
theorem PM{z:Int}:z∈jV q l↔0<=z/\z<q/\hr z l%q=0:=by
 unfold jV;simp only[List.mem_map,List.mem_filter,List.mem_range,U5];constructor
 ·rintro⟨k,⟨c,a⟩,rfl⟩;exact⟨by lia,by lia,a⟩
 ·rintro⟨c,a,b⟩;exact⟨z.toNat,⟨by lia,by rw[show((z.toNat:Nat):Int)=z by lia];exact b⟩,by lia⟩
end
end PF
namespace K11
open PySem L2 PF PA
end K11
namespace PF
open PySem L2 PA
variable{q:Nat}
section
variable[NeZero q]
theorem pM(a:Int)(l:List Int):ser q (a::l)=mn (ic a) 0+mn 1 1*ser q l:=aZ.ext fun k=>by
 rw[fM,cM,cU];cases k with
 |zero=>simp[mn,co]
 |succ k=>have:co (a::l) (k+1)=co l k:=(by simp[co,List.getD]);rw[this,Z8 (by lia),cM];simp[mn];grind
theorem kR:((q:Nat):aZ (Fin q))=0:=aZ.ext fun k=>by
 show(if k=0 then(nc q:Fin q)else 0)=(0:aZ (Fin q)).c k;rw[eU];split
 ·have:=Lean.Grind.IsCharP.natCast_ext_iff (α:=Fin q) q (x:=q) (y:=0);have h:=this.mpr (by simp);exact h.trans Lean.Grind.Semiring.natCast_zero
 ·rfl
end
theorem Qq(f g:aZ (Fin 2)):(f+g) ^ 2=f ^ 2+g ^ 2:=by have h:(2:aZ (Fin 2))=0:=kR (q:=2);grind
theorem Qp(f g:aZ (Fin 3)):(f+g) ^ 3=f ^ 3+g ^ 3:=by have h:(3:aZ (Fin 3))=0:=kR (q:=3);grind
theorem Qo(f g:aZ (Fin 5)):(f+g) ^ 5=f ^ 5+g ^ 5:=by have h:(5:aZ (Fin 5))=0:=kR (q:=5);grind
theorem Di:∀a:Fin 2,a*a=a:=by decide
theorem Dh:∀a:Fin 3,a*a*a=a:=by decide
theorem Dg:∀a:Fin 5,a*a*a*a*a=a:=by decide
variable{p:Int}
section
variable[NeZero q]
theorem Qr(b:bK p)(a:p=q)(f g:aZ (Fin q)):(f+g) ^ q=f ^ q+g ^ q:=by
 rcases b with rfl|rfl|rfl
 ·obtain rfl:q=2:=(by lia);exact Qq f g
 ·obtain rfl:q=3:=(by lia);exact Qp f g
 ·obtain rfl:q=5:=(by lia);exact Qo f g
theorem lX(f:aZ (Fin q))(n:Nat):f ^ (n+1)=f ^ n*f:=M9 f n
theorem FX(f:aZ (Fin q)):f ^ 0=1:=E5 f
theorem Qb(f g:aZ (Fin q))(n:Nat):(f*g) ^ n=f ^ n*g ^ n:=by
 induction n with
 |zero=>rw[FX,FX,FX];grind|succ n a=>rw[lX,lX,lX,a];grind
theorem jJ(a b:Fin q):mn a 0*mn b 0=mn (a*b) 0:=xQ a b 0 0
theorem LC(c:bK p)(b:p=q)(a:Fin q):(mn a 0) ^ q=mn a 0:=by
 have e1:∀h:aZ (Fin q),h ^ 1=h:=fun h=>(by rw[lX,FX];grind);rcases c with rfl|rfl|rfl
 ·obtain rfl:q=2:=(by lia);rw[lX,e1,jJ,Di]
 ·obtain rfl:q=3:=(by lia);rw[lX,lX,e1,jJ,jJ,Dh]
 ·obtain rfl:q=5:=(by lia);rw[lX,lX,lX,lX,e1,jJ,jJ,jJ,jJ,Dg]
end
variable{n:Nat}
section
variable[NeZero q]
noncomputable def dv(f:aZ (Fin q)):aZ (Fin q):=⟨fun k=>ic ((k:Int)+1)*f.c (k+1)⟩
theorem zY(f:aZ (Fin q))(k:Nat):(dv f).c k=ic ((k:Int)+1)*f.c (k+1):=rfl
theorem XI(f g:aZ (Fin q)):dv (f+g)=dv f+dv g:=aZ.ext fun k=>by simp only[zY,fM];grind
theorem Qw(a:Fin q)(g:aZ (Fin q)):dv (mn a 0*g)=mn a 0*dv g:=aZ.ext fun k=>by rw[zY,cU,cU,Z8 (by lia),Z8 (by lia),zY];simp only[U6];grind
theorem Qv(h:aZ (Fin q)):dv (mn 1 1*h)=h+mn 1 1*dv h:=aZ.ext fun k=>by
 rw[zY,fM,cU,cU,Z8 (by lia)];cases k with
 |zero=>rw[Z6 (by lia)];have:(ic (((0:Nat):Int)+1):Fin q)=1:=fA;rw[this];simp only[S7,z8];grind
 |succ k=>rw[Z8 (by lia),zY];have e1:k+1+1-1=k+1:=(by lia);have e2:k+1-1=k:=(by lia);rw[e1,e2];have a:(ic (((k+1:Nat):Int)+1):Fin q)=ic ((k:Int)+1)+1:=(by have:((k+1:Nat):Int)+1=((k:Int)+1)+1:=(by lia);rw[this,xZ,fA]);rw[a];grind
theorem Qx(a:Fin q):dv (mn a 0)=0:=aZ.ext fun k=>by rw[zY,eU];simp[mn];grind
theorem XH:∀(l:List Int) (g:aZ (Fin q)),dv (ser q l*g)=dv (ser q l)*g+ser q l*dv g
 |[],g=>by rw[bI];have e:dv (0:aZ (Fin q))=0:=aZ.ext fun k=>(by rw[zY,eU,eU];grind);have e2:(0:aZ (Fin q))*g=0:=(by grind);rw[e2,e];grind
 |a::l,g=>by have e1:ser q (a::l)*g=mn (ic a) 0*g+mn 1 1*(ser q l*g):=(by rw[pM];grind);have e2:dv (ser q (a::l))=ser q l+mn 1 1*dv (ser q l):=(by rw[pM,XI,Qx,Qv];grind);rw[e1,XI,Qw,Qv,XH l g,e2,pM];grind
theorem Qy{f:aZ (Fin q)}(h:Bd f (n+1)):Bd (dv f) n:=fun k a=>by rw[zY,h (k+1) (by lia)];grind
theorem RD{d u v g h:List Int}(c:ser q g=ser q u*ser q d)(b:ser q h=ser q v*ser q d):∃w,Pl w/\dv (ser q g*ser q h)=w*ser q d:=by
 refine⟨dv (ser q g)*ser q v+ser q u*dv (ser q h),?_,?_⟩
 ·have a:∀l:List Int,Pl (dv (ser q l)):=fun l=>⟨l.length,Qy ((cF l).mono (by lia))⟩;exact((a g).mul (Pl.ser v)).add ((Pl.ser u).mul (a h))
 ·rw[XH];have:dv (ser q g)*ser q h+ser q g*dv (ser q h)=dv (ser q g)*(ser q v*ser q d)+(ser q u*ser q d)*dv (ser q h):=(by rw[<-b,<-c]);rw[this];grind
theorem Pz(l:List Int):∃r,Nm l r:=by
 have a:∀m,m<=l.length->(∀k,m<=k->co l k=0)->∃r,Nm l r:=by
  intro m
  induction m with
  |zero=>intro _ h;exact⟨l.take 0,0,Y3 _,rfl,h,sL (Y3 _) (.inl rfl)⟩
  |succ m f=>
   intro b h;by_cases c:co l m=0
   ·refine f (by lia) fun k d=>?_;by_cases e:k=m
    ·rw[e];exact c
    ·exact h k (by lia)
   ·exact⟨l.take (m+1),m+1,b,rfl,h,sL b (.inr (by simpa using c))⟩
 exact a l.length (Z5 _) fun k d=>bX d
theorem gR{f:aZ (Fin q)}(h:Pl f):∃l,Sm q l/\ser q l=f:=by
 obtain⟨n,h⟩:=h;have inv:∀a:Fin q,(ic (a.val:Int):Fin q)=a:=fun a=>(by have e:(ic (a.val:Int):Fin q)=nc a.val:=Lean.Grind.Ring.intCast_natCast a.val;rw[e];show(Fin.ofNat q a.val)=a;exact Fin.ext (Nat.mod_eq_of_lt a.isLt));obtain⟨r,g1⟩:=Pz ((List.range n).map fun k=>((f.c k).val:Int));refine⟨r,g1.sm fun x b=>?_,?_⟩
 ·obtain⟨k,_,rfl⟩:=List.mem_map.mp b;have:=(f.c k).isLt;omega
 ·rw[g1.ser];refine aZ.ext fun k=>?_;rw[UG];split
  ·exact inv _
  ·rw[h k (by lia)]
end
section
variable[NeZero q]
noncomputable def ph(f:aZ (Fin q)):aZ (Fin q):=f ^ q-f
theorem KC(b:bK p)(a:p=q)(f g:aZ (Fin q)):ph (f+g)=ph f+ph g:=by unfold ph;rw[Qr b a];generalize f ^ q=F;generalize g ^ q=G;grind
theorem xH(c:bK p)(b:p=q)(a:Fin q)(f:aZ (Fin q)):ph (mn a 0*f)=mn a 0*ph f:=by unfold ph;rw[Qb,LC c b];generalize f ^ q=F;grind
theorem GI(c:bK p)(b:p=q)(a:Fin q):ph (mn a 0:aZ (Fin q))=0:=by unfold ph;rw[LC c b];grind
theorem Eqv.sub{G f g d c:aZ (Fin q)}(a:Eqv G f g)(b:Eqv G d c):Eqv G (f-d) (g-c):=by obtain⟨u,i,e⟩:=a;obtain⟨v,h,j⟩:=b;exact⟨u-v,i.sub h,by grind⟩
theorem Ir{G f g:aZ (Fin q)}(h:Eqv G f g)(a:Pl f)(pg:Pl g):Eqv G (ph f) (ph g):=(h.pow a pg q).sub h
noncomputable def pr(f:aZ (Fin q)):Nat->aZ (Fin q)
 |0=>1|s+1=>pr f s*(f-mn (ic (s:Int)) 0)
end
theorem ph2(f:aZ (Fin 2)):ph f=pr f 2:=by have h:(2:aZ (Fin 2))=0:=kR (q:=2);have e0:(mn (ic ((0:Nat):Int)) 0:aZ (Fin 2))=0:=(by rw[show((0:Nat):Int)=0 from rfl,bJ,kG]);have e1:(mn (ic ((1:Nat):Int)) 0:aZ (Fin 2))=1:=(by rw[show((1:Nat):Int)=1 from rfl,fA];rfl);simp only[pr,ph,e0,e1];grind
theorem ph3(f:aZ (Fin 3)):ph f=pr f 3:=by have h:(3:aZ (Fin 3))=0:=kR (q:=3);have e0:(mn (ic ((0:Nat):Int)) 0:aZ (Fin 3))=0:=(by rw[show((0:Nat):Int)=0 from rfl,bJ,kG]);have e1:(mn (ic ((1:Nat):Int)) 0:aZ (Fin 3))=1:=(by rw[show((1:Nat):Int)=1 from rfl,fA];rfl);have e2:(mn (ic ((2:Nat):Int)) 0:aZ (Fin 3))=2:=rfl;simp only[pr,ph,e0,e1,e2];grind
theorem ph5(f:aZ (Fin 5)):ph f=pr f 5:=by have h:(5:aZ (Fin 5))=0:=kR (q:=5);have e0:(mn (ic ((0:Nat):Int)) 0:aZ (Fin 5))=0:=(by rw[show((0:Nat):Int)=0 from rfl,bJ,kG]);have e1:(mn (ic ((1:Nat):Int)) 0:aZ (Fin 5))=1:=(by rw[show((1:Nat):Int)=1 from rfl,fA];rfl);have e2:(mn (ic ((2:Nat):Int)) 0:aZ (Fin 5))=2:=rfl;have b:(mn (ic ((3:Nat):Int)) 0:aZ (Fin 5))=3:=rfl;have a:(mn (ic ((4:Nat):Int)) 0:aZ (Fin 5))=4:=rfl;simp only[pr,ph,e0,e1,e2,b,a];grind
variable{i:Nat}
section
variable[NeZero q]
theorem Gj(b:bK p)(a:p=q)(f:aZ (Fin q)):ph f=pr f q:=by
 rcases b with rfl|rfl|rfl
 ·obtain rfl:q=2:=(by lia);exact ph2 f
 ·obtain rfl:q=3:=(by lia);exact ph3 f
 ·obtain rfl:q=5:=(by lia);exact ph5 f
theorem Pl.pr{f:aZ (Fin q)}(h:Pl f):∀s,Pl (PF.pr f s)
 |0=>Pl.one|s+1=>(Pl.pr h s).mul (h.sub (Pl.mn _ _))
theorem Iq(e:bK p)(a:p=q){f:aZ (Fin q)}(g:Pl f):∃w,Pl w/\ph f=f*(f-1)*w:=by
 have i:=bS e a;have e0:(mn (ic ((0:Nat):Int)) 0:aZ (Fin q))=0:=(by rw[show((0:Nat):Int)=0 from rfl,bJ,kG]);have e1:(mn (ic ((1:Nat):Int)) 0:aZ (Fin q))=1:=(by rw[show((1:Nat):Int)=1 from rfl,fA];rfl);have d:∀s,∃w,Pl w/\pr f (s+2)=f*(f-1)*w:=by
  intro s
  induction s with
  |zero=>exact⟨1,Pl.one,by simp only[pr,e0,e1];grind⟩
  |succ s h=>obtain⟨w,c,b⟩:=h;refine⟨w*(f-mn (ic ((s+2:Nat):Int)) 0),c.mul (g.sub (Pl.mn _ _)),?_⟩;rw[pr,b];grind
 obtain⟨w,c,b⟩:=d (q-2);rw[show q-2+2=q by lia]at b;exact⟨w,c,by rw[Gj e a,b]⟩
theorem UW{G f:aZ (Fin q)}(i:Pl f)(h:∀s:Nat,s<q->∃x y,Pl x/\Pl y/\1=x*G+y*(f-mn (ic (s:Int)) 0)):∀s,s<=q->∃x y,Pl x/\Pl y/\1=x*G+y*pr f s
 |0,_=>⟨0,1,Pl.zero,Pl.one,by simp only[pr];grind⟩
 |s+1,hs=>by obtain⟨x,y,k,g,e⟩:=UW i h s (by lia);obtain⟨d,c,b,a,j⟩:=h s (by lia);rw[pr];generalize f-mn (ic (s:Int)) 0=B0 at j ⊢;have l:Pl (pr f s):=Pl.pr i s;refine⟨x*1+y*pr f s*d,y*c,(k.mul Pl.one).add ((g.mul l).mul b),g.mul a,?_⟩;generalize pr f s=A at e ⊢;have:(1:aZ (Fin q))=x*G+y*A*(d*G+c*B0):=(by rw[<-j];rw[e];grind);rw[this];grind
theorem Es{a b:List Int}(sa:Sm q a)(f:Sm q b)(ne:a.length≠b.length):∃w,Sm q w/\ser q w=ser q a+ser q b/\w.length=max a.length b.length:=by
 obtain⟨w,g,d⟩:=gR ((Pl.ser a).add (Pl.ser (q:=q) b));refine⟨w,g,d,?_⟩;have up:w.length<=max a.length b.length:=g.len_le (by rw[d];exact((cF a).mono (by lia)).add ((cF b).mono (by lia)));have e:∀{a b:List Int},Sm q a->Sm q b->a.length<b.length->ser q w=ser q a+ser q b->b.length<=w.length:=by
  intro a b sa f lt d;rcases W7 w.length b.length with c|c
  ·exfalso;have h:b≠[]:=(by rintro rfl;simp at lt);have j:(ser q w).c (b.length-1)=0:=cF w _ (by lia);rw[d,fM,cF a _ (by lia)]at j;have i:=f.top h;exact i (by grind)
  ·exact c
 rcases W7 a.length b.length with c|c
 ·have:=e sa f c d;lia
 ·have:=e f sa (show b.length<a.length by lia) (by rw[d];grind);lia
theorem OW(nz:∀a b:Fin q,a*b=0->a=0\/b=0){a:List Int}(sa:Sm q a){c:Fin q}(hc:c≠0):∃w,Sm q w/\ser q w=mn c 0*ser q a/\w.length=a.length:=by
 obtain⟨w,d,g⟩:=gR ((Pl.mn c 0).mul (Pl.ser (q:=q) a));refine⟨w,d,g,?_⟩;have h:∀k,(ser q w).c k=c*(ser q a).c k:=fun k=>(by rw[g,cU,Z8 (by lia),U6]);have up:w.length<=a.length:=d.len_le fun k i=>(by rw[h,cF a k i];grind);rcases W7 w.length a.length with z|z
 ·exfalso;have na:a≠[]:=(by rintro rfl;simp at z);have f:=h (a.length-1);rw[cF w _ (by lia)]at f;rcases nz _ _ f.symm with e|e
  ·exact hc e
  ·exact sa.top na e
 ·lia
def PP(F:aZ (Fin q))(n:Nat)(keys:List Nat)(i:Nat):Prop:=∀v:aZ (Fin q),Bd v i->v.c 0=0->v≠0->∃w,Sm q w/\w≠[]/\w.length<n/\Eqv F (ser q w) (ph v)/\w.length∈keys
theorem PP.start(F:aZ (Fin q))(n:Nat):PP F n [] 1:=fun v b c h=>by
 exfalso;apply h;refine aZ.ext fun k=>?_;rw[eU];cases k with
 |zero=>exact c|succ k=>exact b _ (by lia)
theorem PP.step(l:bK p)(b:p=q){F:aZ (Fin q)}{a:List Nat}(h:PP F n a i)(hi:1<=i){left:List Int}{u:aZ (Fin q)}(M:Sm q left)(Q:left≠[])(ll:left.length<n)(nk:left.length∉a)(bu:Bd u i)(L:u.c 0=0)(e:Eqv F (ser q left) (ph (mn 1 i-u))):PP F n (a++[left.length]) (i+1):=by
 intro v X E P;have y:=uB X;by_cases c:v.c i=0
 ·rw[c,kG]at y;have bl:Bd v i:=by
   rw[y];have:low v i+0=low v i:=(by grind);rw[this];exact CT v i
  obtain⟨w,s,r,D,o,j⟩:=h v bl E P;exact⟨w,s,r,D,o,S0 _ j⟩
 ·obtain⟨cl,H,W,m⟩:=OW (zV l b) M c;obtain⟨d,f⟩:∃d,d=low v i+mn (v.c i) 0*u:=⟨_,rfl⟩;have bm:Bd (mn (v.c i) 0*u) i:=fun k R=>(by rw[cU,Z8 (by lia),U6,bu k R];grind);have b2:Bd d i:=(by rw[f];exact(CT v i).add bm);have I:d.c 0=0:=by
   rw[f,fM,cU,Z8 (by lia),L];simp only[low];rw[Z8 (by lia),E];grind
  have V:(mn (v.c i) i:aZ (Fin q))=mn (v.c i) 0*mn 1 i:=(by rw[xQ];simp;grind);have S:v=d+mn (v.c i) 0*(mn 1 i-u):=(by rw[f];have:low v i+mn (v.c i) 0*u+mn (v.c i) 0*(mn 1 i-u)=low v i+mn (v.c i) i:=(by rw[V];grind);rw[this];exact y);have g:ph v=ph d+mn (v.c i) 0*ph (mn 1 i-u):=by
   conv=>lhs;rw[S]
   rw[KC l b,xH l b]
  have G:Eqv F (ser q cl) (mn (v.c i) 0*ph (mn 1 i-u)):=(by rw[W];obtain⟨t,N,T⟩:=e;exact⟨mn (v.c i) 0*t,(Pl.mn _ _).mul N,by have:mn (v.c i) 0*ser q left-mn (v.c i) 0*ph (mn 1 i-u)=mn (v.c i) 0*(ser q left-ph (mn 1 i-u)):=(by grind);rw[this,T];grind⟩);by_cases n2:d=0
  ·refine⟨cl,H,?_,by lia,?_,by rw[m];simp⟩
   ·rintro rfl;have:=List.length_pos_iff.mpr Q;simp at m;lia
   ·rw[g,n2];have:ph (0:aZ (Fin q))=0:=by
     have:=GI l b (0:Fin q)
     rwa [kG]at this
    rw[this];have:(0:aZ (Fin q))+mn (v.c i) 0*ph (mn 1 i-u)=mn (v.c i) 0*ph (mn 1 i-u):=(by grind);rw[this];exact G
  ·obtain⟨w,s,r,D,o,j⟩:=h d b2 I n2;have A:w.length≠cl.length:=fun z=>nk (by rw[<-m,<-z];exact j);obtain⟨x,K,J,C⟩:=Es s H A;have w0:=List.length_pos_iff.mpr r;refine⟨x,K,?_,by lia,?_,?_⟩
   ·rintro rfl;simp at C;lia
   ·rw[J,g];exact o.add G
   ·rw[C];rcases W7 w.length cl.length with z|z
    ·rw[Nat.max_eq_right (by lia),m];simp
    ·rw[Nat.max_eq_left z];exact S0 _ j
theorem Cf(l:bK p)(i:p=q){f g:List Int}{G:List Nat}(K:Sm q f)(V:f≠[])(lf:f.length<=50)(N:Sm q g)(lg:2<=g.length)(a4:g.length<f.length){h:aZ (Fin q)}(R:Pl h)(e:ser q f=h*ser q g){x y:aZ (Fin q)}(px:Pl x)(py:Pl y)(a2:1=x*ser q f+y*dv (ser q f))(pp:PP (ser q f) f.length G (f.length-1)):False:=by
 have ng:g≠[]:=(by rintro rfl;simp at lg);obtain⟨m,M,eh⟩:=gR R;rw[<-eh]at e;have nh:m≠[]:=(by rintro rfl;rw[bI]at e;exact V (K.nil_of (by rw[e];grind)));have a3:=mB (zV l i) M N K nh ng e;have lh:2<=m.length:=(by lia);have s:ser q f=ser q g*ser q m:=(by rw[e];grind);obtain⟨d,a,b,sd,sa,sb,la,lb,run,cs⟩:=BE l i g m N M nh (by lia) (by lia);rcases cs with⟨_,ld,⟨u,pu,eu⟩,⟨v,pv,ev⟩⟩|⟨_,one⟩
 ·
  obtain⟨ul,su,a1⟩:=gR pu;obtain⟨vl,sv,X⟩:=gR pv;rw[<-a1]at eu;rw[<-X]at ev;obtain⟨w,P,L⟩:=RD eu ev;rw[<-s]at L;have e1:(1:aZ (Fin q))=(x*ser q ul*ser q m+y*w)*ser q d:=(by rw[a2,L,s,eu];grind);have nd:d≠[]:=(by rintro rfl;simp at ld);have:=oO (zV l i) (Sm.one (bS l i).1) sd (by simp) nd (((px.mul (Pl.ser ul)).mul (Pl.ser m)).add (py.mul P)) (by rw[kE];exact e1);simp at this;lia
 ·obtain⟨C,o⟩:∃C,C=ser q a*ser q g:=⟨_,rfl⟩;have T:Pl C:=(by rw[o];exact(Pl.ser a).mul (Pl.ser g));have a0:C-1=0-ser q b*ser q m:=(by rw[o,one];grind);obtain⟨w,P,L⟩:=Iq l i T;have J:Eqv (ser q f) (ph C) 0:=by
   refine⟨(0-ser q a*ser q b)*w,(Pl.zero.sub ((Pl.ser a).mul (Pl.ser b))).mul P,?_⟩;rw[L,a0,o,s];grind
  obtain⟨D,E,I⟩:=gR T;have l0:D.length<=190:=(by refine W2 (E.len_le (n:=a.length+g.length-1) ?_) (by lia);rw[I,o];exact(cF a).mul (cF g));obtain⟨r,Q,r1,r2,r3,r4,F,r6⟩:=zD l i D f E K V l0 (by lia);rw[I]at F;have S:Pl Q:=⟨_,r4⟩;have er:Eqv (ser q f) C (ser q r):=⟨Q,S,by rw[F];grind⟩;have j:∀{k:List Int} {c:Fin q} {t:aZ (Fin q)},Sm q k->2<=k.length->Pl t->(mn c 0:aZ (Fin q))=t*ser q k->c=0:=by
   intro k c t sk lk pt et;rcases O4 (c=0)with z|z
   ·exact z
   ·exfalso;obtain⟨cl,sc,ec⟩:=gR (Pl.mn c 0);have nk:k≠[]:=(by rintro rfl;simp at lk);have nc:cl≠[]:=by
     rintro rfl;have h0:=V8 (fun f=>f.c 0) ec;simp only[bI,eU]at h0;exact z (by simpa [mn]using h0.symm)
    have l1:=oO (zV l i) sc sk nc nk pt (by rw[ec,et]);have l2:cl.length<=1:=sc.len_le (by rw[ec];exact Bd.mn c 0);lia
  obtain⟨c,hc⟩:∃c,c=(ser q r).c 0:=⟨_,rfl⟩;obtain⟨A,e2⟩:∃A,A=ser q r-mn c 0:=⟨_,rfl⟩;have b2:Bd A (f.length-1):=(by rw[e2];exact((cF r).mono (by lia)).sub ((Bd.mn c 0).mono (by lia)));have z2:A.c 0=0:=(by rw[e2,oZ,hc];simp only[mn,Z8];grind);have pe:ph (ser q r)=ph A:=(by have:ser q r=A+mn c 0:=(by rw[e2];grind);rw[this,KC l i,GI l i];grind);have n2:A≠0:=(by intro zz;rw[zz]at e2;have e3:ser q r=mn c 0:=(by grind);have c0:c=0:=j (t:=ser q a-Q*ser q m) N lg ((Pl.ser a).sub (S.mul (Pl.ser m))) (by rw[<-e3];have:ser q r=C-Q*ser q f:=(by rw[F];grind);rw[this,o,s];grind);rw[c0,kG]at e3;rw[e3]at F;have e4:(mn 1 0:aZ (Fin q))=(Q*ser q g+ser q b)*ser q m:=(by have h1:(mn 1 0:aZ (Fin q))=1:=rfl;have h2:(1:aZ (Fin q))=C+ser q b*ser q m:=(by grind);rw[h1,h2,F,s];grind);have W:=j M lh ((S.mul (Pl.ser g)).add (Pl.ser b)) e4;have hq:=(bS l i).1;have:(ic 1:Fin q)=ic 0:=(by rw[fA,bJ];exact W);have:=lB (q:=q) (a:=1) (b:=0) (by lia) (by lia) this;lia);obtain⟨w2,x1,x2,x3,x4,x5⟩:=pp A b2 z2 n2;have H:Eqv (ser q f) (ser q w2) (ser q []):=(by rw[bI];refine x4.trans ?_;rw[<-pe];exact(Ir er T (Pl.ser r)).symm.trans J);exact x2 (Eqv.eq l i K V x1 Sm.nil x3 (by simp;lia) H)
end
section
variable[NeZero q]
def xp(n:Nat):List Int:=List.replicate n 0++[1]
theorem JQ(n:Nat):ser q (xp n)=mn 1 n:=by unfold xp;rw[OT,kE];grind
theorem Sm.xp(b:2<=q)(n:Nat):Sm q (PF.xp n):=Sm.snoc (fun x a=>by obtain⟨_,rfl⟩:=List.mem_replicate.mp a;lia) (by lia)
theorem BR(n:Nat):(xp n).length=n+1:=by simp[xp]
theorem ZF(n:Nat)(i:Int)(hi:i=n)(a:n<=100):R.cP [.int i]=some (.ok (aH (xp n))):=by subst hi;unfold R.cP R.oK;have ok:lZ 1 (n:Int)=true:=hZ (n:=1) (by lia) (by lia);have e:D.tup (List.replicate n (D.int 0)++[D.int 1])=aH (xp n):=(by simp[aH,xp]);simp[ok,Wj,e,show n+1<=100000 by lia]
theorem GN(i z:Int)(b:0<=z)(a:z<=1000):dR i z=true:=CL (by lia) (by lia)
theorem Eu(i c z:Int)(ok:dR i c=true)(a:0<z):aF (eO dF fun i j=>i%j) (aF bU (aC 0) (aC 1)) (aC 2) [VI i,VI c,VI z]=some (.ok (.ok (.int (i*c%z)))):=by simp[ok,a]
theorem Fi(H:0<q)(v:q<=5)(f:List Int)(hf:jT q f)(F:f.length<=100):∃s,Sm q s/\s.length<=f.length-1/\ser q s=dv (ser q f)/\R.mC [aH f,.int q]=some (.ok (aH s)):=by
 have b:(0:Int)<q:=(by lia);obtain⟨N,g⟩:∃N:List Int,N=(List.range f.length).map fun(i:Nat)=>(i:Int)*co f i%(q:Int):=⟨_,rfl⟩;have G:N.length=f.length:=(by rw[g];simp);have u:jT q N:=fun x d=>(by rw[g]at d;obtain⟨i,_,rfl⟩:=List.mem_map.mp d;exact⟨V4 _ (by lia),V9 _ b⟩);obtain⟨s,h,n⟩:=kW (N.drop 1) (by simp;lia);have r:jT q (N.drop 1):=fun x d=>u x (List.mem_of_mem_drop d);refine⟨s,h.sm r,by have:=h.len;simp at this;lia,?_,?_⟩
 ·rw[h.ser];refine aZ.ext fun k=>?_;rw[cM,zY,cM];have e:co (N.drop 1) k=co N (k+1):=(by simp[co,List.getD,GS]);rw[e];by_cases c:k+1<f.length
  ·have e2:co N (k+1)=((k+1:Nat):Int)*co f (k+1)%(q:Int):=by
    rw[dN (by lia)];simp only[g,List.getElem_map,On]
   rw[e2,pP,lC];have:((k+1:Nat):Int)=(k:Int)+1:=(by lia);rw[this]
  ·rw[bX (l:=N) (by lia),bX (l:=f) (by lia),bJ];grind
 ·unfold R.mC R.DH;have m:∀(i:Nat),i<f.length->dR (i:Int) (co f i)=true:=fun i hi=>GN _ _ (hf.getD b i).1 (by have:=(hf.getD b i).2;lia);have e1:=rY (set:=gK 2 (bE (aQ 0) (bE (aQ 1) gL))) (t:=fun _=>some (.ok true)) (fe:=aF (eO dF fun i j=>i%j) (aF bU (aC 0) (aC 1)) (aC 2))
   (γ:=Nat) (fun(i:Nat)=>D.tup [.int i,.int (co f i)]) (fun(i:Nat)=>.int ((i:Int)*co f i%(q:Int))) (fun o p=>[o,p,VI q]) (fun(i:Nat)=>((VI ((i:Int))),(VI (co f i)))) (List.range f.length) none none
   (fun i o p _=>by simp) (fun i _=>rfl) (fun i hi=>Eu i (co f i) q (m i (List.mem_range.mp hi)) b)
  have E:fL (f.map D.int)=(List.range f.length).map fun(i:Nat)=>D.tup [.int i,.int (co f i)]:=(by unfold fL;rw[Y9];refine Q9 fun i hi=>?_;have hi:=List.mem_range.mp hi;rw[dN hi];simp[hi]);rw[<-E]at e1;have C:(List.range f.length).map (fun(i:Nat)=>D.int ((i:Int)*co f i%(q:Int)))=N.map D.int:=(by rw[g];simp);rw[C]at e1;rw[fY,aP (S':=[VZ f,VI q,some (Slot.val (D.lst (List.map D.int N)))]) (by simp[e1,iY,show f.length<=100000 by lia])];have A:cutD (N.map D.int) (some 1) none=(N.map D.int).tail:=by
   unfold cutD;cases N with
   |nil=>rfl
   |cons a N=>have y:HT.sIx (List.map D.int (a::N)).length 0 (some 1)=1:=(by unfold HT.sIx;simp);have w:HT.sIx (List.map D.int (a::N)).length (List.map D.int (a::N)).length none=(List.map D.int (a::N)).length:=rfl;rw[y,w,Y4,List.drop_succ_cons,M1,R8 (by simp)];rfl
  have z:(N.map D.int).tail=(N.drop 1).map D.int:=(by simp);rw[<-z]at n;simp[A,n]
end
variable{f:DS->M VR}
@[simp] theorem Ul{S:DS}{g:DS->M VR}(i:Nat):OA i g f S=match S[i]? with
 |some (some (.owd (.k ks) l))=>eZ (f S) fun r=>match r with
  |.ok d=>eZ (g S) fun a=>match vS (fS a)with
   |some k=>if ks.length<100000 then some (.next (S.set i (some (.owd (.k (xC k ks)) (xA k d ks l)))))else none
   |none=>none
  |_=>none
 |_=>none:=rfl
@[simp] theorem Qg(i:Int):vS (.int i)=some (.inl i):=rfl
@[simp] theorem Md(ks:List fW)(l:List D)(i:Int):AL (.dic (.k ks) l) (.int i)=lA (.inl i) ks l:=rfl
@[simp] theorem Sf(ks:List fW)(l:List D)(i:Int):RU (.int i) (.dic (.k ks) l)=some (.bl (lA (.inl i) ks l).isSome):=rfl
abbrev Kp:=List (Nat×List Int×List Int)
noncomputable def FD(kl:Kp):List fW:=kl.map fun t=>.inl (t.1:Int)
noncomputable def QL(kl:Kp):List D:=kl.map fun t=>.tup [aH t.2.1,aH t.2.2]
theorem ND(n:Nat):∀a:Kp,lA (.inl (n:Int)) (FD a) (QL a)=(a.find? fun t=>t.1==n).map fun t=>.tup [aH t.2.1,aH t.2.2]
 |[]=>rfl
 |t::a=>by
  rw[FD,QL,Y4,Y4,lA];by_cases c:t.1=n
  ·rw[Z8 (by rw[c]),List.find?_cons_of_pos (by simpa using c)];rfl
  ·rw[Z6 (by intro e;injection e with e;exact c (by lia)),List.find?_cons_of_neg (by simpa using c)];exact ND n a
theorem Jz(n:Nat)(a:Kp)(h:n∉a.map (·.1)):HK (.inl (n:Int)) (FD a)=false:=by unfold HK FD;rw[List.any_map,List.any_eq_false];intro t ht;simp;intro e;exact h (List.mem_map.mpr ⟨t,ht,by lia⟩)
theorem Ih(n:Nat)(a m:List Int)(b:Kp)(h:n∉b.map (·.1)):xC (.inl (n:Int)) (FD b)=FD (b++[(n,a,m)])/\xA (.inl (n:Int)) (.tup [aH a,aH m]) (FD b) (QL b)=QL (b++[(n,a,m)]):=by unfold xC xA;rw[Jz n b h];simp[FD,QL]
section
variable[NeZero q]
structure Sv(F:aZ (Fin q))(n i:Nat)(t:Nat×List Int×List Int):Prop where
 sa:Sm q t.2.1
 la:t.2.1.length=t.1
 pos:1<=t.1
 lt:t.1<n
 one:co t.2.1 (t.1-1)=1
 sm:Sm q t.2.2
 bd:Bd (ser q t.2.2) i
 c0:(ser q t.2.2).c 0=0
 eq:Eqv F (ser q t.2.1) (ph (ser q t.2.2))
theorem Sv.ml{F:aZ (Fin q)}{t:Nat×List Int×List Int}(h:Sv F n i t):t.2.2.length<=i:=h.sm.len_le h.bd
noncomputable abbrev cS(row:D)(kl:Kp)(left making:List Int)(v5 v6:Option Slot):DS:=[some (Slot.val row),some (Slot.val (D.dic (.k (FD kl)) (QL kl))),VI q,VZ left,VZ making,v5,v6]
theorem SF(P:bK p)(s:p=q){F:aZ (Fin q)}(hn:n<=50)(hi:i<=50)(g:D)(r:Kp)(C:∀t∈r,Sv F n i t):∀(k:Nat) (left b:List Int) (f:Nat) (H G:Option Slot),left.length=k->k<f->k<n->Sm q left->Sm q b->b.length<=60->Eqv F (ser q left) (ph (ser q b))->
  ∃d h u L K,eG (R.jR R.cW R.bL) (R.qF R.cW R.bL) f (cS (q:=q) g r left b H G)=some (.next (cS (q:=q) g r d h L K))/\Sm q d/\d.length<n/\Sm q h/\h.length<=60/\Eqv F (ser q d) (ph (ser q h))/\(d=[]\/d.length∉r.map (·.1))/\ser q h=ser q b-u/\Bd u i/\u.c 0=0:=by
 have A:=bS P s;intro k
 induction k using Nat.strongRecOn with
 |ind k ih=>
  intro left b f H G hk hf a6 I sm T e;obtain⟨f,rfl⟩:∃f',f=f'+1:=⟨f-1,by lia⟩;by_cases c:left=[]
  ·refine⟨left,b,0,H,G,jI ?_,I,by lia,sm,T,e,.inl c,by grind,Bd.zero _,eU 0⟩;subst c;unfold R.jR;simp
  ·have V:=List.length_pos_iff.mpr c;have a0:(0:Int)<(left.length:Int):=(by lia);have y:=ND left.length r;cases z:r.find? (fun t=>t.1==left.length)with
   |none=>
    rw[z]at y;refine⟨left,b,0,H,G,jI ?_,I,by lia,sm,T,e,.inr ?_,by grind,Bd.zero _,eU 0⟩
    ·unfold R.jR;simp[V,y]
    ·intro hm;obtain⟨t,ht,J⟩:=List.mem_map.mp hm;have:=List.find?_eq_none.mp z t ht;simp[J]at this
   |some t=>
    refine Classical.byContradiction fun hN=>?_;rw[z]at y;have ht:=zt z;have J:t.1=left.length:=(by simpa using J1 z);have x:=C t ht;obtain⟨n0,a,m⟩:=t;simp only at J;subst J;obtain⟨o,S⟩:∃o,o=co left (left.length-1):=⟨_,rfl⟩;have Q:=I.1.getD (show(0:Int)<q by lia) (left.length-1);rw[<-S]at Q;have la:a.length=left.length:=x.la;have ml:=x.ml;simp only at ml;obtain⟨r1,a1,a2,a3,a4⟩:=gQ (q:=q) (by lia) a o (by lia) (by lia) (by lia);obtain⟨r2,b1,b2,b3,b4⟩:=gQ (q:=q) (by lia) m o (by lia) (by lia) (by lia);obtain⟨v,c1,c2,c3,c4⟩:=oW (q:=q) (by lia) A.2 left r1 I.1 (by lia) (by lia);obtain⟨M,d1,d2,d3,d4⟩:=oW (q:=q) (by lia) A.2 b r2 sm.1 (by lia) (by lia);have a5:v.length<left.length:=by
     have:v.length<=left.length-1:=c1.len_le fun j W=>by
      rw[c3,oZ,a3,cU,Z8 (by lia),U6,cM,cM];by_cases cj:j=left.length-1
      ·subst cj;have h1:co a (left.length-1)=1:=x.one;rw[h1,<-S,fA];grind
      ·rw[bX (l:=left) (by lia),bX (l:=a) (by lia),bJ];grind
     lia
    have e1:Eqv F (ser q v) (ph (ser q M)):=(by rw[c3,d3,a3,b3];have hs:ph (ser q b-mn (ic o) 0*ser q m)=ph (ser q b)-mn (ic o) 0*ph (ser q m):=(by have e2:ser q b-mn (ic o) 0*ser q m=ser q b+mn (-(ic o)) 0*ser q m:=(by have:(mn (-(ic o)) 0:aZ (Fin q))=- mn (ic o) 0:=FA _;rw[this];grind);rw[e2,KC P s,xH P s];have:(mn (-(ic o)) 0:aZ (Fin q))=- mn (ic o) 0:=FA _;rw[this];grind);rw[hs];refine e.sub ?_;obtain⟨w,pw,X⟩:=x.eq;simp only at X;exact⟨mn (ic o) 0*w,(Pl.mn _ _).mul pw,by have:mn (ic o) 0*ser q a-mn (ic o) 0*ph (ser q m)=mn (ic o) 0*(ser q a-ph (ser q m)):=(by grind);rw[this,X];grind⟩);obtain⟨d,h,u,w5,w6,i1,i2,i3,i4,i5,i6,i7,i8,i9,N⟩:=ih v.length (by lia) v M f (some (.val (.tup [aH a,aH m]))) (some (.val (.int o))) rfl (by lia) (by lia) c1 d1 (by lia) e1;refine hN ⟨d,h,u+mn (ic o) 0*ser q m,w5,w6,?_,i2,i3,i4,i5,i6,i7,?_,?_,?_⟩
    ·have E:=fQ c;rw[<-S]at E;rw[lT (S2:=cS (q:=q) g r v M (some (.val (.tup [aH a,aH m]))) (some (.val (.int o)))) (by
      unfold R.jR;simp[V,y]) (by
      unfold R.qF;simp[y,E,a4,b4,c4,d4]),i1]
    ·rw[i8,d3,b3];grind
    ·exact i9.add fun j W=>by rw[cU,Z8 (by lia),U6,x.bd j W];grind
    ·have h0:(ser q m).c 0=0:=x.c0;rw[fM,N,cU,Z8 (by lia),U6,h0];grind
end
theorem GY{set:D->DS->Option DS}{g:DS->Option Fl}(P:Nat->DS->Prop)(c:D->Prop):∀(l:List D) (i:Nat) (S:DS),P i S->(∀k d S,l[k]? = some d->P (i+k) S->∃a,set d S=some a/\((∃b,g a=some (.next b)/\P (i+k+1) b)\/∃r,g a=some (.ret r)/\c r))->
  (∃e,eR set g l S=some (.next e)/\P (i+l.length) e)\/∃r,eR set g l S=some (.ret r)/\c r
 |[],i,S,h0,_=>.inl ⟨S,rfl,h0⟩
 |d::l,i,S,h0,hs=>by
  obtain⟨a,e1,h⟩:=hs 0 d S rfl h0;rcases h with⟨b,e2,p⟩|⟨r,e2,p⟩
  ·rw[xT e1 e2];have z:i+(d::l).length=i+1+l.length:=(by simp;lia);rw[z];refine GY P c l (i+1) b p fun k d S h f=>?_;have z:i+1+k=i+(k+1):=(by lia);obtain⟨a,e1,h⟩:=hs (k+1) d S (by simpa using h) (z▸f);exact⟨a,e1,by rw[z];exact h⟩
  ·right;refine⟨r,?_,p⟩;rw[eR,e1];simp only;rw[e2]
variable{R':DS->Option Fl}
section
variable[NeZero q]
theorem KN(i:Nat):∀k:Nat,(mn 1 i:aZ (Fin q)) ^ k=mn 1 (i*k)
 |0=>by rw[FX];rfl
 |k+1=>by rw[lX,KN i k,xQ,Nat.mul_succ];congr 1;grind
theorem SK(m:bK p)(g:p=q){F:aZ (Fin q)}(o:n<=50)(hi:i<=50)(c:Kp)(f:∀t∈c,Sv F n i t)(left a:List Int)(r:left.length<n)(h:Sm q left)(sm:Sm q a)(j:a.length<=60)(e:Eqv F (ser q left) (ph (ser q a))) :
  ∃b d u,R.fP [.tup [aH left,aH a],.dic (.k (FD c)) (QL c),.int q]=some (.ok (.tup [aH b,aH d]))/\Sm q b/\b.length<n/\Sm q d/\d.length<=60/\Eqv F (ser q b) (ph (ser q d))/\(b=[]\/b.length∉c.map (·.1))/\ser q d=ser q a-u/\Bd u i/\u.c 0=0:=by
 obtain⟨b,d,u,v,s,l,k⟩:=SF m g o hi (.tup [aH left,aH a]) c f left.length left a 200 none none rfl (by lia) r h sm j e;refine⟨b,d,u,?_,k⟩;unfold R.fP R.uQ;rw[FO,aP (S':=[some (Slot.val (D.tup [aH left,aH a])),some (Slot.val (D.dic (.k (FD c)) (QL c))),VI q,VZ left,none,none,none]) (by simp)];rw[aP (S':=cS (q:=q) (D.tup [aH left,aH a]) c left a none none) (by simp)];rw[aP l];simp
structure YS(F:aZ (Fin q))(n:Nat)(m:List Int):Prop where
 sm:Sm q m
 lo:2<=m.length
 hi:m.length<n
 eq:Eqv F 0 (ph (ser q m))
theorem Si(f s r i g e:List Int)(a z:Int)(K:Option Slot){ks:DK}{b:List D}(n:K=some (Slot.owd ks b))(l h d c:Option Slot){X:List Int}(k:R.cP [.int a]=some (.ok (aH s)))(ok:dR a z=true)(j:R.cP [.int (a*z)]=some (.ok (aH X)))(m:R.fN [aH X,aH f,.int z]=some (.ok (aH r)))(o:R.cW [aH r,aH s,.int z]=some (.ok (aH i)))(g1:R.fP [.tup [aH i,aH s],.dic ks b,.int z]=some (.ok (.tup [aH g,aH e]))) :
  (aU (bN 4 (aR 1 R.cP (aD (aC 3) aL)))
  (aU (bN 5 (aR 3 R.fN (aD (aR 1 R.cP (aD (aF bU (aC 3) (aC 1)) aL)) (aD (aC 0) (aD (aC 1) aL)))))
  (aU (bN 6 (aR 3 R.fP (aD (dS (aD (aR 3 R.cW (aD (aC 5) (aD (aC 4) (aD (aC 1) aL)))) (aD (aC 4) aL))) (aD (aC 2) (aD (aC 1) aL)))))
  R'))) [VZ f,VI z,K,VI a,l,h,d,c]=R' [VZ f,VI z,K,VI a,VZ s,VZ r,some (Slot.val (.tup [aH g,aH e])),c]:=by
 subst n;rw[aP (S':=[VZ f,VI z,some (Slot.owd ks b),VI a,VZ s,h,d,c]) (by simp[k])];rw[aP (S':=[VZ f,VI z,some (Slot.owd ks b),VI a,VZ s,VZ r,d,c]) (by simp[ok,j,m])];rw[aP (S':=[VZ f,VI z,some (Slot.owd ks b),VI a,VZ s,VZ r,some (Slot.val (.tup [aH g,aH e])),c]) (by simp[o,g1,WB])]
theorem ZD(G:bK p)(v:p=q)(f:List Int)(sf:Sm q f)(l3:3<=f.length)(lf:f.length<=17) :
  (R.fI [aH f,.int q]=some (.ok .non)/\∃M,PP (ser q f) f.length M (f.length-1))\/∃m,R.fI [aH f,.int q]=some (.ok (aH m))/\YS (ser q f) f.length m:=by
 have y:=bS G v;have nf:f≠[]:=(by rintro rfl;simp at l3);obtain⟨n,hn⟩:∃n,n=f.length:=⟨_,rfl⟩;have K:=GY (set:=aQ 3) (g:=R.fC R.cP R.fN R.fP R.cW R.aW R.bL)
  (fun k S=>∃(h:Kp) (W J I H E:Option Slot),S=[VZ f,VI q,some (Slot.owd (.k (FD h)) (QL h)),W,J,I,H,E]/\(∀t∈h,Sv (ser q f) n (k+1) t)/\h.length<=k/\PP (ser q f) n (h.map (·.1)) (k+1))
  (fun r=>∃m,r=aH m/\YS (ser q f) n m) (bY 1 ((f.length:Int)-1)) 0 [VZ f,VI q,some (Slot.owd (.k []) []),none,none,none,none,none]
  ⟨[],none,none,none,none,none,rfl,fun t ht=>by simp at ht,by simp,PP.start _ _⟩ (fun k d S hk ⟨h,W,J,I,H,E,hS,l,L,D⟩=>by
   obtain⟨rfl,b0⟩:=nW hk;subst hS;rw[S7]at l L D;obtain⟨i,hi⟩:∃i:Nat,i=k+1:=⟨_,rfl⟩;rw[<-hi]at l D;have ei:(1:Int)+(k:Int)=(i:Int):=(by lia);rw[ei];refine⟨[VZ f,VI q,some (Slot.owd (.k (FD h)) (QL h)),VI i,J,I,H,E],rfl,Classical.byContradiction fun hN=>?_⟩;have b5:i+1<n:=(by lia);have i1:1<=i:=(by lia);have x1:=ZF i i rfl (by lia);have iq:i*q<=85:=W2 (Nat.mul_le_mul (show i<=17 by lia) y.2) (by decide);have x2:=ZF (i*q) ((i:Int)*q) (by simp) (by lia);obtain⟨r,r1,r2,r3,r4⟩:=SI G v (xp (i*q)) f (Sm.xp y.1 _).1 sf nf (by rw[BR];lia) (by lia);obtain⟨X,c1,c2,c3,c4⟩:=oW (q:=q) (by lia) y.2 r (xp i) r1.1 (by lia) (by rw[BR];lia);have e0:Eqv (ser q f) (ser q X) (ph (ser q (xp i))):=(by rw[c3,JQ];unfold ph;rw[KN];rw[JQ]at r3;exact r3.symm.sub Eqv.refl);obtain⟨s,o,u,g1,g2,g3,g4,g5,V,g7,P,g9,Q⟩:=SK G v (n:=n) (i:=i) (by lia) (by lia) h l X (xp i) (by rw[BR]at c2;lia) c1 (Sm.xp y.1 i) (by rw[BR];lia) e0;rw[JQ]at P;have bm:Bd (ser q o) (i+1):=(by rw[P];exact(Bd.mn 1 i).sub (g9.mono (by lia)));have ok:dR (i:Int) (q:Int)=true:=GN _ _ (by lia) (by lia);have sR:=fun R'=>Si (R':=R') f (xp i) r X s o i q (some (Slot.owd (.k (FD h)) (QL h))) (by rfl) J I H E x1 ok x2 r4 c4 g1;have ci:(ser q o).c i=1:=(by rw[P,oZ,g9 i (Z5 _)];simp only[mn,Z8];grind);have Ck:(1:Fin q)≠0:=fun z=>(by have:(ic 1:Fin q)=ic 0:=(by rw[fA,bJ];exact z);have:=lB (q:=q) (a:=1) (b:=0) (by lia) (by lia) this;lia);have a9:i+1<=o.length:=by
    rcases W7 i o.length with z|z
    ·lia
    ·exfalso;rw[cF o i z]at ci;exact Ck ci.symm
   have a8:o.length<=i+1:=g4.len_le bm;by_cases cl:s=[]
   ·refine hN (.inr ?_);unfold R.fC;rw[sR];subst cl;refine⟨aH o,by simp,o,rfl,g4,by lia,by lia,?_⟩;rw[bI]at V;exact V
   ·have a7:=List.length_pos_iff.mpr cl;obtain⟨c,hc⟩:∃c,c=co s (s.length-1):=⟨_,rfl⟩;have a6:=g2.1.getD (show(0:Int)<q by lia) (s.length-1);have a5:=g2.2.last cl;rw[<-hc]at a6 a5;obtain⟨t,t1,t2,t3,t4⟩:=tW G (a:=c) (by lia) (by lia);rw[v]at t2 t3 t4;obtain⟨a,a1,a2,a3,a4⟩:=gQ (q:=q) (by lia) s t (by lia) (by lia) (by lia);obtain⟨F,b1,b2,b3,b4⟩:=gQ (q:=q) (by lia) o t (by lia) (by lia) (by lia);obtain⟨w1,w2,w3⟩:=wM y.1 hc t3 g2 a1 cl a2 a3;have nk:s.length∉h.map (·.1):=by
     rcases g7 with z|z
     ·exact absurd z cl
     ·exact z
    obtain⟨pk,pv⟩:=Ih s.length a F h nk;have T:=fQ cl;rw[<-hc]at T;refine hN (.inl ?_);unfold R.fC;rw[sR];refine⟨_,?_,h++[(s.length,a,F)],VI i,VZ (xp i),VZ r,some (Slot.val (.tup [aH s,aH o])),VI t,rfl,?_,?_,?_⟩
    ·have a0:(FD h).length<100000:=by
      unfold FD;rw[Y9];lia
     rw[aP (S':=[VZ f,VI q,some (Slot.owd (.k (FD h)) (QL h)),VI i,VZ (xp i),VZ r,some (Slot.val (.tup [aH s,aH o])),E]) (by simp[cl])];rw[aP (S':=[VZ f,VI q,some (Slot.owd (.k (FD h)) (QL h)),VI i,VZ (xp i),VZ r,some (Slot.val (.tup [aH s,aH o])),VI t]) (by simp[T,t4])];simp[a4,b4,a0,pk,pv]
    ·intro x N;rw[S7,<-hi];rcases List.mem_append.mp N with N|N
     ·have A:=l x N;exact⟨A.sa,A.la,A.pos,A.lt,A.one,A.sm,A.bd.mono (by lia),A.c0,A.eq⟩
     ·have ex:x=(s.length,a,F):=(by simpa using N);subst ex;refine⟨a1,w1,a7,g3,by rw[<-w1];exact w2,b1,?_,?_,?_⟩
      ·intro j hj;show(ser q F).c j=0;rw[b3,cU,Z8 (by lia),U6,bm j hj];grind
      ·show(ser q F).c 0=0;rw[b3,cU,Z8 (by lia),U6,P,oZ,Q];simp only[mn];rw[Z6 (by lia)];grind
      ·show Eqv (ser q f) (ser q a) (ph (ser q F));rw[a3,b3,xH G v];obtain⟨w,pw,ew⟩:=V;exact⟨mn (ic t) 0*w,(Pl.mn _ _).mul pw,by have:mn (ic t) 0*ser q s-mn (ic t) 0*ph (ser q o)=mn (ic t) 0*(ser q s-ph (ser q o)):=(by grind);rw[this,ew];grind⟩
    ·rw[W3];simp;lia
    ·rw[S7,<-hi,N5];exact D.step G v i1 g2 cl g3 nk g9 Q (by rw[<-P];exact V))
 have C:lJ (kL (aD (dC (.int 1)) (aD (aF (iV fun i j=>i-j) (cY cZ (aC 0)) (dC (.int 1))) aL))) (aQ 3) (R.fC R.cP R.fN R.fP R.cW R.aW R.bL) [VZ f,VI q,some (Slot.owd (.k []) []),none,none,none,none,none] =
   eR (aQ 3) (R.fC R.cP R.fN R.fP R.cW R.aW R.bL) (bY 1 ((f.length:Int)-1)) [VZ f,VI q,some (Slot.owd (.k []) []),none,none,none,none,none]:=by
  rw[yR];have:kL (aD (dC (.int 1)) (aD (aF (iV fun i j=>i-j) (cY cZ (aC 0)) (dC (.int 1))) aL)) [VZ f,VI q,some (Slot.owd (.k []) []),none,none,none,none,none]=some (.ok (bY 1 ((f.length:Int)-1))):=(by simp;lia);rw[this]
 unfold R.fI R.oI;rw[fY,aP (S':=[VZ f,VI q,some (Slot.owd (.k []) []),none,none,none,none,none]) rfl];rcases K with⟨S',e,h,W,J,I,H,E,hS,l,L,D⟩|⟨r,e,m,rfl,st⟩
 ·left;rw[aP (C.trans e)];refine⟨rfl,h.map (·.1),?_⟩;rw[gX]at D;have:0+((f.length:Int)-1-1).toNat+1=f.length-1:=(by lia);rw[this,hn]at D;exact D
 ·right;refine⟨m,?_,by rw[hn]at st;exact st⟩;rw[yP,C,e];rfl
end
theorem XG(g:Nat->Nat):∀n,0<n->∃i,i<n/\∀j,j<n->g j<=g i/\(j<i->g j<g i)
 |0,h=>absurd h (by decide)
 |1,_=>⟨0,by decide,fun j a=>by have:j=0:=(by lia);subst this;exact⟨Z5 _,fun h=>absurd h (by decide)⟩⟩
 |n+2,_=>by
  obtain⟨i,hi,h⟩:=XG g (n+1) (by lia);by_cases c:g (n+1)<=g i
  ·refine⟨i,by lia,fun j a=>?_⟩;by_cases e:j=n+1
   ·subst e;exact⟨c,fun z=>by lia⟩
   ·exact h j (by lia)
  ·refine⟨n+1,by lia,fun j a=>?_⟩;by_cases e:j=n+1
   ·subst e;exact⟨Z5 _,fun z=>by lia⟩
   ·have:=(h j (by lia)).1;exact⟨by lia,fun _=>by lia⟩
variable{γ:Type}
theorem QH(G:γ->List Int)(l:List γ):sX (l.map fun s=>aH (G s))=some (l.map fun s=>(G s).length):=by
 induction l with
 |nil=>rfl|cons a l b=>rw[Y4,aH,sX,b];simp
theorem CQ(G:Nat->List Int)(n:Nat)(m:0<n):∃i,i<n/\(∀j,j<n->(G j).length<=(G i).length)/\lU (.lst ((List.range n).map fun s=>aH (G s)))=some (aH (G i)):=by
 obtain⟨ns,a⟩:∃ns,ns=(List.range n).map fun s=>(G s).length:=⟨_,rfl⟩;have l:ns.length=n:=(by rw[a];simp);have e:∀j,j<n->ns.getD j 0=(G j).length:=fun j d=>(by rw[a];simp[List.getD,d]);obtain⟨k,o,h⟩:=XG (fun s=>(G s).length) n m;have t:gB ns k=true:=by
  unfold gB;rw[X6,U5,A9];refine⟨by lia,fun j d=>?_⟩;have b:j<n:=(by rw[<-l];simpa using d);obtain⟨q,p⟩:=h j b;rw[e j b,e k o];simp only[X6,Pi,U5,KM,decide_eq_false_iff_not];refine⟨q,?_⟩;by_cases c:j<k
  ·exact .inr (p c)
  ·exact .inl c
 have r:((List.range ns.length).find? (gB ns)).isSome=true:=List.find?_isSome.mpr ⟨k,by simp;lia,t⟩;obtain⟨i,g⟩:=Option.isSome_iff_exists.mp r;have f:=J1 g;have hi:i<n:=(by have:=zt g;rw[<-l];simpa using this);refine⟨i,hi,fun j d=>?_,?_⟩
 ·unfold gB at f;rw[X6,A9]at f;have:=f.2 j (by simp;lia);rw[X6,U5]at this;rw[<-e j d,<-e i hi];exact this.1
 ·unfold lU;simp only[QH,<-a,g];simp[hi]
theorem Li(m r l:List Int)(s z:Int)(a:R.bL [aH [1],.int s,.int z]=some (.ok (aH r)))(b:R.cW [aH m,aH r,.int z]=some (.ok (aH l))):aR 3 R.cW (aD (aC 1) (aD (aR 3 R.bL (aD (dC (.tup (([1]:List Int).map .int))) (aD (aC 0) (aD (aC 2) aL)))) (aD (aC 2) aL))) [VI s,VZ m,VI z]=some (.ok (.ok (aH l))):=by simp only[Y4,R1,TJ];simp[a,b]
theorem UJ(f m:List Int)(b c:Nat->List Int)(n:Nat)(z:Int)(l:-1000000000<=z)(j:z<=1000000000)(p:(bY 0 z).length<=100000)(q:bY 0 z=(List.range n).map fun(k:Nat)=>D.int (k:Int))(g:((List.range n).map fun s=>aH (b s)).length<=100000){r:D}(run:R.fI [aH f,.int z]=some (.ok (aH m)))
  (h:∀s,s<n->aR 3 R.cW (aD (aC 1) (aD (aR 3 R.bL (aD (dC (.tup (([1]:List Int).map .int))) (aD (aC 0) (aD (aC 2) aL)))) (aD (aC 2) aL))) [VI ((s:Int)),VZ m,VI z]=some (.ok (.ok (aH (b s)))))
  (i:∀s,s<n->aF bM (aR 3 R.eY (aD (aC 1) (aD (aC 0) (aD (aC 2) aL)))) (dC (.int 0)) [VZ (b s),VZ f,VI z]=some (.ok (.ok (aH (c s)))))
  (e:lU (.lst ((List.range n).map fun s=>aH (c s)))=some r):R.cI [aH f,.int z]=some (.ok r):=by
 have e1:=qQ (set:=aQ 0) (t:=fun _=>some (.ok true)) (fe:=aR 3 R.cW (aD (aC 1) (aD (aR 3 R.bL (aD (dC (.tup (([1]:List Int).map .int))) (aD (aC 0) (aD (aC 2) aL)))) (aD (aC 2) aL)))) (γ:=Nat) (fun s=>D.int (s:Int)) (fun s=>aH (b s)) (fun o=>[o,VZ m,VI z]) (List.range n) none
  (fun a o _=>rfl) (fun a _=>rfl) (fun s d=>h s (List.mem_range.mp d))
 have e2:=qQ (set:=aQ 0) (t:=fun _=>some (.ok true)) (fe:=aF bM (aR 3 R.eY (aD (aC 1) (aD (aC 0) (aD (aC 2) aL)))) (dC (.int 0))) (γ:=Nat) (fun s=>aH (b s)) (fun s=>aH (c s)) (fun o=>[o,VZ f,VI z]) (List.range n) none
  (fun a o _=>rfl) (fun a _=>rfl) (fun s d=>i s (List.mem_range.mp d))
 rw[<-q]at e1;unfold R.cI R.gH;generalize v:(List.range n).map (fun s=>aH (b s))=A at e1 e2 g;generalize u:(List.range n).map (fun s=>aH (c s))=B0 at e2 e;rw[fY,aP (S':=[VZ f,VI z,VZ m,none]) (by simp[run])];rw[aP (S':=[VZ f,VI z,VZ m,none]) (by simp)];rw[aP (S':=[VZ f,VI z,VZ m,some (Slot.val (.lst A))]) (by simp only[Y4,R1]at e1;simp[p,l,j,e1])];simp[e2,g,e]
section
variable[NeZero q]
def Ew(f g:List Int):Prop:=Sm q g/\2<=g.length/\g.length<f.length/\∃u,Pl u/\ser q f=u*ser q g
def oV(q:Nat)[NeZero q](f:List Int):Prop:=∀g,¬Ew (q:=q) f g
theorem AE(j:bK p)(a:p=q)(f:List Int)(o:Sm q f)(X:3<=f.length)(lf:f.length<=17){x y:aZ (Fin q)}(px:Pl x)(py:Pl y)(T:1=x*ser q f+y*dv (ser q f)) :
  (R.cI [aH f,.int q]=some (.ok .non)/\oV q f)\/∃g,R.cI [aH f,.int q]=some (.ok (aH g))/\Ew (q:=q) f g:=by
 have D:=bS j a;have M:f≠[]:=(by rintro rfl;simp at X);rcases ZD j a f o X lf with⟨run,a0,pp⟩|⟨m,run,st⟩
 ·left;refine⟨?_,fun g ⟨G,W,lg2,u,K,e⟩=>Cf j a o M (by lia) G W lg2 K e px py T pp⟩;unfold R.cI R.gH;simp[run]
 ·right;refine Classical.byContradiction fun hN=>?_;obtain⟨sm,lo,hi,eq⟩:=st;have h1:∀s:Nat,∃l:List Int,s<q->Sm q l/\l.length<=m.length/\ser q l=ser q m-mn (ic (s:Int)) 0/\aR 3 R.cW (aD (aC 1) (aD (aR 3 R.bL (aD (dC (.tup (([1]:List Int).map .int))) (aD (aC 0) (aD (aC 2) aL)))) (aD (aC 2) aL))) [VI ((s:Int)),VZ m,VI q]=some (.ok (.ok (aH l))):=fun s=>by
   by_cases c:s<q
   ·obtain⟨r,r1,V,r3,r4⟩:=gQ (q:=q) (by lia) [1] s (by simp) (by lia) (by lia);obtain⟨l,c1,c2,c3,c4⟩:=oW (q:=q) (by lia) D.2 m r sm.1 (by lia) (by simp at V;lia);refine⟨l,fun _=>⟨c1,by simp at V;lia,?_,?_⟩⟩
    ·rw[c3,r3,kE];grind
    ·exact Li m r l s q r4 c4
   ·exact⟨[],fun h=>absurd h c⟩
  obtain⟨F,b⟩:=Classical.skolem.mp h1;have n:∀s,s<q->F s≠[]:=fun s d e=>(by obtain⟨_,_,h3,_⟩:=b s d;rw[e,bI]at h3;have nm:m≠[]:=(by rintro rfl;simp at lo);have h4:=V8 (fun z=>z.c (m.length-1)) h3;simp only[eU,oZ,mn]at h4;rw[Z6 (by lia)]at h4;exact sm.top nm (by grind));have h2:∀s:Nat,∃g:List Int,s<q->Sm q g/\g.length<=(F s).length/\(∃u,Pl u/\ser q f=u*ser q g)/\(g.length<=1->∃x y,Pl x/\Pl y/\1=x*ser q f+y*(ser q m-mn (ic (s:Int)) 0))/\aF bM (aR 3 R.eY (aD (aC 1) (aD (aC 0) (aD (aC 2) aL)))) (dC (.int 0)) [VZ (F s),VZ f,VI q]=some (.ok (.ok (aH g))):=fun s=>by
   by_cases c:s<q
   ·obtain⟨a1,a2,a3,a4⟩:=b s c;obtain⟨g,x,y,G,sx,sy,W,lx,ly,eg,⟨u,K,Q⟩,⟨v,pv,ev⟩,hw,hz,A⟩:=zF j a f (F s) o a1 (by lia) (by lia);have L:g≠[]:=by
     rintro rfl;rw[bI]at Q;exact M (o.nil_of (by rw[Q];grind))
    refine⟨g,fun _=>⟨G,oO (zV j a) a1 G (n s c) L pv ev,⟨u,K,Q⟩,fun l1=>?_,?_⟩⟩
    ·have g0:=List.length_pos_iff.mpr L;have g1:g=[1]:=by
      match g,g0,l1,hw L with
      |[t],_,_,e=>have:t=1:=(by simpa [co]using e);rw[this]
     rw[g1,kE,a3]at eg;exact⟨_,_,Pl.ser x,Pl.ser y,eg⟩
    ·simp[A]
   ·exact⟨[],fun h=>absurd h c⟩
  obtain⟨H,k⟩:=Classical.skolem.mp h2;obtain⟨i,C,P,N⟩:=CQ H q (by lia);obtain⟨b1,b2,b3,b4,b5⟩:=k i C;refine hN ⟨H i,?_,b1,?_,?_,b3⟩
  ·exact UJ f m F H q q (by lia) (by lia) (by rw[gX];lia) (by simp[bY]) (by simp;lia) run (fun s d=>(b s d).2.2.2) (fun s d=>(k s d).2.2.2.2) N
  ·rcases W7 (H i).length 2 with z|z
   ·exfalso;have E:∀s:Nat,s<q->∃x y,Pl x/\Pl y/\1=x*ser q f+y*(ser q m-mn (ic (s:Int)) 0):=fun s d=>(k s d).2.2.2.1 (by have:=P s d;lia);obtain⟨x',y',J,I,S⟩:=UW (Pl.ser m) E q (Z5 _);rw[<-Gj j a]at S;obtain⟨w,pw,ew⟩:=eq;have e2:(1:aZ (Fin q))=(x'-y'*w)*ser q f:=by
     have:ph (ser q m)=0-w*ser q f:=(by grind);rw[this]at S;rw[S];grind
    have:=oO (zV j a) (Sm.one D.1) o (by simp) M (J.sub (I.mul pw)) (by rw[kE];exact e2);simp at this;lia
   ·exact z
  ·have:=(b i C).2.1;lia
end
variable{α β:Type}
theorem PV(g:α->β)(l:List α)(k:Nat):pickS (l.map g) k=(pickS l k).map g:=by unfold pickS;rw[Y9,K0];congr 1;funext i;simp
section
variable[NeZero q]
theorem Vb(m:Nat):(0:aZ (Fin q)) ^ (m+1)=0:=by rw[lX];grind
theorem Gg(d:bK p)(b:p=q):∀(l:List Int) (k:Nat),(ser q l ^ q).c k=if k%q=0 then ic (co l (k / q))else 0
 |[],k=>by
  have f:=bS d b;have:(ser q [] ^ q)=0:=by
   rw[bI];have:=Vb (q:=q) (q-1)
   rwa [show q-1+1=q by lia]at this
  rw[this,eU];simp[co,bJ]
 |a::l,k=>by
  have f:=bS d b;rw[pM,Qr d b,LC d b,Qb,KN,Nat.one_mul,fM,cU];by_cases c:q<=k
  ·obtain⟨j,rfl⟩:∃j,k=j+q:=⟨k-q,by lia⟩;rw[Z8 c,C7,Gg d b l j];have e1:(j+q)%q=j%q:=Nat.add_mod_right j q;have e2:(j+q) / q=j / q+1:=Nat.add_div_right j (by lia);rw[e1,e2];have g:co (a::l) (j / q+1)=co l (j / q):=(by simp[co,List.getD]);rw[g];simp only[mn];rw[Z6 (by lia)];split<;>grind
  ·rw[Z6 c];simp only[mn];by_cases e:k=0
   ·subst e;simp[co]
   ·rw[Z6 e,Z6 (by rw[Nat.mod_eq_of_lt (by lia)];exact e)];grind
theorem EI{f:List Int}(j:0<q)(i:Nat):co (pickS f q) i=co f (i*q):=by
 have e:pickS f q=(List.range (iG f.length q)).map fun i=>co f (i*q):=by
  unfold pickS;have:∀l:List Nat,(∀i∈l,i*q<f.length)->l.filterMap (fun i=>f[i*q]?)=l.map fun i=>co f (i*q):=by
   intro l
   induction l with
   |nil=>intro _;rfl
   |cons a l g=>intro h;have d:=h a (by simp);rw[V5,Y1 d,Y4,g fun i hi=>h i (by simp[hi]),dN d]
  refine this _ fun i hi=>?_;have hi:=List.mem_range.mp hi;unfold iG at hi;split at hi
  ·lia
  ·have b:i<=(f.length-1) / q:=(by lia);have m:i*q<=(f.length-1) / q*q:=D1 q b;have k:=Nat.div_mul_le_self (f.length-1) q;lia
 rw[e];by_cases c:i<iG f.length q
 ·rw[dN (by simpa using c)];simp
 ·rw[bX (by simpa using c),bX];unfold iG at c;split at c
  ·lia
  ·rcases W7 (i*q) f.length with z|z
   ·exfalso;have b:(i*q) / q<=(f.length-1) / q:=Nat.div_le_div_right (by lia);rw[Nat.mul_div_cancel _ j]at b;lia
   ·exact z
theorem UX{f:List Int}(a:f≠[]):(pickS f q).length<=(f.length-1) / q+1:=by
 unfold pickS;refine W2 (E2 _ _) ?_;rw[U7];unfold iG;split
 ·exact Y3 _
 ·exact Z5 _
theorem JO(l:bK p)(a:p=q)(f:List Int)(d:Sm q f)(v:3<=f.length)(h:dv (ser q f)=0):Ew (q:=q) f (pickS f q):=by
 have m:=bS l a;have s:f≠[]:=(by rintro rfl;simp at v);have r:∀k,k%q≠0->co f k=0:=fun k A=>by
  obtain⟨j,rfl⟩:∃j,k=j+1:=⟨k-1,by have:k≠0:=(by rintro rfl;simp at A);lia⟩;have u:=V8 (fun z=>z.c j) h;simp only[zY,eU,cM]at u;rcases zV l a _ _ u with e|e
  ·exfalso;have n:(ic ((j:Int)+1):Fin q)=ic 0:=(by rw[e,bJ]);have:=rE.mp n;have D:((j:Int)+1)%(q:Int)=(((j+1)%q:Nat):Int):=by
    rw[Int.natCast_emod];simp
   rw[D]at this;simp at this;lia
  ·have y:=d.1.getD (show(0:Int)<q by lia) (j+1);have n:(ic (co f (j+1)):Fin q)=ic 0:=(by rw[e,bJ]);exact lB y (by lia) n
 have C:ser q f=ser q (pickS f q) ^ q:=aZ.ext fun k=>by
  rw[Gg l a,cM];by_cases c:k%q=0
  ·rw[Z8 c,EI (by lia),Nat.div_mul_cancel (zj c)]
  ·rw[Z6 c,r k c,bJ]
 have g:jT q (pickS f q):=fun x w=>(by obtain⟨i,hi,rfl⟩:=List.mem_iff_getElem.mp w;rw[<-dN hi,EI (by lia)];exact d.1.getD (by lia) _);have top:=d.2.last s;have o:(f.length-1)%q=0:=by
  rcases O4 ((f.length-1)%q=0)with z|z
  ·exact z
  ·exact absurd (r _ z) top
 obtain⟨t,ht⟩:∃t,f.length-1=q*t:=⟨(f.length-1) / q,(Nat.mul_div_cancel' (zj o)).symm⟩;have E:1<=t:=by
  rcases C8 t with z|z
  ·subst z;simp at ht;lia
  ·exact z
 have lt:t*2<=q*t:=(by have:=D1 t m.1;lia);have pl:=UX (q:=q) s;have b:(f.length-1) / q=t:=(by rw[ht];exact Nat.mul_div_cancel_left t (by lia));rw[b]at pl;have ct:co (pickS f q) t≠0:=(by rw[EI (by lia)];have:t*q=f.length-1:=(by rw[ht,L8]);rw[this];exact top);have ll:(pickS f q).length=t+1:=by
  rcases W7 t (pickS f q).length with z|z
  ·lia
  ·exact absurd (bX z) ct
 have sm:Sm q (pickS f q):=⟨g,fun e=>by rw[Rt,ll,C7]at e;apply ct;rw[dN (by lia)];rw[Y1 (by lia)]at e;exact Z2 e⟩;refine⟨sm,by lia,by lia,ser q (pickS f q) ^ (q-1),(Pl.ser _).pow _,?_⟩;rw[<-lX,show q-1+1=q by lia];exact C
theorem Lg(f a:List Int)(b z:Int)(c:0<z)(g:atI (a.map D.int) 0=some (.int b))(e:(0:Int)<a.length):kQ (fin ((aU (qB (eW (aF JE (cY cZ (aC 2)) (dC (.int 0)))) (cB (dS (aD (aF (eO dF fun i j=>i%j) (aF (iV fun i j=>i-j) (aC 1) (aF bM (aC 2) (dC (.int 0)))) (aC 1)) (aD (dC (.int 1)) aL)))) dP) R') [VZ f,VI z,VZ a,none,none]))=some (.ok (.tup [.int ((z-b)%z),.int 1])):=by have d:0<a.length:=(by lia);simp[g,e,d,c]
theorem Lf(f:List Int)(z:Int)(b:2<=z)(a:z<=1000)(c:R.mC [aH f,.int z]=some (.ok (aH []))):kQ (fin ((aU (qB (eW (aF JE (cY cZ (aC 2)) (dC (.int 0)))) (cB (dS (aD (aF (eO dF fun i j=>i%j) (aF (iV fun i j=>i-j) (aC 1) (aF bM (aC 2) (dC (.int 0)))) (aC 1)) (aD (dC (.int 1)) aL)))) dP)
  (aU (bN 3 (aR 2 R.mC (aD (aC 0) (aD (aC 1) aL))))
  (aU (qB (eW (aF lO (cY cZ (aC 3)) (dC (.int 0)))) (cB (aF oB (aC 0) (aC 1))) dP) R'))) [VZ f,VI z,VZ ([]),none,none]))=some (.ok (aH (pickS f z.toNat))):=by
 have e:oB (aH f) (.int z)=some (aH (pickS f z.toNat)):=(by unfold oB aH;simp only;rw[Z8 ⟨b,a⟩,PV]);simp[c,e]
theorem SJ(o:bK p)(k:p=q)(f:List Int)(C:Sm q f)(lf:f.length<=17) :
  (R.dZ [aH f,.int q]=some (.ok .non)/\oV q f)\/∃g,R.dZ [aH f,.int q]=some (.ok (aH g))/\Ew (q:=q) f g:=by
 have l:=bS o k;by_cases l3:f.length<3
 ·left;have n:(f.length:Int)<3:=(by lia);refine⟨?_,fun g ⟨_,H,G,_⟩=>by lia⟩;unfold R.dZ R.iX;simp[n]
 have n:¬(f.length:Int)<3:=(by lia);have nf:f≠[]:=(by rintro rfl;simp at l3);have rt:=Fj (q:=q) f (by lia) l.2;have E:∀A,aU (qB (eW (aF Mu (cY cZ (aC 0)) (dC (.int 3)))) (cB (dC .non)) dP) (aU (bN 2 (aR 2 R.qK (aD (aC 0) (aD (aC 1) aL)))) A) [VZ f,VI q,none,none,none]=A [VZ f,VI q,VZ (jV q f),none,none]:=fun A=>(by rw[aP (S':=[VZ f,VI q,none,none,none]) (by simp[n])];rw[aP (S':=[VZ f,VI q,VZ (jV q f),none,none]) (by simp[rt])]);by_cases I:jV q f≠[]
 ·right;obtain⟨h,F,W⟩:∃h F,jV q f=h::F:=by
   cases z:jV q f with
   |nil=>exact absurd z I|cons a b=>exact⟨a,b,rfl⟩
  obtain⟨h0,hq,V⟩:=PM.mp (show h∈jV q f by rw[W];simp);have el:((q:Int)-h)%q=-h%q:=(by have:(q:Int)-h=-h+q:=(by lia);rw[this,Int.add_emod_right]);refine⟨[-h%(q:Int),1],?_,Sm.lin l.1 h,by simp,by simp;lia,?_⟩
  ·unfold R.dZ R.iX;rw[fY];show kQ (fin (aU _ (aU _ _) _))=_;rw[MM,E,W];have e2:D.tup [D.int (-h%(q:Int)),D.int 1]=aH [-h%(q:Int),1]:=rfl;have a0:atI (List.map D.int (h::F)) 0=some (.int h):=(by rw[fE (by lia)];rfl);rw[<-e2,<-el];exact Lg f (h::F) h q (by lia) a0 (by simp)
  ·obtain⟨r,Q,a1,a2,a3,a4,P,a6⟩:=zD o k f [-h%(q:Int),1] C (Sm.lin l.1 h) (by simp) (by lia) (by simp);have:=(UK o k h a1 (by simpa using a2) ⟨_,a4⟩ P).mpr V;subst this;rw[bI]at P;exact⟨Q,⟨_,a4⟩,by rw[P];grind⟩
 have I:jV q f=[]:=Classical.byContradiction I;rw[I]at E;obtain⟨s,b1,b2,N,X⟩:=Fi (q:=q) (by lia) l.2 f C.1 (by lia);by_cases L:s=[]
 ·right;subst L;rw[bI]at N;refine⟨pickS f q,?_,JO o k f C (by lia) N.symm⟩;unfold R.dZ R.iX;rw[fY];show kQ (fin (aU _ (aU _ _) _))=_;rw[MM,E];exact Lf f q (by lia) (by lia) X
 obtain⟨g,x,y,S,sx,sy,lg,lx,ly,eg,⟨u,pu,K⟩,⟨v,pv,ev⟩,hw,V,run⟩:=zF o k f s C b1 (by lia) (by lia);have J:g≠[]:=(by rintro rfl;rw[bI]at K;exact nf (C.nil_of (by rw[K];grind)));have gl:=oO (zV o k) b1 S L J pv ev;have T:∀A,(aU (qB (eW (aF JE (cY cZ (aC 2)) (dC (.int 0)))) (cB (dS (aD (aF (eO dF fun i j=>i%j) (aF (iV fun i j=>i-j) (aC 1) (aF bM (aC 2) (dC (.int 0)))) (aC 1)) (aD (dC (.int 1)) aL)))) dP)
  (aU (bN 3 (aR 2 R.mC (aD (aC 0) (aD (aC 1) aL))))
  (aU (qB (eW (aF lO (cY cZ (aC 3)) (dC (.int 0)))) (cB (aF oB (aC 0) (aC 1))) dP)
  (aU (bN 4 (aF bM (aR 3 R.eY (aD (aC 0) (aD (aC 3) (aD (aC 1) aL)))) (dC (.int 0)))) A)))) [VZ f,VI q,VZ ([]),none,none]=A [VZ f,VI q,VZ ([]),VZ s,VZ g]:=fun A=>by
  rw[aP (S':=[VZ f,VI q,VZ ([]),none,none]) (by simp)];rw[aP (S':=[VZ f,VI q,VZ ([]),VZ s,none]) (by simp[X])];rw[aP (S':=[VZ f,VI q,VZ ([]),VZ s,none]) (by simp[L])];rw[aP (S':=[VZ f,VI q,VZ ([]),VZ s,VZ g]) (by simp[run])]
 by_cases c1:1<g.length
 ·right;have w:(1:Int)<g.length:=(by lia);refine⟨g,?_,S,by lia,by lia,u,pu,K⟩;unfold R.dZ R.iX;rw[fY];show kQ (fin (aU _ (aU _ _) _))=_;rw[MM,E,T];simp[w]
 ·have w:¬(1:Int)<g.length:=(by lia);have g0:=List.length_pos_iff.mpr J;have g1:g=[1]:=by
   match g,g0,c1,hw J with
   |[t],_,_,e=>have:t=1:=(by simpa [co]using e);rw[this]
   |_::_::_,_,c,_=>exact absurd (by simp) c
  have M:1=ser q x*ser q f+ser q y*dv (ser q f):=(by rw[<-N,<-eg,g1,kE]);have m:∀d,R.cI [aH f,.int q]=some (.ok d)->R.dZ [aH f,.int q]=some (.ok d):=fun d hd=>(by unfold R.dZ R.iX;rw[fY];show kQ (fin (aU _ (aU _ _) _))=_;rw[MM,E,T];simp[w,hd]);rcases AE o k f C (by lia) lf (Pl.ser x) (Pl.ser y) M with⟨H,G⟩|⟨g',H,G⟩
  ·exact .inl ⟨m _ H,G⟩
  ·exact .inr ⟨g',m _ H,G⟩
theorem zE(j:bK p)(e:p=q)(f:List Int)(i:f.length<=17){d:D}{b:Bool}(h:R.dZ [aH f,.int q]=some (.ok d))(g:pE d=some (.bl b)):R.oG [aH f,.int q]=some (.ok (.bl (decide (1<f.length)&&b))):=by
 unfold R.oG R.yH;by_cases c:1<f.length
 ·have a:(1:Int)<f.length:=(by lia);simp[c,a,h,g]
 ·have a:¬(1:Int)<f.length:=(by lia);simp[c,a]
theorem Fh(c:bK p)(a:p=q)(f:List Int)(j:Sm q f)(l:f.length<=17) :
  (R.m_split [aH f,.int q]=some (.ok .non)/\R.oG [aH f,.int q]=some (.ok (.bl (decide (1<f.length))))/\oV q f)\/
  ∃g m,R.m_split [aH f,.int q]=some (.ok (.tup [aH g,aH m]))/\R.oG [aH f,.int q]=some (.ok (.bl false))/\Sm q g/\Sm q m/\2<=g.length/\2<=m.length/\g.length<=17/\m.length<=17/\ser q f=ser q g*ser q m:=by
 rcases SJ c a f j l with⟨h,z⟩|⟨g,h,i,s,y,u,t,A⟩
 ·left;have d:=zE c a f l h (b:=true) rfl;rw[Bool.and_true]at d;refine⟨?_,d,z⟩;unfold R.m_split R.wF;simp[h]
 ·right;have d:=zE c a f l h (b:=false) rfl;rw[G8]at d;have k:g≠[]:=(by rintro rfl;simp at s);have w:f≠[]:=(by rintro rfl;simp at y);obtain⟨m,r,o,G,F,E,n,x⟩:=zC c a f g j.1 i k (by lia) (by lia);have C:=yN (zV c a) i k (Pl.ser m) t ((cF r).mono (by lia)) (Bd.zero _) (show ser q m*ser q g+ser q r=u*ser q g+0 by rw[<-n,A];grind);have e:ser q f=ser q g*ser q m:=(by rw[n,C.2];grind);have v:m≠[]:=by
   rintro rfl;rw[bI]at e;exact w (j.nil_of (by rw[e];grind))
  have D:=mB (zV c a) i o j k v e;refine⟨g,m,?_,d,i,o,s,by lia,by lia,by lia,e⟩;unfold R.m_split R.wF;simp[h,x]
end
noncomputable def AY:List D->Option (List (List Int))
 |[]=>some []
 |.tup l::r=>(match dX l with
  |some z=>(AY r).map (z::·)|none=>none)
 |_::_=>none
theorem HM:∀{l:List D} {z:List (List Int)},AY l=some z->l=z.map aH
 |[],z,e=>by have b:=Z2 e;subst b;rfl
 |.tup l::r,z,e=>by
  have e2:(match dX l with|some z=>(AY r).map (z::·)|none=>none)=some z:=e;cases w:dX l with
  |none=>rw[w]at e2;cases e2
  |some x=>
   rw[w]at e2;cases a:AY r with
   |none=>rw[a]at e2;cases e2
   |some y=>rw[a]at e2;have b:=Z2 e2;subst b;rw[lR w,HM a];rfl
 |.non::_,_,e=>by cases e
 |.str _::_,_,e=>by cases e
 |.bl _::_,_,e=>by cases e
 |.int _::_,_,e=>by cases e
 |.lst _::_,_,e=>by cases e
 |.scr _::_,_,e=>by cases e
 |.dic _ _::_,_,e=>by cases e
noncomputable def BS(q d:Nat):Bool:=match R.fJ [.int (d:Int),.int (q:Int)]with
 |some (.ok (.lst l))=>(match AY l with
  |some W=>decide (W.length<=1000)&&W.all fun w=>w.all (fun x=>decide (0<=x)&&decide (x<(q:Int)))&&(w.getLast?==some 1)&&(w.length==d+1)
  |none=>false)
 |_=>false
theorem Fu:∀d,1<=d->d<=4->BS 2 d=true:=by intro d b a;have:d=1\/d=2\/d=3\/d=4:=(by lia);rcases this with rfl|rfl|rfl|rfl<;>decide +kernel
theorem My:∀d,1<=d->d<=3->BS 3 d=true:=by intro d b a;have:d=1\/d=2\/d=3:=(by lia);rcases this with rfl|rfl|rfl<;>decide +kernel
theorem Mx:∀d,1<=d->d<=2->BS 5 d=true:=by intro d b a;have:d=1\/d=2:=(by lia);rcases this with rfl|rfl<;>decide +kernel
theorem YO:rH (.lst []) (.lst [])=some (.bl false):=by have:=vM [] (by simp[fB]);simpa using this
theorem Sj(f:List Int)(d z:Int)(W:List (List Int))(g:R.fJ [.int d,.int z]=some (.ok (.lst (W.map aH))))(i:W.length<=1000)(c:∀w∈W,∃r,r≠[]/\R.gO [aH f,aH w,.int z]=some (.ok (aH r))) :
  R.gF R.fJ R.gO [VZ f,VI z,VI d]=some (.next [VZ f,VI z,VI d]):=by
 have e:=iO (set:=aQ 0) (t:=eW (aF lO (aR 3 R.gO (aD (aC 1) (aD (aC 0) (aD (aC 2) aL)))) (dS aL))) (fe:=aC 0) (γ:=List Int) aH aH (fun _=>false) (fun o=>[o,VZ f,VI z]) W none
  (fun a o _=>rfl) (fun w hw=>by obtain⟨r,h,c⟩:=c w hw;simp[c,fX,h]) (fun a _=>rfl)
 have e2:W.filter (fun _=>false)=[]:=List.filter_eq_nil_iff.mpr (by simp);rw[e2,R1]at e;have b:(W.map aH).length<=100000:=(by rw[Y9];lia);unfold R.gF;generalize W.map aH=A at g e b;simp[g,e,b,YO]
section
variable[NeZero q]
theorem EW(u:bK p)(b:p=q)(f:List Int)(G:Sm q f)(l2:2<=f.length)(lf:f.length<=17)(h:oV q f)(hw:∀d,1<=d->d<=(f.length-1) / 2->BS q d=true):R.cQ [aH f,.int q]=some (.ok (.bl true)):=by
 have M:=bS u b;have s:¬(f.length:Int)<2:=(by lia);obtain⟨S',e,A⟩:=dQ (set:=aQ 2) (g:=R.gF R.fJ R.gO) (fun k S=>∃v,S=[VZ f,VI q,v]) (l:=bY 1 (((f.length:Int)-1) / 2+1)) (S:=[VZ f,VI q,none]) ⟨none,rfl⟩ (fun k d S L ⟨v,A⟩=>by
  obtain⟨rfl,K⟩:=nW L;subst A;obtain⟨i,hi⟩:∃i:Nat,i=k+1:=⟨_,rfl⟩;have T:(1:Int)+(k:Int)=(i:Int):=(by lia);rw[T];have hc:=hw i (by lia) (by lia);unfold BS at hc;cases z:R.fJ [.int (i:Int),.int (q:Int)]with
  |none=>rw[z]at hc;cases hc
  |some y=>
   rw[z]at hc;cases y with
   |error c=>cases hc
   |ok y=>
    cases y<;>first|(cases hc;done)|skip
    rename_i l;simp only at hc;cases o:AY l with
    |none=>rw[o]at hc;cases hc
    |some W=>
     rw[o]at hc;simp only[X6,U5]at hc;obtain⟨I,n⟩:=hc;have P:=HM o;subst P;refine⟨_,_,rfl,Sj f i q W z I fun w hw=>?_,_,rfl⟩;have a:=A9.mp n w hw;simp only[X6,Ft]at a;obtain⟨⟨F,E⟩,D⟩:=a;have t:Sm q w:=by
      refine⟨fun x J=>?_,?_⟩
      ·have:=A9.mp F x J;simp at this;exact this
      ·unfold Top;rw[E];simp
     have H:w≠[]:=(by rintro rfl;simp at D);obtain⟨r,Q,a1,a2,a3,X,C,V⟩:=zD u b f w G t H (by lia) (by lia);refine⟨r,fun N=>?_,V⟩;subst N;rw[bI]at C;exact h w ⟨t,by lia,by lia,Q,⟨_,X⟩,by rw[C];grind⟩)
 unfold R.cQ R.oN;rw[fY,aP (S':=[VZ f,VI q,none]) (by simp[s])];have m:lJ (kL (aD (dC (.int 1)) (aD (aF cK (aF (eO rD fun i j=>i / j) (aF (iV fun i j=>i-j) (cY cZ (aC 0)) (dC (.int 1))) (dC (.int 2))) (dC (.int 1))) aL))) (aQ 2) (R.gF R.fJ R.gO) [VZ f,VI q,none]=some (.next S'):=(by rw[yR];have:kL (aD (dC (.int 1)) (aD (aF cK (aF (eO rD fun i j=>i / j) (aF (iV fun i j=>i-j) (cY cZ (aC 0)) (dC (.int 1))) (dC (.int 2))) (dC (.int 1))) aL)) [VZ f,VI q,none]=some (.ok (bY 1 (((f.length:Int)-1) / 2+1))):=(by simp;lia);rw[this];exact e);rw[aP m];rfl
end
end PF
namespace PF
open PA
variable{q:Nat}{p:Int}{l:List Int}
section
variable[NeZero q]
variable (q) in
structure Pm(p:List Int):Prop where
 sm:Sm q p
 len:2<=p.length
 top:co p (p.length-1)=1
 np:oV q p
theorem Pm.ne{p:List Int}(h:Pm q p):p≠[]:=by rintro rfl;have:=h.len;simp at this
theorem Pm.nz{p:List Int}(h:Pm q p):ser q p≠0:=fun e=>h.ne (h.sm.nil_of e)
theorem JR{p:List Int}(s:Sm q p)(n:p≠[]):ser q p≠0:=fun e=>n (s.nil_of e)
variable (q) in
noncomputable def prodS:List (List Int)->aZ (Fin q)
 |[]=>1|p::l=>ser q p*prodS l
theorem Pl.prodS:∀l:List (List Int),Pl (PF.prodS q l)
 |[]=>Pl.one|p::l=>(Pl.ser p).mul (Pl.prodS l)
theorem kO:∀l m:List (List Int),prodS q (l++m)=prodS q l*prodS q m
 |[],m=>by show prodS q m=1*prodS q m;grind
 |p::l,m=>by show ser q p*prodS q (l++m)=ser q p*prodS q l*prodS q m;rw[kO l m];grind
theorem xD{l m:List (List Int)}(h:l.Perm m):prodS q l=prodS q m:=by
 induction h with
 |nil=>rfl|cons x _ c=>show ser q x*_=ser q x*_;rw[c]|swap x y l=>show ser q y*(ser q x*_)=ser q x*(ser q y*_);grind|trans _ _ a b=>exact a.trans b
theorem Zu(j:bK p)(d:p=q){f g:aZ (Fin q)}(i:Pl f)(pg:Pl g)(h:f*g=0):f=0\/g=0:=by
 obtain⟨a,sa,rfl⟩:=gR i;obtain⟨b,e,rfl⟩:=gR pg;by_cases na:a=[]
 ·left;rw[na,bI]
 ·by_cases c:b=[]
  ·right;rw[c,bI]
  ·exfalso;have:=mB (zV j d) sa e Sm.nil na c (by rw[bI,h]);have l:=List.length_pos_iff.mpr na;have k:=List.length_pos_iff.mpr c;simp at this;lia
theorem Ks(i:bK p)(a:p=q){f g h:aZ (Fin q)}(c:Pl f)(pg:Pl g)(b:Pl h)(d:f≠0)(e:f*g=f*h):g=h:=by
 rcases Zu i a c (pg.sub b) (show f*(g-h)=0 by grind)with z|z
 ·exact absurd z d
 ·have:g=(g-h)+h:=(by grind);rw[this,z];grind
theorem Gr{u:aZ (Fin q)}(s:Sm q l)(a:l.length<=1):∃c:Fin q,ser q l=mn c 0:=by
 refine⟨(ser q l).c 0,aZ.ext fun k=>?_⟩;show _=if k=0 then(ser q l).c 0 else 0;by_cases z:k=0
 ·rw[Z8 z,z]
 ·rw[Z6 z];exact cF l k (by lia)
theorem Xw:∀c:Fin 2,c≠0->∃d:Fin 2,d*c=1:=by decide
theorem Xv:∀c:Fin 3,c≠0->∃d:Fin 3,d*c=1:=by decide
theorem Xu:∀c:Fin 5,c≠0->∃d:Fin 5,d*c=1:=by decide
theorem Jy(b:bK p)(a:p=q)(c:Fin q)(h:c≠0):∃d:Fin q,d*c=1:=by
 rcases b with rfl|rfl|rfl
 ·obtain rfl:q=2:=(by lia);exact Xw c h
 ·obtain rfl:q=3:=(by lia);exact Xv c h
 ·obtain rfl:q=5:=(by lia);exact Xu c h
theorem FR(l:bK p)(b:p=q){f g:List Int}(d:Sm q f)(h:Sm q g)(j:g≠[])(k:f≠[])(r:f.length<=g.length){u:aZ (Fin q)}(i:Pl u)(e:ser q f=u*ser q g):∃c:Fin q,c≠0/\ser q f=mn c 0*ser q g:=by obtain⟨m,sm,rfl⟩:=gR i;have a:m≠[]:=(by rintro rfl;rw[bI]at e;exact k (d.nil_of (by rw[e];grind)));have o:=mB (zV l b) sm h d a j e;have n:=List.length_pos_iff.mpr a;obtain⟨c,hc⟩:=Gr (u:=0) sm (by lia);refine⟨c,?_,by rw[e,hc]⟩;rintro rfl;rw[kG]at hc;exact a (sm.nil_of hc)
theorem OL(b:bK p)(a:p=q){c:Fin q}(hc:c≠0){f g:aZ (Fin q)}(e:f=mn c 0*g):∃d:Fin q,g=mn d 0*f:=by obtain⟨d,hd⟩:=Jy b a c hc;refine⟨d,?_⟩;rw[e];have e1:mn d 0*mn c 0=(1:aZ (Fin q)):=(by rw[xQ,hd];exact rP);have e2:mn d 0*(mn c 0*g)=(mn d 0*mn c 0)*g:=(by grind);rw[e2,e1];grind
theorem Pm.euclid(l:bK p)(f:p=q){r:List Int}(j:Pm q r)(C:r.length<=50){a:List Int}(sa:Sm q a)(la:a.length<=50){b u:aZ (Fin q)}(w:Pl b)(t:Pl u)(h:ser q a*b=u*ser q r) :
  (∃v,Pl v/\ser q a=v*ser q r)\/∃v,Pl v/\b=v*ser q r:=by
 obtain⟨g,x,y,m,H,G,_,_,_,⟨_,n,⟨s,k,e1⟩,⟨o,i,e2⟩⟩|⟨_,e⟩⟩:=BE l f a r sa j.sm j.ne la C
 ·left;have A:g≠[]:=(by rintro rfl;simp at n);have D:r.length<=g.length:=by
   rcases W7 g.length r.length with z|z
   ·exact absurd ⟨m,n,z,o,i,e2⟩ (j.np g)
   ·exact z
  obtain⟨c,hc,F⟩:=FR l f j.sm m A j.ne D i e2;obtain⟨d,E⟩:=OL l f hc F;exact⟨s*mn d 0,k.mul (Pl.mn d 0),by rw[e1,E];grind⟩
 ·right;refine⟨ser q x*u+ser q y*b,((Pl.ser x).mul t).add ((Pl.ser y).mul w),?_⟩;have:b=ser q x*(ser q a*b)+ser q y*b*ser q r:=by
   have:b=(ser q x*ser q a+ser q y*ser q r)*b:=(by rw[<-e];grind);grind
  rw[h]at this;grind
theorem Pm.one_of(h:bK p)(b:p=q){r m:List Int}(a:Pm q r)(pm:Pm q m){u:aZ (Fin q)}(d:Pl u)(e:ser q m=u*ser q r):m=r:=by
 have j:m.length<=r.length:=by
  rcases W7 r.length m.length with z|z
  ·exact absurd ⟨a.sm,a.len,z,u,d,e⟩ (pm.np r)
  ·exact z
 have i:=oO (zV h b) pm.sm a.sm pm.ne a.ne d e;obtain⟨c,hc,g⟩:=FR h b pm.sm a.sm a.ne pm.ne j d e;have k:=V8 (fun f:aZ (Fin q)=>f.c (m.length-1)) g;rw[cU,Z8 (Y3 _),U6,cM,pm.top,show m.length-1=r.length-1 by lia,cM,a.top,fA]at k;have:c=1:=(by grind);rw[this,rP]at g;exact vZ pm.sm a.sm (by rw[g];grind)
theorem IE(j:bK p)(d:p=q){r:List Int}(b:Pm q r){c:Fin q}(hc:c≠0){u:aZ (Fin q)}(h:Pl u)(e:mn c 0=u*ser q r):False:=by obtain⟨l,g,a⟩:=gR (Pl.mn c 0);have k:l.length<=1:=g.len_le (by rw[a];exact Bd.mn c 0);have i:l≠[]:=(by rintro rfl;rw[bI]at a;have:=V8 (fun f:aZ (Fin q)=>f.c 0) a;simp only[eU]at this;exact hc this.symm);have:=oO (zV j d) g b.sm i b.ne h (by rw[a,e]);have:=b.len;lia
theorem Pm.mem(f:bK p)(a:p=q){r:List Int}(d:Pm q r)(j:r.length<=50){c:Fin q}(hc:c≠0):∀{M:List (List Int)},(∀m∈M,Pm q m/\m.length<=50)->∀{u:aZ (Fin q)},Pl u->mn c 0*prodS q M=u*ser q r->r∈M
 |[],_,u,pu,e=>by have i:mn c 0=u*ser q r:=(by rw[<-e];show _=mn c 0*1;grind);exact(IE f a d hc pu i).elim
 |m::M,hM,u,pu,e=>by
  have b:=hM m X7;have i:ser q m*(mn c 0*prodS q M)=u*ser q r:=(by rw[<-e];show _=mn c 0*(ser q m*prodS q M);grind);rcases d.euclid f a j b.1.sm b.2 ((Pl.mn c 0).mul (Pl.prodS M)) pu i with⟨v,g,h⟩|⟨v,g,h⟩
  ·rw[d.one_of f a b.1 g h];exact X7
  ·exact X5 _ (d.mem f a j hc (fun m b=>hM m (X5 _ b)) g h)
theorem uf(f:bK p)(c:p=q):∀{L M:List (List Int)} {a b:Fin q},(∀m∈L,Pm q m/\m.length<=50)->(∀m∈M,Pm q m/\m.length<=50)->a≠0->b≠0->mn a 0*prodS q L=mn b 0*prodS q M->L.Perm M
 |[],[],a,b,hL,hM,ha,hb,e=>.nil
 |[],m::M,a,b,hL,hM,ha,hb,e=>by have h:mn a 0=mn b 0*prodS q M*ser q m:=(by have:mn a 0=mn a 0*prodS q []:=(by show _=mn a 0*1;grind);rw[this,e];show mn b 0*(ser q m*prodS q M)=_;grind);exact(IE f c (hM m X7).1 ha ((Pl.mn b 0).mul (Pl.prodS M)) h).elim
 |r::L,M,a,b,hL,hM,ha,hb,e=>by have g:=hL r X7;have d:=g.1.mem f c g.2 hb hM ((Pl.mn a 0).mul (Pl.prodS L)) (show mn b 0*prodS q M=mn a 0*prodS q L*ser q r by rw[<-e];show mn a 0*(ser q r*prodS q L)=_;grind);have pm:=List.perm_cons_erase d;refine List.Perm.trans (.cons r (uf f c (fun m d=>hL m (X5 _ d)) (fun m d=>hM m (List.mem_of_mem_erase d)) ha hb ?_)) pm.symm;refine Ks f c (Pl.ser r) ((Pl.mn a 0).mul (Pl.prodS L)) ((Pl.mn b 0).mul (Pl.prodS _)) g.1.nz ?_;have e1:prodS q M=ser q r*prodS q (M.erase r):=xD pm;have e2:prodS q (r::L)=ser q r*prodS q L:=rfl;rw[e1,e2]at e;grind
def iC:List (List Int)->Nat
 |[]=>0|p::l=>(p.length-1)+iC l
theorem wH:∀l m:List (List Int),iC (l++m)=iC l+iC m
 |[],m=>by simp[iC]
 |p::l,m=>by simp[iC,wH l m,Nat.add_assoc]
theorem DV:∀{l:List (List Int)} {p:List Int},p∈l->p.length-1<=iC l
 |x::l,p,h=>by
  rcases G4.mp h with rfl|h
  ·simp[iC]
  ·have:=DV h;simp[iC];lia
theorem qO:∀{l:List (List Int)},(∀p∈l,2<=p.length)->l.length<=iC l
 |[],_=>by simp[iC]
 |p::l,h=>by have b:=h p X7;have:=qO fun p a=>h p (X5 _ a);simp[iC];lia
theorem LJ(i:bK p)(a:p=q){c:Fin q}(hc:c≠0):∀{L:List (List Int)} {f:List Int},(∀m∈L,Sm q m/\m≠[])->Sm q f->ser q f=mn c 0*prodS q L->f.length=iC L+1
 |[],f,hL,sf,e=>by have d:ser q f=mn c 0:=(by rw[e];show mn c 0*1=_;grind);have r:f.length<=1:=sf.len_le (by rw[d];exact Bd.mn c 0);have n:f≠[]:=(by rintro rfl;rw[bI]at d;have:=V8 (fun f:aZ (Fin q)=>f.c 0) d;simp only[eU]at this;exact hc this.symm);have:=List.length_pos_iff.mpr n;simp[iC];lia
 |m::L,f,hL,sf,e=>by have b:=hL m X7;obtain⟨g,h,j⟩:=gR ((Pl.mn c 0).mul (Pl.prodS L));have l:=LJ i a hc (fun m b=>hL m (X5 _ b)) h j;have k:g≠[]:=(by rintro rfl;simp at l);have e2:ser q f=ser q m*ser q g:=(by rw[e,j];show mn c 0*(ser q m*prodS q L)=_;grind);have:=mB (zV i a) b.1 h sf b.2 k e2;have o:=List.length_pos_iff.mpr b.2;simp[iC];lia
end
end PF
namespace PF
variable{ks:List (List Int)}
theorem yA{k:List Int}:mX k ks=true↔k∈ks:=by
 unfold mX;rw[List.any_eq_true];constructor
 ·rintro⟨y,b,a⟩;have:y=k:=(by simpa using a);exact this▸b
 ·exact fun h=>⟨k,h,by simp⟩
variable{α:Type}
theorem sW{k:List Int}{g:List Int->α}:∀{ks:List (List Int)},k∈ks->dJ k ks (ks.map g)=some (g k)
 |x::ks,h=>by
  rw[Y4];unfold dJ;by_cases c:x=k
  ·rw[Z8 c,c]
  ·rw[Z6 c];rcases G4.mp h with rfl|h
   ·exact absurd rfl c
   ·exact sW h
theorem GZ{k:List Int}:∀{ks:List (List Int)} {l:List α},k∉ks->dJ k ks l=none
 |[],l,_=>by cases l<;>rfl
 |x::ks,[],_=>rfl
 |x::ks,d::l,h=>by unfold dJ;have ne:¬x=k:=fun e=>h (by rw[e];exact X7);rw[Z6 ne];exact GZ fun z=>h (X5 _ z)
theorem GA{k:List Int}{d:α}{g:List Int->α}:∀{ks:List (List Int)},vC k d ks (ks.map g)=ks.map fun x=>if x=k then d else g x
 |[]=>rfl
 |x::ks=>by rw[Y4,Y4];unfold vC;rw[GA]
structure qJ(ks L:List (List Int)):Prop where
 nd:ks.Nodup
 mem:∀k,k∈ks↔k∈L
noncomputable def uX(L ks:List (List Int)):List Int:=ks.map fun k=>(L.count k:Int)
noncomputable def hJ(L ks:List (List Int)):List D:=ks.map fun k=>.int (L.count k:Int)
theorem qJ.nil:qJ [] []:=⟨List.nodup_nil,fun k=>Iff.rfl⟩
theorem qJ.get{L:List (List Int)}(h:qJ ks L)(k:List Int):(dJ k ks (hJ L ks)).getD (.int 0)=.int (L.count k:Int):=by
 unfold hJ;by_cases c:k∈ks
 ·rw[sW c];rfl
 ·rw[GZ c];have:L.count k=0:=List.count_eq_zero.mpr fun z=>c ((h.mem k).mpr z);rw[this];rfl
theorem qP(n:Nat)(k x:List Int)(L:List (List Int)):(List.replicate n k++L).count x=(if x=k then n else 0)+L.count x:=by
 rw[List.count_append,List.count_replicate];by_cases c:x=k
 ·subst c;simp
 ·have:(k==x)=false:=(by simpa using fun e=>c e.symm);rw[Z6 c,this];simp
theorem qJ.put{L:List (List Int)}(h:qJ ks L)(k:List Int)(n:Nat)(j:1<=n)(m:Int)(g:m=(L.count k:Int)+n) :
  qJ (iF k ks) (List.replicate n k++L)/\lV k (.int m) ks (hJ L ks)=hJ (List.replicate n k++L) (iF k ks):=by
 have f:∀x,x∈List.replicate n k++L↔x=k\/x∈L:=fun x=>by
  rw[List.mem_append,List.mem_replicate];constructor
  ·rintro(⟨_,h⟩|h)
   ·exact .inl h
   ·exact .inr h
  ·rintro(h|h)
   ·exact .inl ⟨by lia,h⟩
   ·exact .inr h
 unfold iF lV;by_cases c:mX k ks=true
 ·rw[Z8 c,Z8 c];have b:=yA.mp c;refine⟨⟨h.nd,fun x=>?_⟩,?_⟩
  ·rw[f,h.mem x];exact⟨.inr,fun z=>z.elim (fun e=>by rw[e];exact(h.mem k).mp b) id⟩
  ·unfold hJ;rw[GA];refine Q9 fun x _=>?_;rw[qP];by_cases e:x=k
   ·rw[Z8 e,Z8 e,e,g];congr 1;lia
   ·rw[Z6 e,Z6 e,S7]
 ·rw[Z6 c,Z6 c];have b:k∉ks:=fun z=>c (yA.mpr z);refine⟨⟨List.nodup_append.mpr ⟨h.nd,by simp,fun a i x d=>?_⟩,fun x=>?_⟩,?_⟩
  ·rw[List.mem_singleton]at d;rw[d];exact fun e=>b (e▸i)
  ·rw[f,List.mem_append,List.mem_singleton,h.mem x];exact⟨fun z=>z.elim .inr .inl,fun z=>z.elim .inr .inl⟩
  ·unfold hJ;rw[N5];have e0:L.count k=0:=List.count_eq_zero.mpr fun z=>b ((h.mem k).mpr z);congr 1
   ·refine Q9 fun x d=>?_;rw[qP,Z6 (fun e=>b (by rw[<-e];exact d)),S7]
   ·show[D.int m]=[D.int _];rw[qP,Z8 rfl,g,e0];congr 2;lia
theorem qJ.nodupT{L:List (List Int)}(h:qJ ks L):PF.nodupT ks=true:=by
 have:∀{ks:List (List Int)},ks.Nodup->PF.nodupT ks=true:=by
  intro ks
  induction ks with
  |nil=>intro _;rfl
  |cons x ks b=>
   intro a;rw[List.nodup_cons]at a;unfold PF.nodupT;rw[b a.2];have:mX x ks=false:=by
    cases z:mX x ks with
    |false=>rfl|true=>exact absurd (yA.mp z) a.1
   rw[this];rfl
 exact this h.nd
variable{ms:List (List Int)}
theorem qJ.same{L M:List (List Int)}(h:qJ ks L)(h':qJ ms M)(p:L.Perm M):ks.length=ms.length/\pB ms (uX M ms) ks (uX L ks)=true:=by
 have d:ks.Perm ms:=(List.perm_ext_iff_of_nodup h.nd h'.nd).mpr fun k=>(by rw[h.mem,h'.mem];exact p.mem_iff);refine⟨d.length_eq,?_⟩;have c:∀{a:List (List Int)},(∀x∈a,x∈ms)->pB ms (uX M ms) a (uX L a)=true:=by
  intro a
  induction a with
  |nil=>intro _;rfl
  |cons x a e=>intro b;show pB ms (uX M ms) (x::a) ((L.count x:Int)::uX L a)=true;unfold pB;rw[e fun y f=>b y (X5 _ f)];unfold uX;rw[sW (b x X7),p.count_eq];simp
 exact c fun x b=>d.mem_iff.mp b
noncomputable def fG(L ks:List (List Int)):List (List Int):=ks.flatMap fun k=>List.replicate (L.count k) k
theorem yU(L:List (List Int))(x:List Int):∀{ks:List (List Int)},ks.Nodup->(fG L ks).count x=if x∈ks then L.count x else 0
 |[],_=>by simp[fG]
 |k::ks,hn=>by
  rw[List.nodup_cons]at hn;have a:=yU L x hn.2;have e:fG L (k::ks)=List.replicate (L.count k) k++fG L ks:=(by simp[fG]);rw[e,qP,a];by_cases c:x=k
  ·subst c;rw[Z8 rfl,Z6 hn.1,Z8 X7];rfl
  ·rw[Z6 c,S7];by_cases d:x∈ks
   ·rw[Z8 d,Z8 (X5 _ d)]
   ·rw[Z6 d,Z6 (fun z=>(G4.mp z).elim c d)]
theorem qJ.flat{L:List (List Int)}(h:qJ ks L):(fG L ks).Perm L:=by
 refine List.perm_iff_count.mpr fun x=>?_;rw[yU L x h.nd];by_cases c:x∈ks
 ·rw[Z8 c]
 ·rw[Z6 c];exact(List.count_eq_zero.mpr fun z=>c ((h.mem x).mpr z)).symm
theorem qJ.perm{L:List (List Int)}(h:qJ ks L)(p:ms.Perm ks):qJ ms L:=⟨p.nodup_iff.mpr h.nd,fun k=>p.mem_iff.trans (h.mem k)⟩
theorem qJ.len{L:List (List Int)}(h:qJ ks L):ks.length<=L.length:=by
 have k:=h.flat.length_eq;have f:∀{a:List (List Int)},(∀x∈a,x∈L)->a.length<=(fG L a).length:=by
  intro a
  induction a with
  |nil=>intro _;simp
  |cons x a c=>intro b;have e:fG L (x::a)=List.replicate (L.count x) x++fG L a:=(by simp[fG]);rw[e,W3,R7,Q3];have i:=c fun y d=>b y (X5 _ d);have g:=List.count_pos_iff.mpr (b x X7);lia
 have j:=f fun x b=>(h.mem x).mp b;lia
end PF
namespace PF
open PySem L2 PA
variable{f:DS->M VR}
section
variable{S:DS}{g fd:DS->M VR}
@[simp] theorem Ug(i:Nat):YC i S=some (.next (S.set i (some (.owd (.t []) [])))):=rfl
@[simp] theorem Ub(i:Nat):IC i g f S=match S[i]? with
 |some (some (.owd (.t ks) l))=>eZ (f S) fun r=>match r with
  |.ok d=>eZ (g S) fun a=>match FC (fS a)with
   |some k=>if ks.length<100000 then some (.next (S.set i (some (.owd (.t (iF k ks)) (lV k d ks l)))))else none
   |none=>none
  |_=>none
 |_=>none:=rfl
@[simp] theorem Ro(a:DS->M (List VR)):EC fd a S=mb (fd S) fun r=>match fS r with
 |.dic (.t ks) l=>mb (a S) fun b=>match b with
  |[r1,.ok d0]=>(match FC (fS r1)with
   |some k=>some (.ok (.ok ((dJ k ks l).getD d0)))|none=>none)
  |_=>none
 |_=>none:=rfl
@[simp] theorem Ud(i j:Nat):NW i j S=match S[i]? with
 |some (some (.own l))=>(match l[l.length-1]? with
  |some d=>some (.next ((S.set i (some (.own l.dropLast))).set j (some (.val d))))|none=>none)
 |_=>none:=rfl
@[simp] theorem Uj(i:Nat):NZ i f S=match S[i]? with
 |some (some (.own l))=>eZ (f S) fun r=>match fS r with
  |.tup a=>if l.length+a.length<=100000 then some (.next (S.set i (some (.own (l++a)))))else none
  |_=>none
 |_=>none:=rfl
@[simp] theorem mG:∀l:List Int,dX (l.map D.int)=some l
 |[]=>rfl
 |i::l=>by show(dX (l.map D.int)).map (i::·)=_;rw[mG l];rfl
@[simp] theorem Nk(l:List Int):FC (aH l)=some l:=mG l
@[simp] theorem Ly:ME .non=some (.bl false):=rfl
@[simp] theorem Lx(l:List D):ME (.tup l)=some (.bl true):=rfl
end
variable{q:Nat}{p:Int}
section
variable[NeZero q]
theorem Ck(h:2<=q):(1:Fin q)≠0:=fun z=>by have:(ic 1:Fin q)=ic 0:=(by rw[fA,bJ];exact z);have:=lB (q:=q) (a:=1) (b:=0) (by lia) (by lia) this;lia
theorem Qi{a:Int}(c:0<=a)(b:a<q)(h:a≠0):(ic a:Fin q)≠0:=fun z=>by rw[<-bJ]at z;exact h (lB ⟨c,b⟩ ⟨by lia,by lia⟩ z)
theorem Lr(m:bK p)(b:p=q)(f:List Int)(e:Sm q f)(d:f≠[])(C:f.length<=17) :
  ∃g,∃c:Fin q,Sm q g/\g.length=f.length/\co g (g.length-1)=1/\c≠0/\ser q f=mn c 0*ser q g/\R.eP [aH f,.int q]=some (.ok (aH g)):=by
 have j:=bS m b;have i:(0:Int)<q:=(by lia);refine Classical.byContradiction fun w=>?_;have D:=List.length_pos_iff.mpr d;have ht:=e.1.getD i (f.length-1);have h:=e.2.last d;obtain⟨t,A,r,l,k⟩:=tW m (a:=co f (f.length-1)) (by lia) (by lia);rw[b]at r l k;obtain⟨g,n,z,y,x⟩:=gQ (q:=q) (by lia) f t (by lia) (by lia) (by lia);obtain⟨v,u,s⟩:=wM j.1 rfl l e n d z y;refine w ⟨g,ic (co f (f.length-1)),n,v,u,Qi ht.1 ht.2 h,s,?_⟩;have o:=fQ d;unfold R.eP R.oJ;simp[o,k,x]
def mw(w:List Int):Nat:=max 1 (2*w.length-3)
def CP:List (List Int)->Nat
 |[]=>0|w::l=>mw w+CP l
theorem CO:∀l m:List (List Int),CP (l++m)=CP l+CP m
 |[],m=>by simp[CP]
 |w::l,m=>by simp[CP,CO l m,Nat.add_assoc]
theorem CN:∀l:List (List Int),l.length<=CP l
 |[]=>by simp[CP]
 |w::l=>by have:=CN l;have:1<=mw w:=Nat.le_max_left _ _;simp[CP];lia
noncomputable abbrev pS(q:Nat)(f:List Int)(ks L W:List (List Int))(v4 v5 v6:Option Slot):DS:=[VZ f,VI q,some (Slot.owd (.t ks) (hJ L ks)),some (Slot.own (W.map aH)),v4,v5,v6]
theorem Py{f g:List Int}{c:Fin q}(a:g.length=f.length)(e:ser q f=mn c 0*ser q g)(h:oV q f):oV q g:=fun x ⟨h1,h2,h3,u,pu,eu⟩=>h x ⟨h1,h2,by lia,mn c 0*u,(Pl.mn c 0).mul pu,by rw[e,eu];grind⟩
theorem Zb(H:bK p)(j:p=q)(s:List Int):∀(n:Nat) (W L ks:List (List Int)) (f:Nat) (D l i:Option Slot),CP W<=n->n<f->(∀w∈W,Sm q w/\w≠[]/\w.length<=17)->qJ ks L->(∀r∈L,Pm q r)->L.length+n<=1000->
  ∃b h C A y,∃c:Fin q,c≠0/\eG (R.eD R.m_split R.eP) (R.fD R.m_split R.eP) f (pS q s ks L W D l i)=some (.next (pS q s b h [] C A y))/\qJ b h/\(∀r∈h,Pm q r)/\prodS q W*prodS q L=mn c 0*prodS q h:=by
 have N:=bS H j;intro n
 induction n with
 |zero=>intro W L ks f D l i hm hf hW v I hb;have w0:W=[]:=(by have:=CN W;exact List.length_eq_zero_iff.mp (by lia));subst w0;obtain⟨f,rfl⟩:∃f',f=f'+1:=⟨f-1,by lia⟩;refine⟨ks,L,D,l,i,1,Ck N.1,jI ?_,v,I,by rw[rP];rfl⟩;unfold R.eD;simp
 |succ n ih=>
  intro W L ks f D l i hm hf hW v I hb;obtain⟨f,rfl⟩:∃f',f=f'+1:=⟨f-1,by lia⟩;rcases za W with rfl|⟨a,w,rfl⟩
  ·refine⟨ks,L,D,l,i,1,Ck N.1,jI ?_,v,I,by rw[rP];rfl⟩;unfold R.eD;simp
  ·refine Classical.byContradiction fun Q=>?_;have hw:=hW w (by simp);have E:∀x∈a,Sm q x/\x≠[]/\x.length<=17:=fun x o=>hW x (by simp[o]);have X:CP (a++[w])=CP a+mw w:=(by rw[CO];simp[CP]);rw[List.concat_eq_append]at hm Q;rw[X]at hm;have w0:=List.length_pos_iff.mpr hw.2.1;have a0:1<=mw w:=Nat.le_max_left _ _;have ct:R.eD R.m_split R.eP (pS q s ks L (a++[w]) D l i)=some (.ok true):=by
    unfold R.eD;have:(0:Int)<(a.length:Int)+1:=(by lia);simp[this]
   have d:∀R':DS->Option Fl,aU (NW 3 4) R' (pS q s ks L (a++[w]) D l i)=R' (pS q s ks L a (VZ w) l i):=fun R'=>(by rw[aP (S':=pS q s ks L a (VZ w) l i)];simp);have a2:=v.len;have T:prodS q (a++[w])=prodS q a*ser q w:=(by rw[kO];show _*(ser q w*1)=_;grind);rcases Fh H j w hw.1 hw.2.2 with⟨S,h2,h3⟩|⟨g,m,S,h2,P,sm,lg,lm,a3,a1,e⟩
   ·by_cases c1:1<w.length
    ·obtain⟨g,c,P,lg,tg,V,eg,rg⟩:=Lr H j w hw.1 hw.2.1 hw.2.2;have pg:Pm q g:=⟨P,by lia,tg,Py lg eg h3⟩;obtain⟨C1,C2⟩:=v.put g 1 (Z5 _) ((L.count g:Int)+1) (by simp);have e1:List.replicate 1 g++L=g::L:=rfl;rw[e1]at C1 C2;obtain⟨b,h,C,A,y,t,k,M,K,J,G⟩:=ih a (g::L) (iF g ks) f (VZ w) (some (.val .non)) (VZ g) (by lia) (by lia) E C1 (fun r hr=>(G4.mp hr).elim (fun e=>e▸pg) (I r)) (by rw[Q3];lia);have gt:=v.get g;refine Q ⟨b,h,C,A,y,c*t,?_,?_,K,J,?_⟩
     ·intro z;rcases zV H j _ _ z with z|z
      ·exact V z
      ·exact k z
     ·rw[lT ct (S2:=pS q s (iF g ks) (g::L) a (VZ w) (some (.val .non)) (VZ g)),M];unfold R.fD;rw[d];have F:(1:Int)<(w.length:Int):=(by lia);have l3:ks.length<100000:=(by lia);simp[S,F,rg,gt,l3,C2]
     ·rw[T,<-jJ];have:prodS q a*prodS q (g::L)=prodS q a*(ser q g*prodS q L):=rfl;rw[this]at G;have:mn c 0*mn t 0*prodS q h=mn c 0*(mn t 0*prodS q h):=(by grind);rw[this,<-G,eg];grind
    ·obtain⟨c,hc⟩:=Gr (u:=0) hw.1 (by lia);have V:c≠0:=by
      rintro rfl;rw[kG]at hc;exact JR hw.1 hw.2.1 hc
     obtain⟨b,h,C,A,y,t,k,M,K,J,G⟩:=ih a L ks f (VZ w) (some (.val .non)) i (by lia) (by lia) E v I (by lia);refine Q ⟨b,h,C,A,y,c*t,?_,?_,K,J,?_⟩
     ·intro z;rcases zV H j _ _ z with z|z
      ·exact V z
      ·exact k z
     ·rw[lT ct (S2:=pS q s ks L a (VZ w) (some (.val .non)) i),M];unfold R.fD;rw[d];have F:¬(1:Int)<(w.length:Int):=(by lia);simp[S,F]
     ·rw[T,<-jJ];have:mn c 0*mn t 0*prodS q h=mn c 0*(mn t 0*prodS q h):=(by grind);rw[this,<-G,hc];grind
   ·have ng:g≠[]:=(by rintro rfl;simp at lg);have nm:m≠[]:=(by rintro rfl;simp at lm);have ml:=mB (zV H j) P sm hw.1 ng nm e;have m2:CP (a++[g,m])+1<=CP a+mw w:=by
     rw[CO];simp only[CP,mw];lia
    obtain⟨b,h,C,A,y,t,k,M,K,J,G⟩:=ih (a++[g,m]) L ks f (VZ w) (some (.val (.tup [aH g,aH m]))) i (by lia) (by lia) (fun x o=>by
     rcases List.mem_append.mp o with o|o
     ·exact E x o
     ·rcases G4.mp o with rfl|o
      ·exact⟨P,ng,by lia⟩
      ·rw[List.mem_singleton.mp o];exact⟨sm,nm,by lia⟩) v I (by lia)
    refine Q ⟨b,h,C,A,y,t,k,?_,K,J,?_⟩
    ·rw[lT ct (S2:=pS q s ks L (a++[g,m]) (VZ w) (some (.val (.tup [aH g,aH m]))) i),M];unfold R.fD;rw[d];have lW:=CN a;have l3:a.length+2<=100000:=(by lia);simp[S,l3]
    ·rw[<-G,T,kO,e];show _=prodS q a*(ser q g*(ser q m*1))*_;grind
theorem Zg(d:bK p)(a:p=q)(f:List Int)(e:Sm q f)(g:f≠[])(i:f.length<=17) :
  ∃ks L,∃c:Fin q,c≠0/\qJ ks L/\(∀r∈L,Pm q r)/\ser q f=mn c 0*prodS q L/\R.eI [aH f,.int q]=some (.ok (.dic (.t ks) (hJ L ks))):=by
 have s:=bS d a;obtain⟨b,t,w,v,u,c,h,m,l,k,j⟩:=Zb d a f (CP [f]) [f] [] [] 200 none none none (Z5 _) (by simp[CP,mw];lia) (fun x n=>by rw[List.mem_singleton.mp n];exact⟨e,g,i⟩) qJ.nil (fun r o=>nomatch o) (by simp[CP,mw];lia);refine⟨b,t,c,h,l,k,?_,?_⟩
 ·rw[<-j];show _=ser q f*1*1;grind
 ·unfold R.eI R.lD;rw[fY,aP (S':=[VZ f,VI q,some (Slot.owd (.t []) []),none,none,none,none]) rfl,aP (S':=pS q f [] [] [f] none none none) (by simp[hJ]),aP m];simp
end
section
variable{S:DS}
@[simp] theorem Zw:Uc f S=mb (f S) fun r=>match fS r with
 |.dic (.t ks) _=>if ks.length<60 then some (.ok ((nU ks).map fun z=>.tup (z.map D.int)))else none
 |_=>none:=rfl
@[simp] theorem Zv:Yh f S=mb (f S) fun r=>match fS r with
 |.lst l=>match GG l with
  |some ks=>if ks.length<=18/\IQ ks=true then some (.ok l)else none
  |none=>none
 |_=>none:=rfl
@[simp] theorem Pr(ks:List (List Int))(l:List D)(k:List Int):oA (.dic (.t ks) l) (aH k)=dJ k ks l:=by unfold oA;simp
end
def fF(L:List (List Int))(k:List Int):D:=.tup [aH k,.int (L.count k:Int)]
noncomputable def iK(l:Int)(L ks:List (List Int)):D:=.tup [.int l,.tup (ks.map (fF L))]
theorem Sk(f:List Int)(z l:Int)(ks L:List (List Int))(c:f≠[])(n:qJ ks L)(m:ks.length<60)(i:atI (f.map D.int) (-1)=some (.int l))(h:R.eI [aH f,.int z]=some (.ok (.dic (.t ks) (hJ L ks)))) :
  R.eQ [aH f,.int z]=some (.ok (iK l L (nU ks))):=by
 have p:¬(f.length:Int)=0:=(by have:=List.length_pos_iff.mpr c;lia);have d:(nU ks).length<=100000:=(by rw[(pK ks).length_eq];lia);have e:=qQ (set:=aQ 0) (t:=fun _=>some (.ok true)) (fe:=dS (aD (aC 0) (aD (aF oA (aC 1) (aC 0)) aL))) (γ:=List Int) aH (fF L) (fun o=>[o,some (Slot.val (.dic (.t ks) (hJ L ks)))]) (nU ks) none
  (fun a o _=>rfl) (fun a _=>rfl) (fun a k=>by have j:a∈ks:=(pK ks).mem_iff.mp k;have g:dJ a ks (hJ L ks)=some (.int (L.count a:Int)):=sW j;simp[g,fF])
 have r:aU (bN 2 (aR 2 R.eI (aD (aC 0) (aD (aC 1) aL))))
  (aU (bN 3 (mP (Uc (aC 2))))
  (cB (dS (aD (aF bM (aC 0) (cY mH (dC (.int 1)))) (aD (cY qY (mP (gE 1 [2] (iQ (aC 3)) (aQ 0) (fun _=>some (.ok true)) (dS (aD (aC 0) (aD (aF oA (aC 1) (aC 0)) aL)))))) aL))))) [VZ f,VI z,none,none]=some (.ret (iK l L (nU ks))):=by
  rw[aP (S':=[VZ f,VI z,some (Slot.val (.dic (.t ks) (hJ L ks))),none]) (by simp[h])];rw[aP (S':=[VZ f,VI z,some (Slot.val (.dic (.t ks) (hJ L ks))),some (Slot.val (.lst ((nU ks).map aH)))]) (by simp[m];exact fun _ _=>rfl)];have b:((nU ks).map aH).length<=100000:=(by rw[Y9];exact d);generalize (nU ks).map aH=A at e b;simp[i,b,e,iK]
 unfold R.eQ R.mD;rw[fY,aP (S':=[VZ f,VI z,none,none]) (by simp[c])];simp only[Ec,r,fin]
theorem Lk(z:Int):R.eQ [aH [],.int z]=some (.error 3):=by unfold R.eQ R.mD;simp[bF,fin]
theorem ZC{x y:D}{l:List D}(h:R.eQ [x,y]=some (.ok (.tup l))):R.cJ [x,y]=some (.ok (.tup l)):=by unfold R.cJ R.kH;rw[yP,Hj (d:=.tup l) (by simp[bF,h])];simp[bF]
theorem SH{x y:D}(h:R.eQ [x,y]=some (.error 3)):R.cJ [x,y]=some (.ok .non):=by unfold R.cJ R.kH;rw[yP,Hk (k:=3) (d:=.non) (by simp[bF,h]) (by rfl)];rfl
section
variable[NeZero q]
theorem XX{l m:List (List Int)}(h:l.Perm m):iC l=iC m:=by
 induction h with
 |nil=>rfl|cons x _ c=>simp[iC,c]|swap x y l=>simp[iC];lia|trans _ _ a b=>exact a.trans b
structure Mw(q:Nat)[NeZero q](f:List Int)(ks L:List (List Int)):Prop where
 cnt:qJ ks L
 pm:∀r∈L,Pm q r
 prod:ser q f=mn (ic (co f (f.length-1))) 0*prodS q L
 nz:(ic (co f (f.length-1)):Fin q)≠0
 asc:(ks.map mL).Pairwise fun x y=>pF x y=true
 deg:f.length=iC L+1
 run:R.cJ [aH f,.int q]=some (.ok (iK (co f (f.length-1)) L ks))
theorem GC(f:bK p)(b:p=q):∀{L:List (List Int)},(∀r∈L,Pm q r)->(prodS q L).c (iC L)=1/\Bd (prodS q L) (iC L+1)
 |[],_=>⟨rfl,by show Bd (1:aZ (Fin q)) 1;rw[<-rP];exact Bd.mn 1 0⟩
 |r::L,h=>by
  have c:=h r X7;have a:=GC f b fun x e=>h x (X5 _ e);have g:=c.len;have d:Bd (ser q r) (r.length-1+1):=(cF r).mono (by lia);refine⟨?_,?_⟩
  ·show(ser q r*prodS q L).c ((r.length-1)+iC L)=1;rw[vY d a.2,cM,c.top,a.1,fA];grind
  ·show Bd (ser q r*prodS q L) ((r.length-1)+iC L+1);exact(d.mul a.2).mono (by lia)
theorem Hd(h:bK p)(a:p=q)(f:List Int)(k:Sm q f)(e:f≠[])(o:f.length<=17):∃ks L,Mw q f ks L:=by obtain⟨ks,L,c,l,d,b,i,run⟩:=Zg h a f k e o;have hd:f.length=iC L+1:=LJ h a l (fun m n=>⟨(b m n).sm,(b m n).ne⟩) k i;have u:=d.len;have t:=qO fun r s=>(b r s).len;have j:(ic (co f (f.length-1)):Fin q)=c:=(by have:=V8 (fun g:aZ (Fin q)=>g.c (f.length-1)) i;rw[cU,Z8 (Y3 _),U6,cM,show f.length-1=iC L by lia,(GC h a b).1]at this;rw[show f.length-1=iC L by lia,this];grind);refine⟨nU ks,L,d.perm (pK ks),b,by rw[j];exact i,by rw[j];exact l,TZ d.nd,hd,?_⟩;exact ZC (Sk f q _ ks L e d (by lia) (fQ e) run)
theorem WY(i lo hi:Int):R.bT [.int i,.int lo,.int hi]=some (.ok (.bl (decide (lo<=i)&&decide (i<=hi)))):=by unfold R.bT R.oM;by_cases c:lo<=i<;>by_cases d:i<=hi<;>simp[c,d]
theorem PN(k:List Int)(n:Nat):prodS q (List.replicate (n+1) k)=prodS q (List.replicate n k)*ser q k:=by rw[U1];show ser q k*prodS q (List.replicate n k)=_;grind
theorem Fe(C:bK p)(s:p=q)(j h f c:Option Slot)(k:List Int)(I:Pm q k)(K:k.length<=17)(n:Nat)(a:List Int)(b:aZ (Fin q))(sm:Sm q a)(G:ser q a=b)(D:∀i m,i<=n->Sm q m->ser q m=b*prodS q (List.replicate i k)->m.length<=60)(r:Option Slot) :
  ∃m o,eR (aQ 6) (R.lQ R.bT R.dI R.cQ R.cT) (bY 0 (n:Int)) [j,VI q,h,VZ a,VZ k,f,r,c]=some (.next [j,VI q,h,VZ m,VZ k,f,o,c])/\Sm q m/\ser q m=b*prodS q (List.replicate n k):=by
 have w:=bS C s;obtain⟨L,e,m,v,u,F,x⟩:=dQ (set:=aQ 6) (g:=R.lQ R.bT R.dI R.cQ R.cT) (fun i S=>∃m v,S=[j,VI q,h,VZ m,VZ k,f,v,c]/\Sm q m/\ser q m=b*prodS q (List.replicate i k)) (l:=bY 0 (n:Int)) (S:=[j,VI q,h,VZ a,VZ k,f,r,c])
  ⟨a,r,rfl,sm,by rw[G];show b=b*1;grind⟩ (fun i d S hi ⟨m,v,u,s1,e1⟩=>by obtain⟨rfl,E⟩:=nW hi;subst u;have J:=D i m (by lia) s1 e1;obtain⟨t,A,H,z,y⟩:=BO (q:=q) (by lia) w.2 m k s1.1 (by lia) (by lia);refine⟨_,[j,VI q,h,VZ t,VZ k,f,VI (((0:Int)+(i:Int))),c],rfl,by unfold R.lQ;simp[y],t,_,rfl,A,?_⟩;rw[z,e1,PN];grind)
 rw[gX]at x;subst u;exact⟨m,v,e,F,by simpa using x⟩
end
theorem DU(k:List Int):∀n,iC (List.replicate n k)=n*(k.length-1)
 |0=>by simp[iC]
 |n+1=>by rw[U1,iC,DU k n,z9,GS]
variable{ks:List (List Int)}{j:Nat}
theorem yJ(L:List (List Int))(c:j<ks.length):fG L ks=fG L (ks.take j)++(List.replicate (L.count ks[j]) ks[j]++fG L (ks.drop (j+1))):=by
 have e:ks=ks.take j++ks[j]::ks.drop (j+1):=(by rw[<-O2 c,D5]);have h:∀a b:List (List Int),fG L (a++b)=fG L a++fG L b:=fun a b=>(by simp[fG]);conv=>lhs;rw[e,h]
 rfl
theorem BA(L:List (List Int))(a:j<ks.length):fG L (ks.take (j+1))=fG L (ks.take j)++List.replicate (L.count ks[j]) ks[j]:=by unfold fG;rw[A5,Y1 a,List.flatMap_append];simp only[Option.toList_some,List.flatMap_cons,List.flatMap_nil,Pv]
theorem MP:∀{l:List PK},l.Pairwise (fun x y=>pF x y=true)->IQ l=true
 |[],_=>rfl|[_],_=>rfl
 |x::y::l,h=>by unfold IQ;rw[MP (D2 h),Lb h X7];rfl
def sT(k:List Int):D:=.tup [.int (k.length:Int),aH k]
theorem AX:∀l:List Int,vI (l.map D.int)=some l
 |[]=>rfl
 |i::l=>by show(vI (l.map D.int)).map (i::·)=_;rw[AX l];rfl
theorem GF:∀ks:List (List Int),GG (ks.map sT)=some (ks.map mL)
 |[]=>rfl
 |k::ks=>by show(Im (sT k)).bind (fun x=>(GG (ks.map sT)).map (x::·))=_;have:Im (sT k)=some (mL k):=(by show(vI (k.map D.int)).map ((k.length:Int),·)=_;rw[AX];rfl);rw[this,GF ks];rfl
theorem HV:∀ks:List (List Int),nI (ks.map sT) (ks.map sT)=true
 |[]=>rfl
 |k::ks=>by rw[Y4,nI,HV ks];simp[sT,wG,nI]
theorem XW(ks:List (List Int)):fB (ks.map sT)<=2:=NV fun d hd=>by obtain⟨k,_,rfl⟩:=List.mem_map.mp hd;simp[sT,nJ,fB]
theorem En(ks:List (List Int)):lO (.lst (ks.map sT)) (.lst (ks.map sT))=some (.bl true):=by have:=XW ks;unfold lO;rw[Z8 (by simp[nJ];lia)];simp[wG,HV]
theorem Lh(b a:Option Slot)(m k f:List Int)(n z:Int)(d c:Option Slot)(p:R.dI [aH k,.int z]=some (.ok (.bl true)))(o:R.bT [.int n,.int 1,.int 20]=some (.ok (.bl true)))(nk:k≠[])(l:atI (k.map D.int) (-1)=some (.int 1))(j:R.cQ [aH k,.int z]=some (.ok (.bl true)))
  (e:-1000000000<=n) (h:n<=1000000000) (g:(bY 0 n).length<=100000) (i:eR (aQ 6) (R.lQ R.bT R.dI R.cQ R.cT) (bY 0 n) [b,VI z,a,VZ m,VZ k,VI n,d,none]=some (.next [b,VI z,a,VZ f,VZ k,VI n,c,none])) :
  R.lP R.bT R.dI R.cQ R.cT [b,VI z,a,VZ m,VZ k,VI n,d,none]=some (.next [b,VI z,a,VZ f,VZ k,VI n,c,none]):=by
 unfold R.lP;rw[aP (S':=[b,VI z,a,VZ m,VZ k,VI n,d,none]) (by simp[p,o])];rw[aP (S':=[b,VI z,a,VZ m,VZ k,VI n,d,none]) (by simp[fX,nk,l,j])];rw[yR];have:jK (aD (aC 5) aL) [b,VI z,a,VZ m,VZ k,VI n,d,none]=some (.ok (bY 0 n)):=(by simp[e,h]);rw[this];exact i
theorem Lj(f:List Int)(z A:Int)(L ks:List (List Int))(h g e:Option Slot)(r:R.bT [.int A,.int 1,.int (z-1)]=some (.ok (.bl true)))(q:ks.length<=18)(asc:(ks.map mL).Pairwise fun x y=>pF x y=true)
  (j:eR (gK 2 (bE (aQ 4) (bE (aQ 5) gL))) (R.lP R.bT R.dI R.cQ R.cT) (ks.map (fF L)) [VZ f,VI z,some (Slot.val (iK A L ks)),VZ ([A]),none,none,none,none]=some (.next [VZ f,VI z,some (Slot.val (iK A L ks)),VZ f,h,g,e,none])) :
  R.gA [aH f,.int z,iK A L ks]=some (.ok (.bl true)):=by
 have i:bM (iK A L ks) (.int 0)=some (.int A):=rfl;have c:bM (iK A L ks) (.int 1)=some (.tup (ks.map (fF L))):=rfl;have b:(ks.map (fF L)).length<=100000:=(by rw[Y9];lia);have e1:=iO (set:=aQ 0) (t:=pZ (eW (cY (oY "tuple") (aC 0)))) (fe:=aC 0) (γ:=List Int) (fF L) (fF L) (fun _=>false) (fun o=>[o]) ks none (fun a o _=>rfl) (fun a _=>rfl) (fun a _=>rfl);rw[List.filter_eq_nil_iff.mpr (by simp),R1]at e1;have e2:=rY (set:=gK 2 (bE (aQ 0) (bE (aQ 1) gL))) (t:=fun _=>some (.ok true)) (fe:=dS (aD (cY cZ (aC 0)) (aD (aC 0) aL))) (γ:=List Int) (fF L) sT (fun o m=>[o,m]) (fun k=>((VZ k),(VI (L.count k:Int)))) ks none none
  (fun a o m _=>rfl) (fun a _=>rfl) (fun a _=>by simp[sT])
 have l:gP (wQ (iK A L ks)) "tuple" = true:=WX;have n:cZ (iK A L ks)=some (.int 2):=rfl;have po:=GF ks;have lo:(ks.map mL).length<=18:=(by rw[Y9];exact q);have d:=MP asc;have p:=En ks;unfold R.gA R.yG;generalize iK A L ks=X at i c j l n ⊢;generalize ks.map (fF L)=Y0 at c j b e1 e2;generalize ks.map sT=O0 at e2 po p;generalize ks.map mL=Z0 at po lo d;rw[FO,aP (S':=[VZ f,VI z,some (Slot.val X),none,none,none,none,none]) (by simp[l,n,i,r])];rw[aP (S':=[VZ f,VI z,some (Slot.val X),none,none,none,none,none]) (by simp[c,b,e1,YO])];rw[aP (S':=[VZ f,VI z,some (Slot.val X),VZ ([A]),none,none,none,none]) (by simp[i,aH])];rw[aP (S':=[VZ f,VI z,some (Slot.val X),VZ f,h,g,e,none]) (by rw[yR];have:iQ (aF bM (aC 2) (dC (.int 1))) [VZ f,VI z,some (Slot.val X),VZ ([A]),none,none,none,none]=some (.ok Y0):=(by simp[c]);rw[this];exact j)];rw[aP (S':=[VZ f,VI z,some (Slot.val X),VZ f,h,g,e,some (Slot.val (.lst O0))]) (by simp[c,b,e2])];simp[po,lo,d,p]
section
variable[NeZero q]
theorem Lu(M:bK p)(o:p=q)(f:List Int)(N:Sm q f)(nf:f≠[])(lf:f.length<=17){L:List (List Int)}(F:Mw q f ks L)(W:∀k∈L,k.length<=9)(hw:∀k∈L,∀d,1<=d->d<=(k.length-1) / 2->BS q d=true) :
  R.gA [aH f,.int q,iK (co f (f.length-1)) L ks]=some (.ok (.bl true)):=by
 have a0:=bS M o;have f0:=List.length_pos_iff.mpr nf;have hA:=N.1.getD (show(0:Int)<q by lia) (f.length-1);have I:=N.2.last nf;obtain⟨A,eA⟩:∃A,A=co f (f.length-1):=⟨_,rfl⟩;have b:=F.prod;have D:=F.nz;rw[<-eA]at hA I b D ⊢;have lL:=qO fun r hr=>(F.pm r hr).len;have dg:=F.deg;have lk:=F.cnt.len;have T:=XX F.cnt.flat;have mf:∀{xs:List (List Int)} {x:List Int},(∀y∈xs,y∈L)->x∈fG L xs->x∈L:=fun{xs x} h C=>(by obtain⟨y,c,C⟩:=List.mem_flatMap.mp C;rw[(List.mem_replicate.mp C).2];exact h y c);have mk:∀y∈ks,y∈L:=fun y c=>(F.cnt.mem y).mp c;obtain⟨S',e,m,K,J,t,V,P,e1⟩:=dQ (set:=gK 2 (bE (aQ 4) (bE (aQ 5) gL))) (g:=R.lP R.bT R.dI R.cQ R.cT)
  (fun j S=>∃m K J t,S=[VZ f,VI q,some (Slot.val (iK A L ks)),VZ m,K,J,t,none]/\Sm q m/\ser q m=mn (ic A) 0*prodS q (fG L (ks.take j))) (l:=ks.map (fF L)) (S:=[VZ f,VI q,some (Slot.val (iK A L ks)),VZ ([A]),none,none,none,none])
  ⟨[A],none,none,none,rfl,⟨fun x C=>by rw[List.mem_singleton.mp C];exact hA,by simp[Top,I]⟩,by
   show ser q [A]=mn (ic A) 0*1;rw[pM,bI];grind⟩ (fun j d S hj ⟨m,K,J,t,V,P,e1⟩=>by
   subst V;rw[W8]at hj;obtain⟨k,G,rfl⟩:=Option.map_eq_some_iff.mp hj;obtain⟨H,E⟩:=List.getElem?_eq_some_iff.mp G;have a:k∈L:=mk k (M7 G);have s:=F.pm k a;have ck:1<=L.count k:=List.count_pos_iff.mpr a;have a1:L.count k<=L.length:=List.count_le_length;have fs:=yJ L H;rw[E]at fs;have u:∀i x,i<=L.count k->Sm q x->ser q x=mn (ic A) 0*prodS q (fG L (ks.take j))*prodS q (List.replicate i k)->x.length<=60:=fun i x hi sx ex=>by
    have X:ser q x=mn (ic A) 0*prodS q (fG L (ks.take j)++List.replicate i k):=(by rw[ex,kO];grind);have:=LJ M o D (fun y c=>by
     have w:y∈L:=by
      rcases List.mem_append.mp c with c|c
      ·exact mf (fun z hz=>mk z (K5 hz)) c
      ·rw[(List.mem_replicate.mp c).2];exact a
     exact⟨(F.pm y w).sm,(F.pm y w).ne⟩) sx X
    rw[wH,DU]at this;rw[fs,wH,wH,DU]at T;have:=D1 (k.length-1) hi;lia
   obtain⟨Q,v,r1,r2,r3⟩:=Fe M o (VZ f) (some (Slot.val (iK A L ks))) (VI (L.count k:Int)) none k s (by have:=W k a;lia) (L.count k) m _ P e1 u t;obtain⟨n,en⟩:∃n:Int,n=(L.count k:Int):=⟨_,rfl⟩;have nb:R.bT [.int n,.int 1,.int 20]=some (.ok (.bl true)):=(by rw[WY,decide_eq_true (by lia),decide_eq_true (by lia)];rfl);have ip:=EW M o k s.sm s.len (by have:=W k a;lia) s.np (hw k a);have tp:=fQ s.ne;rw[s.top]at tp;rw[<-en]at r1;refine⟨[VZ f,VI q,some (Slot.val (iK A L ks)),VZ m,VZ k,VI n,t,none],[VZ f,VI q,some (Slot.val (iK A L ks)),VZ Q,VZ k,VI n,v,none],by rw[en];rfl,Lh _ _ m k Q n q t v (sumZ s.sm (W k a)) nb s.ne tp ip (by lia) (by lia) (by rw[en,gX];simp;lia) r1,Q,_,_,_,rfl,r2,?_⟩;rw[r3];have ft:=BA L H;rw[E]at ft;rw[ft,kO];grind)
 rw[Y9,KB]at e1;have em:m=f:=vZ P N (by rw[e1,b,xD F.cnt.flat]);subst em;subst V;exact Lj m q A L ks K J t (by rw[WY,decide_eq_true (by lia),decide_eq_true (by lia)];rfl) (by lia) F.asc e
end
section
variable{S:DS}
@[simp] theorem Uh(i:Nat):NY i f S=eZ (f S) fun r=>match iS (fS r)with
 |some (.dic (.t ks) l)=>some (.next (S.set i (some (.owd (.t ks) l))))|_=>none:=rfl
end
theorem MZ(L:List (List Int)):∀ks:List (List Int),mJ (ks.map (fF L))=some (ks.map fun k=>(k,D.int (L.count k:Int)))
 |[]=>rfl
 |k::ks=>by show(GK (fF L k)).bind (fun p=>(mJ (ks.map (fF L))).map (p::·))=_;have:GK (fF L k)=some (k,D.int (L.count k:Int)):=(by show(FC (aH k)).map (·,D.int (L.count k:Int))=_;rw[Nk];rfl);rw[this,MZ L ks];rfl
theorem XT{L:List (List Int)}(h:qJ ks L)(b:ks.length<=60):iS (.tup (ks.map (fF L)))=some (.dic (.t ks) (hJ L ks)):=by
 have e1:(ks.map fun k=>(k,D.int (L.count k:Int))).map (·.1)=ks:=(by rw[V3];exact List.map_id' ks);have e2:(ks.map fun k=>(k,D.int (L.count k:Int))).map (·.2)=hJ L ks:=(by rw[V3];rfl);have e0:iS (.tup (ks.map (fF L)))=(match mJ (ks.map (fF L))with
  |some (a:List (List Int×D))=>if nodupT (a.map fun x=>x.1)=true/\a.length<=60 then some (D.dic (.t (a.map fun x=>x.1)) (a.map fun x=>x.2))else none
  |none=>none):=rfl
 rw[e0,MZ];simp only;rw[e1,e2,Z8 ⟨h.nodupT,by rw[Y9];exact b⟩]
theorem YI(L ks:List (List Int)):hJ L ks=(uX L ks).map D.int:=by unfold hJ uX;rw[V3];rfl
variable{ms:List (List Int)}
theorem Kt{L M:List (List Int)}(h:qJ ks L)(c:qJ ms M)(p:L.Perm M):EM (.dic (.t ks) (hJ L ks)) (.dic (.t ms) (hJ M ms))=some (.bl true):=by
 obtain⟨b,a⟩:=h.same c p;rw[YI,YI];show(match dX ((uX L ks).map D.int),dX ((uX M ms).map D.int)with
  |some is,some js=>if ks.length=ms.length/\is.length=ks.length/\js.length=ms.length/\pB ms js ks is=true then some (D.bl true)else none
  |_,_=>none)=_
 rw[mG,mG];simp only;rw[Z8 ⟨b,by simp[uX],by simp[uX],a⟩]
end PF
namespace K22
open PySem L2 PF PA
abbrev B1:=R.qE R.eX R.qM R.cJ R.cT R.gA
theorem Sn(o m j i g f e d b:Option Slot)(a M:List (List Int))(k:List Int)(n c:Int)(h:(dJ k a (hJ M a)).getD (.int 0)=.int c)(l:a.length<100000) :
  B1 [o,m,j,i,g,f,e,d,b,some (Slot.owd (.t a) (hJ M a)),VZ k,VI n]=some (.next [o,m,j,i,g,f,e,d,b,some (Slot.owd (.t (iF k a)) (lV k (.int (c+n)) a (hJ M a))),VZ k,VI n]):=by
 unfold B1 R.qE;simp[h,l]
theorem Ln(x w v u t s r q p:Option Slot){y a h i:List (List Int)}(E:qJ y a)(H:qJ h i)(P:a.length+i.length<=1000) :
  ∃b M f c,eR (gK 2 (bE (aQ 10) (bE (aQ 11) gL))) B1 (y.map (fF a)) [x,w,v,u,t,s,r,q,p,some (Slot.owd (.t h) (hJ i h)),none,none]=some (.next [x,w,v,u,t,s,r,q,p,some (Slot.owd (.t b) (hJ M b)),f,c])/\qJ b M/\M.Perm (a++i):=by
 have o:=E.flat;obtain⟨T,e,b,M,f,c,C,I,F⟩:=dQ (set:=gK 2 (bE (aQ 10) (bE (aQ 11) gL))) (g:=B1)
  (fun j S=>∃b M f c,S=[x,w,v,u,t,s,r,q,p,some (Slot.owd (.t b) (hJ M b)),f,c]/\qJ b M/\M.Perm (fG a (y.take j)++i)) (l:=y.map (fF a)) (S:=[x,w,v,u,t,s,r,q,p,some (Slot.owd (.t h) (hJ i h)),none,none])
  ⟨h,i,none,none,rfl,H,by simp[fG]⟩ (fun j d S D ⟨b,M,f,c,C,hC,hp⟩=>by subst C;rw[W8]at D;obtain⟨k,m,rfl⟩:=Option.map_eq_some_iff.mp D;obtain⟨n,A⟩:=List.getElem?_eq_some_iff.mp m;have z:k∈a:=(E.mem k).mp (M7 m);have K:1<=a.count k:=List.count_pos_iff.mpr z;obtain⟨N,L⟩:=hC.put k (a.count k) K ((M.count k:Int)+(a.count k:Int)) rfl;have G:=hp.length_eq;have J:=V8 List.length (yJ a n);rw[W3]at G J;have R:=o.length_eq;have Q:=hC.len;have ft:=BA a n;rw[A]at ft;refine⟨[x,w,v,u,t,s,r,q,p,some (Slot.owd (.t b) (hJ M b)),VZ k,VI (a.count k)],_,rfl,Sn _ _ _ _ _ _ _ _ _ b M k (a.count k:Int) (M.count k:Int) (hC.get k) (by lia),iF k b,List.replicate (a.count k) k++M,_,_,by rw[L],N,?_⟩;rw[ft];refine(y9 _ hp).trans ?_;rw[<-P2];exact zi _ D4)
 rw[Y9,KB]at F;subst C;exact⟨b,M,f,c,e,I,F.trans (zi _ o)⟩
noncomputable abbrev FM:DS->Option Fl:=(aU (bN 5 (aR 2 R.cJ (aD (aC 3) (aD (aC 1) aL))))
  (aU (bN 6 (aR 2 R.cJ (aD (aC 4) (aD (aC 1) aL))))
  (aU (bN 7 (aR 3 R.cT (aD (aC 3) (aD (aC 4) (aD (aC 1) aL)))))
  (aU (bN 8 (aR 2 R.cJ (aD (aC 7) (aD (aC 1) aL))))
  (aU (qB (LN (eW (aF rH (cY pE (aC 5)) (aF lO (aC 3) (dS aL)))) (LN (eW (aF rH (cY pE (aC 6)) (aF lO (aC 4) (dS aL)))) (eW (aF rH (cY pE (aC 8)) (aF lO (aC 7) (dS aL)))))) (cB (dC (.bl false))) dP)
  (aU (qB (LN (EF (eW (aF rH (aC 3) (dS aL))) (pZ (eW (aR 3 R.gA (aD (aC 3) (aD (aC 1) (aD (aC 5) aL))))))) (EF (eW (aF rH (aC 4) (dS aL))) (pZ (eW (aR 3 R.gA (aD (aC 4) (aD (aC 1) (aD (aC 6) aL)))))))) (cB (dC (.bl false))) dP)
  (aU (qB (eW (aF lO (aC 7) (dS aL))) (cB (dC (.bl true))) dP)
  (aU (NY 9 (aF bM (aC 5) (dC (.int 1))))
  (aU (lJ (iQ (aF bM (aC 6) (dC (.int 1)))) (gK 2 (bE (aQ 10) (bE (aQ 11) gL))) B1)
  (cB (qC (aR 3 R.gA (aD (aC 7) (aD (aC 1) (aD (aC 8) aL)))) (aF EM (cY iS (aF bM (aC 8) (dC (.int 1)))) (aC 9)))))))))))))
structure Told(z:Int)(a:List Int)(x:D):Prop where
 run:R.cJ [aH a,.int z]=some (.ok x)
 non:pE x=some (.bl (decide (a=[])))
 good:a≠[]->R.gA [aH a,.int z,x]=some (.ok (.bl true))
theorem LX(ns a b t:List Int)(z:Int)(c:Option Slot)(x y u:D)(g:Told z a x)(f:Told z b y)(k:Told z t u)(ht:R.cT [aH a,aH b,.int z]=some (.ok (aH t)))(l:t=[]) :
  kQ (fin (FM [some (Slot.val ((D.scr ns))),VI z,c,VZ a,VZ b,none,none,none,none,none,none,none]))=some (.ok (.bl true)):=by
 have i:=g.run;have h:=f.run;have j:=k.run;unfold FM;rw[aP (S':=[some (Slot.val ((D.scr ns))),VI z,c,VZ a,VZ b,some (Slot.val x),none,none,none,none,none,none]) (by simp[i])];rw[aP (S':=[some (Slot.val ((D.scr ns))),VI z,c,VZ a,VZ b,some (Slot.val x),some (Slot.val y),none,none,none,none,none]) (by simp[h])];rw[aP (S':=[some (Slot.val ((D.scr ns))),VI z,c,VZ a,VZ b,some (Slot.val x),some (Slot.val y),VZ t,none,none,none,none]) (by simp[ht])];rw[aP (S':=[some (Slot.val ((D.scr ns))),VI z,c,VZ a,VZ b,some (Slot.val x),some (Slot.val y),VZ t,some (Slot.val u),none,none,none]) (by simp[j])];rw[aP (S':=[some (Slot.val ((D.scr ns))),VI z,c,VZ a,VZ b,some (Slot.val x),some (Slot.val y),VZ t,some (Slot.val u),none,none,none]) (by simp[fX,g.non,f.non,k.non])];rw[aP (S':=[some (Slot.val ((D.scr ns))),VI z,c,VZ a,VZ b,some (Slot.val x),some (Slot.val y),VZ t,some (Slot.val u),none,none,none]) (by
  by_cases e:a=[]
  ·by_cases d:b=[]
   ·simp[fX,e,d]
   ·simp[fX,e,d,f.good d]
  ·by_cases d:b=[]
   ·simp[fX,e,d,g.good e]
   ·simp[fX,e,d,g.good e,f.good d])]
 subst l;simp[fX]
theorem Sl(ns a b t:List Int)(z:Int)(c:Option Slot)(v s w:Int)(d e i g h f:List (List Int))(C:Told z a (iK v e d))(A:Told z b (iK s g i))(E:Told z t (iK w f h))(ht:R.cT [aH a,aH b,.int z]=some (.ok (aH t)))(na:a≠[])(J:b≠[])(I:t≠[])
  (F:qJ d e) (cb:qJ i g) (ct:qJ h f) (pm:f.Perm (g++e)) (l1:e.length<=20) (l2:g.length<=20) (l3:f.length<=20) :
  kQ (fin (FM [some (Slot.val ((D.scr ns))),VI z,c,VZ a,VZ b,none,none,none,none,none,none,none]))=some (.ok (.bl true)):=by
 have k:=C.run;have j:=A.run;have l:=E.run;have n:bM (iK v e d) (.int 1)=some (.tup (d.map (fF e))):=rfl;have m:bM (iK s g i) (.int 1)=some (.tup (i.map (fF g))):=rfl;have o:bM (iK w f h) (.int 1)=some (.tup (h.map (fF f))):=rfl;have T:=XT F (by have:=F.len;lia);have S:=XT ct (by have:=ct.len;lia);have nx:=C.non;have G:=A.non;have H:=E.non;have P:=C.good na;have N:=A.good J;have Q:=E.good I;generalize iK v e d=x at k n nx P;generalize iK s g i=y at j m G N;generalize iK w f h=u at l o H Q;obtain⟨K,M,q,p,L,W,r⟩:=Ln (some (Slot.val ((D.scr ns)))) (VI z) c (VZ a) (VZ b) (some (Slot.val x)) (some (Slot.val y)) (VZ t) (some (Slot.val u)) cb F (by lia);have V:=Kt ct W (pm.trans r.symm);generalize d.map (fF e)=X at n T;generalize i.map (fF g)=Y0 at m L;generalize h.map (fF f)=U0 at o S;unfold FM;rw[aP (S':=[some (Slot.val ((D.scr ns))),VI z,c,VZ a,VZ b,some (Slot.val x),none,none,none,none,none,none]) (by simp[k])];rw[aP (S':=[some (Slot.val ((D.scr ns))),VI z,c,VZ a,VZ b,some (Slot.val x),some (Slot.val y),none,none,none,none,none]) (by simp[j])];rw[aP (S':=[some (Slot.val ((D.scr ns))),VI z,c,VZ a,VZ b,some (Slot.val x),some (Slot.val y),VZ t,none,none,none,none]) (by simp[ht])];rw[aP (S':=[some (Slot.val ((D.scr ns))),VI z,c,VZ a,VZ b,some (Slot.val x),some (Slot.val y),VZ t,some (Slot.val u),none,none,none]) (by simp[l])];rw[aP (S':=[some (Slot.val ((D.scr ns))),VI z,c,VZ a,VZ b,some (Slot.val x),some (Slot.val y),VZ t,some (Slot.val u),none,none,none]) (by simp[fX,nx,G,H])];rw[aP (S':=[some (Slot.val ((D.scr ns))),VI z,c,VZ a,VZ b,some (Slot.val x),some (Slot.val y),VZ t,some (Slot.val u),none,none,none]) (by simp[fX,na,J,P,N])];rw[aP (S':=[some (Slot.val ((D.scr ns))),VI z,c,VZ a,VZ b,some (Slot.val x),some (Slot.val y),VZ t,some (Slot.val u),none,none,none]) (by simp[fX,I])];rw[aP (S':=[some (Slot.val ((D.scr ns))),VI z,c,VZ a,VZ b,some (Slot.val x),some (Slot.val y),VZ t,some (Slot.val u),some (Slot.owd (.t d) (hJ e d)),none,none]) (by simp[n,T])];rw[aP (S':=[some (Slot.val ((D.scr ns))),VI z,c,VZ a,VZ b,some (Slot.val x),some (Slot.val y),VZ t,some (Slot.val u),some (Slot.owd (.t K) (hJ M K)),q,p]) (by rw[yR];have:iQ (aF bM (aC 6) (dC (.int 1))) [some (Slot.val ((D.scr ns))),VI z,c,VZ a,VZ b,some (Slot.val x),some (Slot.val y),VZ t,some (Slot.val u),some (Slot.owd (.t d) (hJ e d)),none,none]=some (.ok Y0):=(by simp[m]);rw[this];exact L)];simp[Q,o,S,V]
variable{q:Nat}{p:Int}{ks:List (List Int)}
section
variable[NeZero q]
theorem kY(z:Int):Told z [] .non:=⟨SH (Lk z),rfl,fun h=>absurd rfl h⟩
theorem FK(g:bK p)(a:p=q){f:List Int}(c:Sm q f)(b:f≠[])(e:f.length<=17){L:List (List Int)}(F:Mw q f ks L)(h:∀k∈L,k.length<=9)(hw:∀k∈L,∀d,1<=d->d<=(k.length-1) / 2->BS q d=true):Told q f (iK (co f (f.length-1)) L ks):=
 ⟨F.run,by rw[decide_eq_false b];rfl,fun _=>Lu g a f c b e F h hw⟩
theorem tail(o:bK p)(e:p=q)(a b:List Int)(sa:Sm q a)(G:Sm q b)(c:Nat)(l:c<=9)(la:a.length<=c)(H:b.length<=c)(hw:∀d,1<=d->d<=(c-1) / 2->BS q d=true)(ns:List Int)(w:Option Slot) :
  kQ (fin (FM [some (Slot.val ((D.scr ns))),VI q,w,VZ a,VZ b,none,none,none,none,none,none,none]))=some (.ok (.bl true)):=by
 have I:=bS o e;have nz:=zV o e;obtain⟨t,A,W,y,E⟩:=BO (q:=q) (by lia) I.2 a b sa.1 (by lia) (by lia);have h:∀{f:List Int} {ks L:List (List Int)},Mw q f ks L->f.length<=c->∀k∈L,k.length<=c:=fun{f ks L} F hf k g=>(by have:=DV g;have:=F.deg;have:=(F.pm k g).len;lia);have i:∀{f:List Int},Sm q f->f≠[]->f.length<=c->∃ks L,Mw q f ks L/\Told q f (iK (co f (f.length-1)) L ks):=fun{f} sf nf hf=>(by obtain⟨ks,L,F⟩:=Hd o e f sf nf (by lia);have sm:=h F hf;exact⟨ks,L,F,FK o e sf nf (by lia) F (fun k g=>by have:=sm k g;lia) fun k g d J w=>hw d J (by have:=sm k g;lia)⟩);by_cases na:a=[]
 ·have n:t=[]:=A.nil_of (by rw[y,na,bI];grind);by_cases j:b=[]
  ·subst na j n;exact LX ns [] [] [] q w _ _ _ (kY q) (kY q) (kY q) E rfl
  ·obtain⟨R,P,u,K⟩:=i G j H;subst na n;exact LX ns [] b [] q w _ _ _ (kY q) K (kY q) E rfl
 ·by_cases j:b=[]
  ·have n:t=[]:=A.nil_of (by rw[y,j,bI];grind);obtain⟨S,Q,v,M⟩:=i sa na la;subst j n;exact LX ns a [] [] q w _ _ _ M (kY q) (kY q) E rfl
  ·obtain⟨S,Q,v,M⟩:=i sa na la;obtain⟨R,P,u,K⟩:=i G j H;have n:t≠[]:=by
    rintro rfl;rw[bI]at y;rcases Zu o e (Pl.ser a) (Pl.ser b) y.symm with z|z
    ·exact JR sa na z
    ·exact JR G j z
   have X:=mB nz sa G A na j y;obtain⟨T,N,x⟩:=Hd o e t A n (by lia);have dA:=v.deg;have dB:=u.deg;have dT:=x.deg;have bd:∀{f:List Int} {ks L:List (List Int)},Mw q f ks L->f.length<=17->∀m∈L,Pm q m/\m.length<=50:=fun{f ks L} F hf m l=>⟨F.pm m l,by have:=DV l;have:=F.deg;lia⟩;have pm:N.Perm (P++Q):=by
    refine uf o e (a:=ic (co t (t.length-1))) (b:=ic (co a (a.length-1))*ic (co b (b.length-1))) (bd x (by lia)) (fun m l=>?_) x.nz (fun z=>?_) ?_
    ·rcases List.mem_append.mp l with l|l
     ·exact bd u (by lia) m l
     ·exact bd v (by lia) m l
    ·rcases nz _ _ z with z|z
     ·exact v.nz z
     ·exact u.nz z
    ·rw[<-x.prod,y,v.prod,u.prod,kO,<-jJ];grind
   have s:∀k∈N,k.length<=c:=fun k g=>by
    rcases List.mem_append.mp (pm.mem_iff.mp g)with g|g
    ·exact h u H k g
    ·exact h v la k g
   have V:=FK o e A n (by lia) x (fun k g=>by have:=s k g;lia) fun k g d J w=>hw d J (by have:=s k g;lia);have l1:=qO fun r C=>(v.pm r C).len;have l2:=qO fun r C=>(u.pm r C).len;have l3:=qO fun r C=>(x.pm r C).len;exact Sl ns a b t q w _ _ _ S Q R P T N M K V E na j n v.cnt u.cnt x.cnt pm (by lia) (by lia) (by lia)
end
theorem QI:∀ns:List Int,ns.length<=63->R.qL [.scr ns]=some (.ok (.bl true)):=fun ns _=>by
 obtain⟨p,h,v⟩:=Ar ns;have e1:R.eX [.scr ns,.int 1]=some (.ok (.int (fR ns 1))):=wK ns 1 (by decide) 1 rfl;have e2:R.eX [.scr ns,.int 2]=some (.ok (.int (fR ns 2))):=wK ns 2 (by decide) 2 rfl;have r:R.eX [.scr ns,.int 3]=some (.ok (.int (fR ns 3))):=wK ns 3 (by decide) 3 rfl;obtain⟨e,f,u,n⟩:∃e:Nat,(aF cK (dC (.int 5)) (aF bU (dC (.int 4)) (cY BU (qC (aF lO (aC 1) (dC (.int 2))) (aF lO (aF (eO dF fun i j=>i%j) (aR 2 R.eX (aD (aC 0) (aD (dC (.int 3)) aL))) (dC (.int 4))) (dC (.int 1))))))) [some (Slot.val ((D.scr ns))),VI p,none,none,none,none,none,none,none,none,none,none]=some (.ok (.ok (.int (e:Int))))/\e<=9/\∀q:Nat,p=q->∀d,1<=d->d<=(e-1) / 2->BS q d=true:=by
  by_cases c:p=2/\fR ns 3%4=1
  ·refine⟨9,?_,by decide,fun q t d k y=>?_⟩
   ·have ok:dR 4 1=true:=(by decide);simp[c.1,c.2,r,ok]
   ·obtain rfl:q=2:=(by lia);exact Fu d k (by lia)
  ·refine⟨5,?_,by decide,fun q t d k y=>?_⟩
   ·have ok:dR 4 0=true:=(by decide);by_cases o:p=2
    ·have A:¬fR ns 3%4=1:=fun z=>c ⟨o,z⟩;simp[o,A,r,ok]
    ·simp[o,ok]
   ·rcases h with rfl|rfl|rfl
    ·obtain rfl:q=2:=(by lia);exact Fu d k (by lia)
    ·obtain rfl:q=3:=(by lia);exact My d k (by lia)
    ·obtain rfl:q=5:=(by lia);exact Mx d k (by lia)
 obtain⟨q,g,F,E⟩:=RP h;haveI:NeZero q:=⟨by lia⟩;have hw:=n q g;subst g;obtain⟨a,sa,la,x⟩:=Hc h (fR ns 1) e (GU ns 1).1 (by lia) (by lia);obtain⟨b,s,C,w⟩:=Hc h (fR ns 2) e (GU ns 2).1 (by lia) (by lia);have m:a.length<=e:=(by have:=V9 (fR ns 1) (show(0:Int)<(e:Int)+1 by lia);lia);have l:b.length<=e:=(by have:=V9 (fR ns 2) (show(0:Int)<(e:Int)+1 by lia);lia);unfold R.qL R.uM;rw[TX,aP (S':=[some (Slot.val ((D.scr ns))),VI q,none,none,none,none,none,none,none,none,none,none]) (by rw[YA,v (by rfl)];rfl)];rw[aP (S':=[some (Slot.val ((D.scr ns))),VI q,VI e,none,none,none,none,none,none,none,none,none]) (by rw[YA,f];rfl)];rw[aP (S':=[some (Slot.val ((D.scr ns))),VI q,VI e,VZ a,none,none,none,none,none,none,none,none]) (by simp[e1,x])];rw[aP (S':=[some (Slot.val ((D.scr ns))),VI q,VI e,VZ a,VZ b,none,none,none,none,none,none,none]) (by simp[e2,w])];exact tail h rfl a b sa s e u m l hw ns _
end K22
namespace K22
open PySem L2 PF
structure Tx(K:Z4)(mg:Str->Option Value):Prop where
 b_ValueError:mg "ValueError" = none
 b_bool:mg "bool" = none
 b_dict:mg "dict" = none
 b_enumerate:mg "enumerate" = none
 b_int:mg "int" = none
 b_isinstance:mg "isinstance" = none
 b_len:mg "len" = none
 b_list:mg "list" = none
 b_max:mg "max" = none
 b_range:mg "range" = none
 b_reversed:mg "reversed" = none
 b_set:mg "set" = none
 b_sorted:mg "sorted" = none
 b_tuple:mg "tuple" = none
 b_zip:mg "zip" = none
 kd:Mv K
 bi:∃bm o,mg "__builtins__" = some (.ref bm)/\bm≠builtinsNs/\bm≠X3/\K.lookup bm=some o/\o.cls=.type "module" /\o.dict=some builtinsNs/\o.data=.plain
 g_ONE:∃t,mg "ONE" = some (.ref t)/\∃(o:Obj) (its:Array Value) (n:Nat),K.lookup t=some o/\o.cls=.type "tuple" /\o.data=.seq its n/\its.size<=sizeLine/\bD (([1]:List Int).map V.int) its.toList
variable{w:World}{h:Heap}{mg:Str->Option Value}{x:Str}{ps:List Str}{m:List D->M D}{n:Nat}{CX:ZN}
section
variable{l:PySem.W.OpenLaw}{base:Heap}(X:(KH w.params).In h)(G:h.Ns X3 mg)
include X G
theorem Tt:Tx (KH w.params) mg:=⟨U9 X G (by kernel_rfl),U9 X G (by kernel_rfl),U9 X G (by kernel_rfl),U9 X G (by kernel_rfl),U9 X G (by kernel_rfl),U9 X G (by kernel_rfl),U9 X G (by kernel_rfl),U9 X G (by kernel_rfl),U9 X G (by kernel_rfl),U9 X G (by kernel_rfl),U9 X G (by kernel_rfl),U9 X G (by kernel_rfl),U9 X G (by kernel_rfl),U9 X G (by kernel_rfl),U9 X G (by kernel_rfl),Ju (by kernel_rfl),⟨_,_,Q0 X G (show O5 (KH w.params) X3 "__builtins__" = some (some (.ref 4))from by kernel_rfl),by decide,by decide,(show List.lookup 4 (KH w.params)=some ⟨.type "module",some 0,.plain,#[]⟩from by kernel_rfl),rfl,rfl,rfl⟩,⟨_,Q0 X G (show O5 (KH w.params) X3 "ONE" = some (some (.ref 64))from by kernel_rfl),_,_,_,(show List.lookup 64 (KH w.params)=some ⟨.type "tuple",none,.seq #[.int 1 257] 0,#[]⟩from by kernel_rfl),rfl,rfl,by show 1<=sizeLine;decide,.cons ⟨_,rfl⟩ .nil⟩⟩
theorem Tf:Su (KH w.params) mg 24 37 49 61:=⟨by kernel_rfl,by kernel_rfl,by kernel_rfl,by kernel_rfl,Q0 X G (by kernel_rfl),Q0 X G (by kernel_rfl),Q0 X G (by kernel_rfl),Q0 X G (by kernel_rfl),(Tt X G).b_ValueError,(Tt X G).b_isinstance,(Tt X G).b_int⟩
omit X G
theorem k3:ZA (KH w.params) 61:=⟨by kernel_rfl,by kernel_rfl,by kernel_rfl,by kernel_rfl,by kernel_rfl,by kernel_rfl,by kernel_rfl,by kernel_rfl,by kernel_rfl,by kernel_rfl⟩
theorem KI:Uy (KH w.params) 24 37 49 61:=Uy.of (by kernel_rfl) (by kernel_rfl) (by kernel_rfl) (by kernel_rfl) (by kernel_rfl) (by kernel_rfl) (by kernel_rfl) (by kernel_rfl) (by kernel_rfl) (by kernel_rfl) (by kernel_rfl)
include X G
theorem fm{k:Nat}(i:Nat)(f c:Addr)(pm:Value)(ok:∀fd,fd.code=.ref c->Tx (KH w.params) mg->kB (KH w.params) x x (top i) f fd->uZ l.prog w (KH w.params) mg base CX k f fd ps (SS (KH w.params) ps.length m))(a:O5 (KH w.params) X3 x=some (some (.ref f)):=by kernel_rfl)(h:List.lookup f (KH w.params)=some (fO x i pm c):=by kernel_rfl)(q:H0 (KH w.params) (.ref c) x=true:=by kernel_rfl)(kp:N3 (KH w.params) (.ref f)=true:=by kernel_rfl)(j:ps.length=n:=by rfl) (p:∀(kV doc pm:Value) (an:Option Addr) (g ct:Value) (e:List Value),e.length=ps.length->bindArgs (P8 x x (mE (top i)) (gS (top i)) (aO (top i)) .none kV doc pm an g ct) ⟨e,[]⟩=pure (ps.zip e):=by
   intro _ _ _ _ _ _ e o;rcases e with _|⟨a,_|⟨b,_|⟨c,_|⟨d,e⟩⟩⟩⟩<;>first|(cases o;done)|rfl):nQ l.prog w (KH w.params) mg base CX k x n m:=by
 subst j;have F:=XE (st:=top i) h q kp;exact kB.fnd (Q0 X G a) kp (F.binds p) (ok _ rfl (Tt X G) F)
omit X G in
theorem Vu:aY ["numbers","count"] ["numbers"] (aO (top 7)):=dH (by kernel_rfl)
theorem kX:nQ l.prog w (KH w.params) mg base kM 1 "trimmed" 1 R.bH:=fm X G 7 71 70 wC fun _ hc T F=>kB.d (g:=R.uK) F Vu (fun b A outer s H E a B O=>(aE (bA 1 Vu.nd (bV rfl T.b_len (aA 0)))
  (aE (nB 200 W4 (vU (yL (vK (aA 1) aG) (tJ (nA a.units (bP (aA 0) (iM (aA 1) aG) (fun _ _=>rfl)) aG)))) (aK (bA 1 Vu.nd (iM (aA 1) aG))))
  (aK (bB (jB rfl T.b_tuple (HZ (aA 0) NS (NR (aA 1))))))))) (bW rfl)
omit X G in
theorem sc8:aY ["places"] ["places"] (aO (top 8)):=dH (by kernel_rfl)
theorem tY:nQ l.prog w (KH w.params) mg base kM 1 "lone_power" 1 R.cP:=fm X G 8 78 77 wC fun _ hc T F=>kB.d (g:=R.oK) F sc8 (fun a A outer s H E b B O=>(aK (bB (cN (dW (cR (aB aG aI)) (aA 0)) (tL (l:=[1]) rfl T.g_ONE))))) (bW rfl)
omit X G in
theorem sc9:aY ["one","number","size"] ["one","number","size"] (aO (top 9)):=dH (by kernel_rfl)
theorem jU:nQ l.prog w (KH w.params) mg base kM 2 "scaled" 3 R.bL:=fm X G 9 83 82 wC fun _ hc T F=>kB.d (g:=R.yB R.bH) F sc9 (fun b A outer s H E a B O=>(aK (bB (bC (kX X G) a rfl aS (aB (eJ (fV 1 [2,1] ["part"] ["size","number"] rfl rfl (by decide) (by decide) (eT (by rfl)) rfl ⟨rfl,.inl rfl,by decide,.inl rfl,⟨rfl,.inl rfl,by decide,.inl rfl,trivial⟩⟩ (by decide) (kA (aA 0)) (fun _ _ _ _ _ _=>(dM 0 (show(["part","size","number"]:List Str).Nodup by decide +kernel))) (fun _ _ _ _ _ _=>gD) (fun _ _ _ _ _ _=>(eK (dW (aA 2) (aA 0)) (aA 1))))) aI))))) (bW rfl)
omit X G in
theorem Wd:aY ["number","size"] ["number","size"] (aO (top 10)):=dH (by kernel_rfl)
theorem gW:nQ l.prog w (KH w.params) mg base kM 1 "turned_number" 2 R.aW:=fm X G 10 88 87 wC fun _ hc T F=>kB.d (g:=R.pC) F Wd (fun b A outer s H E a B O=>(aK (bB (bP (eJ (fV 1 [1,0] ["other"] ["size","number"] rfl rfl (by decide) (by decide) (eT (by rfl)) rfl ⟨rfl,.inl rfl,by decide,.inl rfl,⟨rfl,.inl rfl,by decide,.inl rfl,trivial⟩⟩ (by decide) (uT rfl T.b_range (aB aG (aB (aA 1) aI))) (fun _ _ _ _ _ _=>(dM 0 (show(["other","size","number"]:List Str).Nodup by decide +kernel))) (fun _ _ _ _ _ _=>(nF (nA a.units (eK (dW (aA 2) (aA 0)) (aA 1)) aG))) (fun _ _ _ _ _ _=>(aA 0)))) aG (fun _ _=>rfl))))) (bW rfl)
omit X G in
theorem Wc:aY ["one","size"] ["one","size"] (aO (top 11)):=dH (by kernel_rfl)
theorem EY:nQ l.prog w (KH w.params) mg base kM 3 "made_whole" 2 R.eP:=fm X G 11 95 94 wC fun _ hc T F=>kB.d (g:=R.oJ R.bL R.aW) F Wc (fun b A outer s H E a B O=>(aK (bB (bC (jU X G) a rfl aS (aB (aA 0) (aB (bC (gW X G) a rfl aS (aB (bP (aA 0) (iN aG) (fun _ _=>rfl)) (aB (aA 1) aI))) (aB (aA 1) aI))))))) (bW rfl)
omit X G in
theorem PD:aY ["one","other","size","numbers","power","number"] ["one","other","size"] (aO (top 12)):=dH (by kernel_rfl)
theorem Lw:nQ l.prog w (KH w.params) mg base kM 2 "plus" 3 R.xS:=fm X G 12 102 101 wC fun _ hc T F=>kB.d (g:=R.LB R.bH) F PD (fun b A outer s H E a B O=>(aE (pV 3 PD.nd (DQ (eJ (gZ (aB aG aI))) (Kl rfl T.b_max (bV rfl T.b_len (aA 0)) (bV rfl T.b_len (aA 1)))))
  (aE (gC W4 rfl (kJ rfl T.b_enumerate (aA 0)) (fun _=>(jA rfl (bO 4 PD.nd (bO 5 PD.nd gI)))) (fun _=>(aK (lI 3 (aA 4) (aA 5)))))
  (aE (gC W4 rfl (kJ rfl T.b_enumerate (aA 1)) (fun _=>(jA rfl (bO 4 PD.nd (bO 5 PD.nd gI)))) (fun _=>(aK (lI 3 (aA 4) (eK (cN (bP (aA 3) (aA 4) (fun _ _=>rfl)) (aA 5)) (aA 2))))))
  (aK (bB (bC (kX X G) a rfl aS (aB (aA 3) aI)))))))) (bW rfl)
omit X G in
theorem Wb:aY ["one","other","size"] ["one","other","size"] (aO (top 13)):=dH (by kernel_rfl)
theorem tX:nQ l.prog w (KH w.params) mg base kM 3 "minus" 3 R.cW:=fm X G 13 109 108 wC fun _ hc T F=>kB.d (g:=R.DL R.xS R.bL) F Wb (fun b A outer s H E a B O=>(aK (bB (bC (Lw X G) a rfl aS (aB (aA 0) (aB (bC (jU X G) a rfl aS (aB (aA 1) (aB (iM (aA 2) aG) (aB (aA 2) aI)))) (aB (aA 2) aI))))))) (bW rfl)
omit X G in
theorem PB:aY ["one","other","size","numbers","power","number","place","factor"] ["one","other","size"] (aO (top 14)):=dH (by kernel_rfl)
theorem Fo:nQ l.prog w (KH w.params) mg base kM 2 "times" 3 R.sV:=fm X G 14 116 115 wC fun _ hc T F=>kB.d (g:=R.DD R.bH) F PB (fun b A outer s H E a B O=>(aE (pV 3 PB.nd (DQ (eJ (gZ (aB aG aI))) (cN (bV rfl T.b_len (aA 0)) (bV rfl T.b_len (aA 1)))))
  (aE (gC W4 rfl (kJ rfl T.b_enumerate (aA 0)) (fun _=>(jA rfl (bO 4 PB.nd (bO 5 PB.nd gI)))) (fun _=>(aK (gC W4 rfl (kJ rfl T.b_enumerate (aA 1)) (fun _=>(jA rfl (bO 6 PB.nd (bO 7 PB.nd gI)))) (fun _=>(aK (lI 3 (cN (aA 4) (aA 6)) (eK (cN (bP (aA 3) (cN (aA 4) (aA 6)) (fun _ _=>rfl)) (dW (aA 5) (aA 7))) (aA 2)))))))))
  (aK (bB (bC (kX X G) a rfl aS (aB (aA 3) aI))))))) (bW rfl)
omit X G in
theorem FQ:aY ["one","other","size","turned","left","many","shift","often","place","number"] ["one","other","size"] (aO (top 15)):=dH (by kernel_rfl)
theorem zH:nQ l.prog w (KH w.params) mg base kM 2 "parted" 3 R.iJ:=fm X G 15 123 122 wC fun _ hc T F=>kB.d (g:=R.yC R.aW R.bH) F FQ (fun b A outer s H E a B O=>(aE (fU (nA a.units (bV rfl T.b_len (aA 1)) aG) (aK XO) cX)
  (aE (bA 3 FQ.nd (bC (gW X G) a rfl aS (aB (bP (aA 1) (iN aG) (fun _ _=>rfl)) (aB (aA 2) aI))))
  (aE (pV 4 FQ.nd (tK rfl T.b_list (aA 0)))
  (aE (pV 5 FQ.nd (DQ (eJ (gZ (aB aG aI))) (bV rfl T.b_len (aA 0))))
  (aE (gC W4 rfl (RK rfl T.b_range (aB (iM (bV rfl T.b_len (aA 0)) (bV rfl T.b_len (aA 1))) (aB (iN aG) (aB (iN aG) aI)))) (fun _=>(dM 6 FQ.nd)) (fun _=>(aE (bA 7 FQ.nd (eK (dW (bP (aA 4) (iM (cN (aA 6) (bV rfl T.b_len (aA 1))) aG) (fun _ _=>rfl)) (aA 3)) (aA 2)))
  (aE (lI 5 (aA 6) (aA 7))
  (aK (gC W4 rfl (kJ rfl T.b_enumerate (aA 1)) (fun _=>(jA rfl (bO 8 FQ.nd (bO 9 FQ.nd gI)))) (fun _=>(aK (lI 4 (cN (aA 6) (aA 8)) (eK (iM (bP (aA 4) (cN (aA 6) (aA 8)) (fun _ _=>rfl)) (dW (aA 7) (aA 9))) (aA 2)))))))))))
  (aK (bB (cR (aB (bC (kX X G) a rfl aS (aB (aA 5) aI)) (aB (bC (kX X G) a rfl aS (aB (aA 4) aI)) aI))))))))))) (bW rfl)
omit X G in
theorem Wa:aY ["one","other","size"] ["one","other","size"] (aO (top 16)):=dH (by kernel_rfl)
theorem SM:nQ l.prog w (KH w.params) mg base kM 3 "rest_by" 3 R.fN:=fm X G 16 130 129 wC fun _ hc T F=>kB.d (g:=R.uL R.iJ) F Wa (fun b A outer s H E a B O=>(aK (bB (bP (bC (zH X G) a rfl aS (aB (aA 0) (aB (aA 1) (aB (aA 2) aI)))) aG (fun _ _=>rfl))))) (bW rfl)
omit X G in
theorem Az:aY ["one","number","size","reached","part"] ["one","number","size"] (aO (top 17)):=dH (by kernel_rfl)
theorem Fm:nQ l.prog w (KH w.params) mg base kM 1 "value" 3 R.oF:=fm X G 17 137 136 wC fun _ hc T F=>kB.d (g:=R.DC) F Az (fun a A outer s H E b B O=>(aE (bA 3 Az.nd aG)
  (aE (gC W4 rfl (Kh rfl T.b_reversed (aA 0)) (fun _=>(dM 4 Az.nd)) (fun _=>(aK (bA 3 Az.nd (eK (cN (dW (aA 3) (aA 1)) (aA 4)) (aA 2))))))
  (aK (bB (aA 3)))))) (bW rfl)
omit X G in
theorem Vz:aY ["one","size"] ["one","size"] (aO (top 18)):=dH (by kernel_rfl)
theorem Fs:nQ l.prog w (KH w.params) mg base kM 2 "roots" 2 R.qK:=fm X G 18 142 141 wC fun _ hc T F=>kB.d (g:=R.DJ R.oF) F Vz (fun b A outer s H E a B O=>(aK (bB (jB rfl T.b_tuple (eJ (fV 1 [0,1] ["number"] ["one","size"] rfl rfl (by decide) (by decide) (eT (by rfl)) rfl ⟨rfl,.inl rfl,by decide,.inl rfl,⟨rfl,.inl rfl,by decide,.inl rfl,trivial⟩⟩ (by decide) (iZ rfl T.b_range (aB (aA 1) aI)) (fun _ _ _ _ _ _=>(dM 0 (show(["number","one","size"]:List Str).Nodup by decide +kernel))) (fun _ _ _ _ _ _=>(nF (nA a.units (bC (Fm X G) a rfl aS (aB (aA 1) (aB (aA 0) (aB (aA 2) aI)))) aG))) (fun _ _ _ _ _ _=>(aA 0)))))))) (bW rfl)
omit X G in
theorem Ol:aY ["row","below","size","many"] ["row","below","size"] (aO (top 20)):=dH (by kernel_rfl)
theorem MA:nQ l.prog w (KH w.params) mg base kM 4 "row_less" 3 R.gY:=fm X G 20 147 146 Tv fun _ hc T F=>kB.d (g:=R.rS R.iJ R.cW R.sV) F Ol (fun b A outer s H E a B O=>(aE (bA 3 Ol.nd (bP (bC (zH X G) a rfl aS (aB (bP (aA 0) aG (fun _ _=>rfl)) (aB (bP (aA 1) aG (fun _ _=>rfl)) (aB (aA 2) aI)))) aG (fun _ _=>rfl)))
  (aK (bB (eJ (fV 2 [2,3] ["part","lower"] ["size","many"] rfl rfl (by decide) (by decide) (eT (by rfl)) rfl ⟨rfl,.inl rfl,by decide,.inl rfl,⟨rfl,.inl rfl,by decide,.inl rfl,trivial⟩⟩ (by decide) (Kg rfl T.b_zip (aB (aA 0) (aB (aA 1) aI))) (fun _ _ _ _ _ _=>(jA rfl (bO 0 (show(["part","lower","size","many"]:List Str).Nodup by decide +kernel) (bO 1 (show(["part","lower","size","many"]:List Str).Nodup by decide +kernel) gI)))) (fun _ _ _ _ _ _=>gD) (fun _ _ _ _ _ _=>(bC (tX X G) a rfl aS (aB (aA 0) (aB (bC (Fo X G) a rfl aS (aB (aA 3) (aB (aA 1) (aB (aA 2) aI)))) (aB (aA 2) aI))))))))))) (bW rfl)
omit X G in
theorem JW:aY ["one","other","size","row","below","following","turned"] ["one","other","size"] (aO (top 21)):=dH (by kernel_rfl)
theorem JC:nQ l.prog w (KH w.params) mg base kM 5 "common" 3 R.eY:=fm X G 21 152 151 Tv fun _ hc T F=>kB.d (g:=R.tH R.gY R.aW R.bL) F JW (fun b A outer s H E a B O=>(aE (bA 3 JW.nd (eJ (gZ (aB (aA 0) (aB (tL (l:=[1]) rfl T.g_ONE) (aB (cR aI) aI))))))
  (aE (bA 4 JW.nd (eJ (gZ (aB (aA 1) (aB (cR aI) (aB (tL (l:=[1]) rfl T.g_ONE) aI))))))
  (aE (nB 200 W4 (vK (bV rfl T.b_len (bP (aA 4) aG (fun _ _=>rfl))) aG) (aE (bA 5 JW.nd (bC (MA X G) a rfl aS (aB (aA 3) (aB (aA 4) (aB (aA 2) aI)))))
  (aE (bA 3 JW.nd (aA 4))
  (aK (bA 4 JW.nd (aA 5))))))
  (aE (fU (nA a.units (bV rfl T.b_len (bP (aA 3) aG (fun _ _=>rfl))) aG) (aK (bB (cR (aB (cR aI) (aB (cR aI) (aB (cR aI) aI)))))) cX)
  (aE (bA 6 JW.nd (bC (gW X G) a rfl aS (aB (bP (bP (aA 3) aG (fun _ _=>rfl)) (iN aG) (fun _ _=>rfl)) (aB (aA 2) aI))))
  (aK (bB (jB rfl T.b_tuple (eJ (fV 1 [6,2] ["part"] ["turned","size"] rfl rfl (by decide) (by decide) (eT (by rfl)) rfl ⟨rfl,.inl rfl,by decide,.inl rfl,⟨rfl,.inl rfl,by decide,.inl rfl,trivial⟩⟩ (by decide) (kA (aA 3)) (fun _ _ _ _ _ _=>(dM 0 (show(["part","turned","size"]:List Str).Nodup by decide +kernel))) (fun _ _ _ _ _ _=>gD) (fun _ _ _ _ _ _=>(bC (jU X G) a rfl aS (aB (aA 0) (aB (aA 1) (aB (aA 2) aI)))))))))))))))) (bW rfl)
omit X G in
theorem Oj:aY ["total","size","numbers"] ["total","size"] (aO (top 23)):=dH (by kernel_rfl)
theorem Fq:nQ l.prog w (KH w.params) mg base kM 2 "slope" 2 R.mC:=fm X G 23 157 156 JD fun _ hc T F=>kB.d (g:=R.DH R.bH) F Oj (fun b A outer s H E a B O=>(aE (rW 2 Oj.nd 2 [1] ["power","number"] ["size"] rfl rfl (by decide) (by decide) (eT (by rfl)) rfl ⟨rfl,.inl rfl,by decide,.inl rfl,trivial⟩ (by decide) (kJ rfl T.b_enumerate (aA 0)) (fun _ _ _ _ _ _=>(jA rfl (bO 0 (show(["power","number","size"]:List Str).Nodup by decide +kernel) (bO 1 (show(["power","number","size"]:List Str).Nodup by decide +kernel) gI)))) (fun _ _ _ _ _ _=>gD) (fun _ _ _ _ _ _=>(eK (dW (aA 0) (aA 1)) (aA 2))))
  (aK (bB (bC (kX X G) a rfl aS (aB (HZ (aA 2) (NR aG) NS) aI)))))) (bW rfl)
omit X G in
theorem JV:aY ["row","kept","size","left","making","above","often"] ["row","kept","size"] (aO (top 24)):=dH (by kernel_rfl)
theorem SO:nQ l.prog w (KH w.params) mg base kM 4 "cleared" 3 R.fP:=fm X G 24 164 163 JD fun _ hc T F=>kB.d (g:=R.uQ R.cW R.bL) F JV (fun b A outer s H E a B O=>(aE (bA 3 JV.nd (bP (aA 0) aG (fun _ _=>rfl)))
  (aE (bA 4 JV.nd (bP (aA 0) aG (fun _ _=>rfl)))
  (aE (nB 200 W4 (vU (yL (vK (bV rfl T.b_len (aA 3)) aG) (tJ (Kb a.units (bV rfl T.b_len (aA 3)) (aA 1))))) (aE (bA 5 JV.nd (Dy a.units (aA 1) (bV rfl T.b_len (aA 3))))
  (aE (bA 6 JV.nd (bP (aA 3) (iN aG) (fun _ _=>rfl)))
  (aE (bA 3 JV.nd (bC (tX X G) a rfl aS (aB (aA 3) (aB (bC (jU X G) a rfl aS (aB (bP (aA 5) aG (fun _ _=>rfl)) (aB (aA 6) (aB (aA 2) aI)))) (aB (aA 2) aI)))))
  (aK (bA 4 JV.nd (bC (tX X G) a rfl aS (aB (aA 4) (aB (bC (jU X G) a rfl aS (aB (bP (aA 5) aG (fun _ _=>rfl)) (aB (aA 6) (aB (aA 2) aI)))) (aB (aA 2) aI))))))))))
  (aK (bB (cR (aB (aA 3) (aB (aA 4) aI))))))))) (bW rfl)
omit X G in
theorem JU:aY ["total","size","kept","place","start","moved","row","turned"] ["total","size"] (aO (top 25)):=dH (by kernel_rfl)
theorem EX:nQ l.prog w (KH w.params) mg base kM 5 "steady_sum" 2 R.fI:=fm X G 25 171 170 JD fun _ hc T F=>kB.d (g:=R.oI R.cP R.fN R.fP R.cW R.aW R.bL) F JU (fun b A outer s H E a B O=>(aE (Ke 2 JU.nd)
  (aE (gC W4 rfl (uT rfl T.b_range (aB aG (aB (iM (bV rfl T.b_len (aA 0)) aG) aI))) (fun _=>(dM 3 JU.nd)) (fun _=>(aE (bA 4 JU.nd (bC (tY X G) a rfl aS (aB (aA 3) aI)))
  (aE (bA 5 JU.nd (bC (SM X G) a rfl aS (aB (bC (tY X G) a rfl aS (aB (dW (aA 3) (aA 1)) aI)) (aB (aA 0) (aB (aA 1) aI)))))
  (aE (bA 6 JU.nd (bC (SO X G) a rfl aS (aB (cR (aB (bC (tX X G) a rfl aS (aB (aA 5) (aB (aA 4) (aB (aA 1) aI)))) (aB (aA 4) aI))) (aB (aA 2) (aB (aA 1) aI)))))
  (aE (fU (nA a.units (bV rfl T.b_len (bP (aA 6) aG (fun _ _=>rfl))) aG) (aK (bB (bP (aA 6) aG (fun _ _=>rfl)))) cX)
  (aE (bA 7 JU.nd (bC (gW X G) a rfl aS (aB (bP (bP (aA 6) aG (fun _ _=>rfl)) (iN aG) (fun _ _=>rfl)) (aB (aA 1) aI))))
  (aK (Dt 2 a.units (bV rfl T.b_len (bP (aA 6) aG (fun _ _=>rfl))) (cR (aB (bC (jU X G) a rfl aS (aB (bP (aA 6) aG (fun _ _=>rfl)) (aB (aA 7) (aB (aA 1) aI)))) (aB (bC (jU X G) a rfl aS (aB (bP (aA 6) aG (fun _ _=>rfl)) (aB (aA 7) (aB (aA 1) aI)))) aI))))))))))))
  (aK (bB DX))))) (bW rfl)
omit X G in
theorem Hy:aY ["total","size","steady","less"] ["total","size"] (aO (top 26)):=dH (by kernel_rfl)
theorem vA:nQ l.prog w (KH w.params) mg base kM 6 "part_by_steady" 2 R.cI:=fm X G 26 176 175 JD fun _ hc T F=>kB.d (g:=R.gH R.fI R.cW R.bL R.eY) F Hy (fun b A outer s H E a B O=>(aE (bA 2 Hy.nd (bC (EX X G) a rfl aS (aB (aA 0) (aB (aA 1) aI))))
  (aE (fU (XM (aA 2)) (aK (bB DX)) cX)
  (aE (rW 3 Hy.nd 1 [2,1] ["number"] ["steady","size"] rfl rfl (by decide) (by decide) (eT (by rfl)) rfl ⟨rfl,.inl rfl,by decide,.inl rfl,⟨rfl,.inl rfl,by decide,.inl rfl,trivial⟩⟩ (by decide) (iZ rfl T.b_range (aB (aA 1) aI)) (fun _ _ _ _ _ _=>(dM 0 (show(["number","steady","size"]:List Str).Nodup by decide +kernel))) (fun _ _ _ _ _ _=>gD) (fun _ _ _ _ _ _=>(bC (tX X G) a rfl aS (aB (aA 1) (aB (bC (jU X G) a rfl aS (aB (tL (l:=[1]) rfl T.g_ONE) (aB (aA 0) (aB (aA 2) aI)))) (aB (aA 2) aI))))))
  (aK (bB (RL rfl T.b_max rfl T.b_len (eJ (fV 1 [0,1] ["one"] ["total","size"] rfl rfl (by decide) (by decide) (eT (by rfl)) rfl ⟨rfl,.inl rfl,by decide,.inl rfl,⟨rfl,.inl rfl,by decide,.inl rfl,trivial⟩⟩ (by decide) (kA (aA 3)) (fun _ _ _ _ _ _=>(dM 0 (show(["one","total","size"]:List Str).Nodup by decide +kernel))) (fun _ _ _ _ _ _=>gD) (fun _ _ _ _ _ _=>(bP (bC (JC X G) a rfl aS (aB (aA 1) (aB (aA 0) (aB (aA 2) aI)))) aG (fun _ _=>rfl)))))))))))) (bW rfl)
omit X G in
theorem Ay:aY ["total","size","found","sloping","shared"] ["total","size"] (aO (top 27)):=dH (by kernel_rfl)
theorem SN:nQ l.prog w (KH w.params) mg base kM 7 "part_of" 2 R.dZ:=fm X G 27 183 182 JD fun _ hc T F=>kB.d (g:=R.iX R.qK R.mC R.eY R.cI) F Ay (fun b A outer s H E a B O=>(aE (fU (XJ (bV rfl T.b_len (aA 0)) aG) (aK (bB DX)) cX)
  (aE (bA 2 Ay.nd (bC (Fs X G) a rfl aS (aB (aA 0) (aB (aA 1) aI))))
  (aE (fU (vK (bV rfl T.b_len (aA 2)) aG) (aK (bB (cR (aB (eK (iM (aA 1) (bP (aA 2) aG (fun _ _=>rfl))) (aA 1)) (aB aG aI))))) cX)
  (aE (bA 3 Ay.nd (bC (Fq X G) a rfl aS (aB (aA 0) (aB (aA 1) aI))))
  (aE (fU (nA a.units (bV rfl T.b_len (aA 3)) aG) (aK (bB (Dw (aA 0) (aA 1)))) cX)
  (aE (bA 4 Ay.nd (bP (bC (JC X G) a rfl aS (aB (aA 0) (aB (aA 3) (aB (aA 1) aI)))) aG (fun _ _=>rfl)))
  (aE (fU (vK (bV rfl T.b_len (aA 4)) aG) (aK (bB (aA 4))) cX)
  (aK (bB (bC (vA X G) a rfl aS (aB (aA 0) (aB (aA 1) aI))))))))))))) (bW rfl)
omit X G in
theorem Oi:aY ["total","size","part"] ["total","size"] (aO (top 28)):=dH (by kernel_rfl)
theorem Fp:nQ l.prog w (KH w.params) mg base kM 8 "split" 2 R.m_split:=fm X G 28 190 189 JD fun _ hc T F=>kB.d (g:=R.wF R.dZ R.iJ) F Oi (fun b A outer s H E a B O=>(aE (bA 2 Oi.nd (bC (SN X G) a rfl aS (aB (aA 0) (aB (aA 1) aI))))
  (aE (fU (XM (aA 2)) (aK (bB DX)) cX)
  (aK (bB (cR (aB (aA 2) (aB (bP (bC (zH X G) a rfl aS (aB (aA 0) (aB (aA 2) (aB (aA 1) aI)))) aG (fun _ _=>rfl)) aI)))))))) (bW rfl)
omit X G in
theorem OZ:aY ["total","size","counts","waiting","one","pair","prime"] ["total","size"] (aO (top 29)):=dH (by kernel_rfl)
theorem zG:nQ l.prog w (KH w.params) mg base kM 9 "prime_counts" 2 R.eI:=fm X G 29 197 196 JD fun _ hc T F=>kB.d (g:=R.lD R.m_split R.eP) F OZ (fun b A outer s H E a B O=>(aE (Dq 2 OZ.nd)
  (aE (pV 3 OZ.nd (gZ (aB (aA 0) aI)))
  (aE (nB 200 W4 (vK (bV rfl T.b_len (aA 3)) aG) (aE (Dp 3 4 OZ.nd)
  (aE (bA 5 OZ.nd (bC (Fp X G) a rfl aS (aB (aA 4) (aB (aA 1) aI))))
  (aK (fU (Dm (aA 5)) (aK (Ds 3 (aA 5))) (aK (fU (vK (bV rfl T.b_len (aA 4)) aG) (aE (bA 6 OZ.nd (bC (EY X G) a rfl aS (aB (aA 4) (aB (aA 1) aI))))
  (aK (NP 2 a.units (aA 6) (cN (HY a.units (aA 2) (aB (aA 6) (aB aG aI))) aG)))) cX)))))))
  (aK (bB (aA 2))))))) (bW rfl)
omit X G in
theorem Hx:aY ["total","size","counts","ordered"] ["total","size"] (aO (top 30)):=dH (by kernel_rfl)
theorem JB:nQ l.prog w (KH w.params) mg base (SR (KH w.params) l.prog w) 10 "factors" 2 R.eQ:=fm X G 30 202 201 JD fun _ hc T F=>kB.dxc (g:=R.mD R.eI) hc F Hx (fun c A outer s H E a B O b=>(aE (fU (nA a.units (bV rfl T.b_len (aA 0)) aG) (aK (XN 3 a.hd (Tf X G).n3 k3.exc (Tf X G).g3 rfl Kj (fun _=>rfl))) cX)
  (Do (aE (bA 2 Hx.nd (bC (zG X G) a rfl aS (aB (aA 0) (aB (aA 1) aI))))
  (aE (bA 3 Hx.nd (eJ (XU (a.mono (by decide)) rfl T.b_sorted T.b_len T.bi b (by kernel_rfl) rfl ⟨rfl,rfl⟩ (aA 2) rfl rfl)))
  (aK (bB (cR (aB (bP (aA 0) (iN aG) (fun _ _=>rfl)) (aB (jB rfl T.b_tuple (eJ (fV 1 [2] ["prime"] ["counts"] rfl rfl (by decide) (by decide) (eT (by rfl)) rfl ⟨rfl,.inl rfl,by decide,.inl rfl,trivial⟩ (by decide) (kA (aA 3)) (fun _ _ _ _ _ _=>(dM 0 (show(["prime","counts"]:List Str).Nodup by decide +kernel))) (fun _ _ _ _ _ _=>gD) (fun _ _ _ _ _ _=>(cR (aB (aA 0) (aB (Dv a.units (aA 1) (aA 0)) aI))))))) aI)))))))))) fun _ _ _ e=>e
omit X G in
theorem Vy:aY ["_law_script","_law_k"] ["_law_script","_law_k"] (aO (top 32)):=dH (by kernel_rfl)
theorem JA:nQ l.prog w (KH w.params) mg base kM 1 "_law_cell_at" 2 R.jN:=fm X G 32 209 208 sU fun _ hc T F=>kB.d (g:=R.pR) F Vy (fun a A outer s H E b B O=>(aE (fU (XJ (aA 1) (bV rfl T.b_len (aA 0))) (aK (bB (bP (aA 0) (aA 1) (fun _ _=>rfl)))) cX)
  (aK (bB aG)))) (bW rfl)
omit X G in
theorem Oh:aY ["_law_script","_law_k","_law_drawn_here"] ["_law_script","_law_k"] (aO (top 33)):=dH (by kernel_rfl)
theorem qX:nQ l.prog w (KH w.params) mg base kM 2 "_law_mixed" 2 R.eX:=fm X G 33 216 215 sU fun _ hc T F=>kB.d (g:=R.uO R.jN) F Oh (fun b A outer s H E a B O=>(aE (bA 2 Oh.nd (eK (dW (cN (cN (bC (JA X G) a rfl aS (aB (aA 0) (aB (aA 1) aI))) (dW aG (aA 1))) aG) aG) aG))
  (aK (bB (eK (cN (cN (dW (aA 2) (aA 2)) (dW aG (aA 2))) (aA 1)) aG))))) (bW rfl)
omit X G in
theorem Og:aY ["_law_number_here","_law_k","_law_drawn_here"] ["_law_number_here","_law_k"] (aO (top 34)):=dH (by kernel_rfl)
theorem BQ:nQ l.prog w (KH w.params) mg base kM 1 "_law_drawn" 2 R.iW:=fm X G 34 223 222 sU fun _ hc T F=>kB.d (g:=R.uP) F Og (fun a A outer s H E b B O=>(aE (bA 2 Og.nd (eK (dW (cN (cN (aA 0) (dW aG (aA 1))) aG) aG) aG))
  (aK (bB (eK (cN (cN (dW (aA 2) (aA 2)) (dW aG (aA 2))) (aA 1)) aG))))) (bW rfl)
omit X G in
theorem Vx:aY ["_law_thing","_law_low","_law_high"] ["_law_thing","_law_low","_law_high"] (aO (top 35)):=dH (by kernel_rfl)
theorem sG:nQ l.prog w (KH w.params) mg base kM 1 "_law_number" 3 R.bT:=fm X G 35 230 229 sU fun _ hc T F=>kB.d (g:=R.oM) F Vx (fun a A outer s H E b B O=>(aK (bB (uV (LK rfl T.b_isinstance rfl T.b_int (aA 0)) (uV (Kk (IA rfl T.b_isinstance rfl T.b_bool (aA 0))) (rX (Dx (aA 1) (aA 0) (aA 2)))))))) (bW rfl)
omit X G in
theorem UH:aY ["_law_number_here","_law_size","_law_most","_law_many","_law_found","_law_k","_law_drawn_here"] ["_law_number_here","_law_size","_law_most"] (aO (top 36)):=dH (by kernel_rfl)
theorem OJ:nQ l.prog w (KH w.params) mg base kM 2 "_law_sum" 3 R.qM:=fm X G 36 237 236 sU fun _ hc T F=>kB.d (g:=R.DM R.iW) F UH (fun b A outer s H E a B O=>(aE (bA 3 UH.nd (eK (aA 0) (cN (aA 2) aG)))
  (aE (pV 4 UH.nd (gZ aI))
  (aE (gC W4 rfl (iZ rfl T.b_range (aB (aA 3) aI)) (fun _=>(dM 5 UH.nd)) (fun _=>(aE (bA 6 UH.nd (bC (BQ X G) a rfl aS (aB (aA 0) (aB (aA 5) aI))))
  (aK (RE 4 (dW (eK (LM (aA 6) aG) (aA 1)) (DZ rfl T.b_int (Gy (Rk (eK (LM (aA 0) aG) aG) aG) (rX (tM a.units (eK (aA 6) aG) aG))))))))))
  (aE (fU (vK (aA 3) aG) (aK (lI 4 (iN aG) (cN aG (eK (bC (BQ X G) a rfl aS (aB (aA 0) (aB aG aI))) (iM (aA 1) aG))))) cX)
  (aK (bB (jB rfl T.b_tuple (aA 4))))))))) (bW rfl)
omit X G in
theorem Of:aY ["_law_numbers","_law_found"] ["_law_numbers"] (aO (top 37)):=dH (by kernel_rfl)
theorem IZ:nQ l.prog w (KH w.params) mg base kM 1 "_law_trim" 1 R.gN:=fm X G 37 244 243 sU fun _ hc T F=>kB.d (g:=R.yE) F Of (fun b A outer s H E a B O=>(aE (pV 1 Of.nd (tK rfl T.b_list (aA 0)))
  (aE (nB 200 W4 (vU (yL (pU a.units (aA 1) (eJ (gZ aI))) (tJ (nA a.units (bP (aA 1) (iN aG) (fun _ _=>rfl)) aG)))) (aK (Kd 1)))
  (aK (bB (jB rfl T.b_tuple (aA 1))))))) (bW rfl)
omit X G in
theorem OY:aY ["_law_one","_law_other","_law_size","_law_found","_law_k","_law_left","_law_n","_law_right"] ["_law_one","_law_other","_law_size"] (aO (top 39)):=dH (by kernel_rfl)
theorem BP:nQ l.prog w (KH w.params) mg base kM 2 "_law_times" 3 R.cT:=fm X G 39 256 255 sU fun _ hc T F=>kB.d (g:=R.uN R.gN) F OY (fun b A outer s H E a B O=>(aE (pV 3 OY.nd (DQ (eJ (gZ (aB aG aI))) (cN (bV rfl T.b_len (aA 0)) (bV rfl T.b_len (aA 1)))))
  (aE (gC W4 rfl (kJ rfl T.b_enumerate (aA 0)) (fun _=>(jA rfl (bO 4 OY.nd (bO 5 OY.nd gI)))) (fun _=>(aK (gC W4 rfl (kJ rfl T.b_enumerate (aA 1)) (fun _=>(jA rfl (bO 6 OY.nd (bO 7 OY.nd gI)))) (fun _=>(aK (lI 3 (cN (aA 4) (aA 6)) (eK (cN (bP (aA 3) (cN (aA 4) (aA 6)) (fun _ _=>rfl)) (dW (aA 5) (aA 7))) (aA 2)))))))))
  (aK (bB (bC (IZ X G) a rfl aS (aB (aA 3) aI))))))) (bW rfl)
omit X G in
theorem OX:aY ["_law_one","_law_other","_law_size","_law_found","_law_lead","_law_often","_law_by"] ["_law_one","_law_other","_law_size"] (aO (top 40)):=dH (by kernel_rfl)
theorem ZK:nQ l.prog w (KH w.params) mg base kM 2 "_law_rest" 3 R.gO:=fm X G 40 261 260 sU fun _ hc T F=>kB.d (g:=R.yF R.gN) F OX (fun b A outer s H E a B O=>(aE (bA 3 OX.nd (eJ (tK rfl T.b_list (aA 0))))
  (aE (bA 4 OX.nd (bP (eJ (fV 1 [2,1] ["_law_k"] ["_law_size","_law_other"] rfl rfl (by decide) (by decide) (eT (by rfl)) rfl ⟨rfl,.inl rfl,by decide,.inl rfl,⟨rfl,.inl rfl,by decide,.inl rfl,trivial⟩⟩ (by decide) (iZ rfl T.b_range (aB (aA 2) aI)) (fun _ _ _ _ _ _=>(dM 0 (show(["_law_k","_law_size","_law_other"]:List Str).Nodup by decide +kernel))) (fun _ _ _ _ _ _=>(nF (nA a.units (eK (dW (aA 0) (bP (aA 2) (iN aG) (fun _ _=>rfl))) (aA 1)) aG))) (fun _ _ _ _ _ _=>(aA 0)))) aG (fun _ _=>rfl)))
  (aE (nB 200 W4 (Ra (bV rfl T.b_len (aA 3)) (bV rfl T.b_len (aA 1))) (aE (bA 5 OX.nd (dW (bP (aA 3) (iN aG) (fun _ _=>rfl)) (aA 4)))
  (aE (bA 6 OX.nd (iM (bV rfl T.b_len (aA 3)) (bV rfl T.b_len (aA 1))))
  (aK (bA 3 OX.nd (eJ (tK rfl T.b_list (bC (IZ X G) a rfl aS (aB (eJ (fV 2 [2,5,1,6] ["_law_k","_law_part"] ["_law_size","_law_often","_law_other","_law_by"] rfl rfl (by decide) (by decide) (eT (by rfl)) rfl ⟨rfl,.inl rfl,by decide,.inl rfl,⟨rfl,.inl rfl,by decide,.inl rfl,⟨rfl,.inl rfl,by decide,.inl rfl,⟨rfl,.inl rfl,by decide,.inl rfl,trivial⟩⟩⟩⟩ (by decide) (kJ rfl T.b_enumerate (aA 3)) (fun _ _ _ _ _ _=>(jA rfl (bO 0 (show(["_law_k","_law_part","_law_size","_law_often","_law_other","_law_by"]:List Str).Nodup by decide +kernel) (bO 1 (show(["_law_k","_law_part","_law_size","_law_often","_law_other","_law_by"]:List Str).Nodup by decide +kernel) gI)))) (fun _ _ _ _ _ _=>gD) (fun _ _ _ _ _ _=>(eK (iM (aA 1) (dW (aA 3) (bP (cN (dW (cR (aB aG aI)) (aA 5)) (aA 4)) (aA 0) (fun _ _=>rfl)))) (aA 2))))) aI)))))))))
  (aK (bB (jB rfl T.b_tuple (aA 3)))))))) (bW rfl)
omit X G in
theorem Vw:aY ["_law_thing","_law_size"] ["_law_thing","_law_size"] (aO (top 41)):=dH (by kernel_rfl)
theorem vX:nQ l.prog w (KH w.params) mg base kM 2 "_law_is_long_sum" 2 R.fK:=fm X G 41 266 265 sU fun _ hc T F=>kB.d (g:=R.jZ R.bT) F Vw (fun b A outer s H E a B O=>(aE (fU (vU (rG (lH (lF (kK rfl T.b_isinstance rfl T.b_tuple (aA 0)))) (rV (pU a.units (eJ (fV 1 [1] ["_law_part"] ["_law_size"] rfl rfl (by decide) (by decide) (eT (by rfl)) rfl ⟨rfl,.inl rfl,by decide,.inl rfl,trivial⟩ (by decide) (kA (aA 0)) (fun _ _ _ _ _ _=>(dM 0 (show(["_law_part","_law_size"]:List Str).Nodup by decide +kernel))) (fun _ _ _ _ _ _=>(nF (lH (lF (bC (sG X G) a rfl aS (aB (aA 0) (aB aG (aB (iM (aA 1) aG) aI)))))))) (fun _ _ _ _ _ _=>(aA 0)))) (eJ (gZ aI)))))) (aK (bB pY)) cX)
  (aK (bB (Gy (tM a.units (aA 0) (cR aI)) (rX (Ri a.units (bP (aA 0) (iN aG) (fun _ _=>rfl)) aG))))))) (bW rfl)
omit X G in
theorem Vv:aY ["_law_thing","_law_size"] ["_law_thing","_law_size"] (aO (top 42)):=dH (by kernel_rfl)
theorem MC:nQ l.prog w (KH w.params) mg base kM 3 "_law_is_sum" 2 R.dI:=fm X G 42 273 272 sU fun _ hc T F=>kB.d (g:=R.rT R.fK) F Vv (fun b A outer s H E a B O=>(aK (bB (uV (bC (vX X G) a rfl aS (aB (aA 0) (aB (aA 1) aI))) (rX (Rj (bV rfl T.b_len (aA 0)) aG)))))) (bW rfl)
omit X G in
theorem JT:aY ["_law_length","_law_size","_law_found","_law_k","_law_longer","_law_some"] ["_law_length","_law_size"] (aO (top 43)):=dH (by kernel_rfl)
theorem MB:nQ l.prog w (KH w.params) mg base kM 1 "_law_wholes" 2 R.fJ:=fm X G 43 278 277 sU fun _ hc T F=>kB.d (g:=R.yD) F JT (fun a A outer s H E b B O=>(aE (bA 2 JT.nd (eJ (gZ (aB (cR aI) aI))))
  (aE (gC W4 rfl (iZ rfl T.b_range (aB (aA 0) aI)) (fun _=>(dM 3 JT.nd)) (fun _=>(aE (bA 4 JT.nd (eJ (gZ aI)))
  (aE (gC W4 rfl (kA (aA 2)) (fun _=>(dM 5 JT.nd)) (fun _=>(aK (bA 4 JT.nd (cN (aA 4) (eJ (fV 1 [5] ["_law_number_here"] ["_law_some"] rfl rfl (by decide) (by decide) (eT (by rfl)) rfl ⟨rfl,.inl rfl,by decide,.inl rfl,trivial⟩ (by decide) (iZ rfl T.b_range (aB (aA 1) aI)) (fun _ _ _ _ _ _=>(dM 0 (show(["_law_number_here","_law_some"]:List Str).Nodup by decide +kernel))) (fun _ _ _ _ _ _=>gD) (fun _ _ _ _ _ _=>(cN (aA 1) (cR (aB (aA 0) aI)))))))))))
  (aK (bA 2 JT.nd (aA 4)))))))
  (aK (bB (eJ (fV 1 [] ["_law_some"] [] rfl rfl (by decide) (by decide) (eT (by rfl)) rfl trivial (by decide) (kA (aA 2)) (fun _ _ _ _ _ _=>(dM 0 (show(["_law_some"]:List Str).Nodup by decide +kernel))) (fun _ _ _ _ _ _=>gD) (fun _ _ _ _ _ _=>(cN (aA 0) (cR (aB aG aI))))))))))) (bW rfl)
omit X G in
theorem Oe:aY ["_law_thing","_law_size","_law_length"] ["_law_thing","_law_size"] (aO (top 44)):=dH (by kernel_rfl)
theorem EZ:nQ l.prog w (KH w.params) mg base kM 3 "_law_is_prime" 2 R.cQ:=fm X G 44 283 282 sU fun _ hc T F=>kB.d (g:=R.oN R.fJ R.gO) F Oe (fun b A outer s H E a B O=>(aE (fU (XJ (bV rfl T.b_len (aA 0)) aG) (aK (bB pY)) cX)
  (aE (gC W4 rfl (uT rfl T.b_range (aB aG (aB (cN (LM (iM (bV rfl T.b_len (aA 0)) aG) aG) aG) aI))) (fun _=>(dM 2 Oe.nd)) (fun _=>(aK (fU (pU a.units (eJ (fV 1 [0,1] ["_law_some"] ["_law_thing","_law_size"] rfl rfl (by decide) (by decide) (eT (by rfl)) rfl ⟨rfl,.inl rfl,by decide,.inl rfl,⟨rfl,.inl rfl,by decide,.inl rfl,trivial⟩⟩ (by decide) (kA (bC (MB X G) a rfl aS (aB (aA 2) (aB (aA 1) aI)))) (fun _ _ _ _ _ _=>(dM 0 (show(["_law_some","_law_thing","_law_size"]:List Str).Nodup by decide +kernel))) (fun _ _ _ _ _ _=>(nF (nA a.units (bC (ZK X G) a rfl aS (aB (aA 1) (aB (aA 0) (aB (aA 2) aI)))) (cR aI)))) (fun _ _ _ _ _ _=>(aA 0)))) (eJ (gZ aI))) (aK (bB pY)) cX))))
  (aK (bB pY))))) (bW rfl)
omit X G in
theorem Ax:aY ["_law_thing","_law_size","_law_found","e","_law_good_here"] ["_law_thing","_law_size"] (aO (top 45)):=dH (by kernel_rfl)
theorem zI:nQ l.prog w (KH w.params) mg base kM 11 "_law_told" 2 R.cJ:=fm X G 45 290 289 sU fun _ hc T F=>kB.dh (g:=R.kH R.eQ) F Ax (fun e A outer s H E b B O d=>(aE (Kc 3 d rfl rfl (fun _=>rfl) (fun pn f a c=>(aK (bA 2 Ax.nd (bC (JB X G) b rfl c (aB (aA 0) (aB (aA 1) aI)))))) rfl (Tf X G).g3 k3 (Xz 3 .non (JM 3 4 (Tf X G) k3 (KI.e0) (KI.eV) (KI.e1) (KI.e2) Ax.nd rfl rfl (by decide) rfl rfl (by decide) (by decide) (by decide) (by decide) rfl rfl rfl rfl rfl rfl) (Tf X G).n3 KI.self) Ax.nd rfl)
  (aK (bB (bP (eJ (gZ (aB (aA 2) (aB aG aI)))) (DZ rfl T.b_int (DY (aA 2))) (fun _ _=>rfl)))))) (bW rfl)
omit X G in
theorem JS:aY ["_law_thing","_law_size","_law_found","_law_made","_law_some","_law_often","_law_k","_law_order"] ["_law_thing","_law_size","_law_found"] (aO (top 46)):=dH (by kernel_rfl)
theorem zJ:nQ l.prog w (KH w.params) mg base kM 4 "_law_good" 3 R.gA:=fm X G 46 295 294 sU fun _ hc T F=>kB.d (g:=R.yG R.bT R.dI R.cQ R.cT) F JS (fun b A outer s H E a B O=>(aE (fU (vU (rG (lH (lF (kK rfl T.b_isinstance rfl T.b_tuple (aA 2)))) (rG (pU a.units (bV rfl T.b_len (aA 2)) aG) (rV (lH (lF (bC (sG X G) a rfl aS (aB (bP (aA 2) aG (fun _ _=>rfl)) (aB aG (aB (iM (aA 1) aG) aI)))))))))) (aK (bB pY)) cX)
  (aE (fU (vU (rG (lH (lF (kK rfl T.b_isinstance rfl T.b_tuple (bP (aA 2) aG (fun _ _=>rfl))))) (rV (pU a.units (eJ (fV 1 [] ["_law_pair"] [] rfl rfl (by decide) (by decide) (eT (by rfl)) rfl trivial (by decide) (kA (bP (aA 2) aG (fun _ _=>rfl))) (fun _ _ _ _ _ _=>(dM 0 (show(["_law_pair"]:List Str).Nodup by decide +kernel))) (fun _ _ _ _ _ _=>(nF (lH (lF (kK rfl T.b_isinstance rfl T.b_tuple (aA 0)))))) (fun _ _ _ _ _ _=>(aA 0)))) (eJ (gZ aI)))))) (aK (bB pY)) cX)
  (aE (bA 3 JS.nd (cR (aB (bP (aA 2) aG (fun _ _=>rfl)) aI)))
  (aE (gC W4 rfl (kA (bP (aA 2) aG (fun _ _=>rfl))) (fun _=>(jA rfl (bO 4 JS.nd (bO 5 JS.nd gI)))) (fun _=>(aE (fU (vU (rG (lH (lF (bC (MC X G) a rfl aS (aB (aA 4) (aB (aA 1) aI))))) (rV (lH (lF (bC (sG X G) a rfl aS (aB (aA 5) (aB aG (aB aG aI))))))))) (aK (bB pY)) cX)
  (aE (fU (vU (rG (nA a.units (aA 4) (cR aI)) (rG (pU a.units (bP (aA 4) (iN aG) (fun _ _=>rfl)) aG) (rV (lH (lF (bC (EZ X G) a rfl aS (aB (aA 4) (aB (aA 1) aI))))))))) (aK (bB pY)) cX)
  (aK (gC W4 rfl (iZ rfl T.b_range (aB (aA 5) aI)) (fun _=>(dM 6 JS.nd)) (fun _=>(aK (bA 3 JS.nd (bC (BP X G) a rfl aS (aB (aA 3) (aB (aA 4) (aB (aA 1) aI)))))))))))))
  (aE (rW 7 JS.nd 2 [] ["_law_some","_law_often"] [] rfl rfl (by decide) (by decide) (eT (by rfl)) rfl trivial (by decide) (kA (bP (aA 2) aG (fun _ _=>rfl))) (fun _ _ _ _ _ _=>(jA rfl (bO 0 (show(["_law_some","_law_often"]:List Str).Nodup by decide +kernel) (bO 1 (show(["_law_some","_law_often"]:List Str).Nodup by decide +kernel) gI)))) (fun _ _ _ _ _ _=>gD) (fun _ _ _ _ _ _=>(cR (aB (bV rfl T.b_len (aA 0)) (aB (aA 0) aI)))))
  (aK (bB (uV (tM a.units (aA 3) (aA 0)) (rX (tM a.units (aA 7) (eJ (Du a.hd (C9 (Nat.add_le_add_left (by decide:30<=64) _) a.units) rfl T.b_sorted rfl T.b_set (aA 7)))))))))))))) (bW rfl)
omit X G in
theorem vP:aY ["_law_script","_law_size","_law_most","_law_one","_law_other","_law_first","_law_second","_law_product","_law_whole","_law_often","_law_some","_law_many"] ["_law_script"] (aO (top 47)):=dH (by kernel_rfl)
theorem Jo{c:Addr}(b:mg "law" = some (.ref c)):∃fd:V1,(∀(s:Shared) (v:Value),BindsTo s fd ⟨[v],[]⟩ [("_law_script",v)])/\∀base:Heap,(KH w.params).In base->base.Ns X3 mg->uZ l.prog w (KH w.params) mg base kM 12 c fd ["_law_script"] (SS (KH w.params) 1 R.qL):=by
 have e:=b.symm.trans (Q0 X G (show O5 (KH w.params) X3 "law" = some (some (.ref 302))from by kernel_rfl));cases e;have T:=Tt X G;have F:=XE (K:=KH w.params) (x:="law") (qual:="law") (st:=vB) (f:=302) (pm:=(.str "law_primefold_k22_whole_factors" 465)) (cdv:=.ref 301) (kV:=.none) (doc:=.none) (ct:=.none) (an:=none) (show List.lookup 302 (KH w.params)=some (fO "law" 47 (.str "law_primefold_k22_whole_factors" 465) 301)from by kernel_rfl) (by kernel_rfl) (by kernel_rfl);exact⟨_,fun s v=>.of_eq rfl,fun base _ _=>kB.d (g:=R.uM R.eX R.qM R.cJ R.cT R.gA) F vP (fun cdv A outer s H E a B O=>(aE (bA 1 vP.nd (bP (cR (aB aG (aB aG (aB aG aI)))) (eK (bC (qX X G) a rfl aS (aB (aA 0) (aB aG aI))) aG) (fun _ _=>rfl)))
  (aE (bA 2 vP.nd (cN aG (dW aG (DZ rfl T.b_int (uV (tM a.units (aA 1) aG) (rX (tM a.units (eK (bC (qX X G) a rfl aS (aB (aA 0) (aB aG aI))) aG) aG)))))))
  (aE (bA 3 vP.nd (bC (OJ X G) a rfl aS (aB (bC (qX X G) a rfl aS (aB (aA 0) (aB aG aI))) (aB (aA 1) (aB (aA 2) aI)))))
  (aE (bA 4 vP.nd (bC (OJ X G) a rfl aS (aB (bC (qX X G) a rfl aS (aB (aA 0) (aB aG aI))) (aB (aA 1) (aB (aA 2) aI)))))
  (aE (bA 5 vP.nd (bC (zI X G) a rfl aS (aB (aA 3) (aB (aA 1) aI))))
  (aE (bA 6 vP.nd (bC (zI X G) a rfl aS (aB (aA 4) (aB (aA 1) aI))))
  (aE (bA 7 vP.nd (bC (BP X G) a rfl aS (aB (aA 3) (aB (aA 4) (aB (aA 1) aI)))))
  (aE (bA 8 vP.nd (bC (zI X G) a rfl aS (aB (aA 7) (aB (aA 1) aI))))
  (aE (fU (vU (rG (pU a.units (DY (aA 5)) (tM a.units (aA 3) (cR aI))) (rG (pU a.units (DY (aA 6)) (tM a.units (aA 4) (cR aI))) (rV (pU a.units (DY (aA 8)) (tM a.units (aA 7) (cR aI))))))) (aK (bB pY)) cX)
  (aE (fU (vU (rG (vU (yL (pU a.units (aA 3) (cR aI)) (tJ (lH (lF (bC (zJ X G) a rfl aS (aB (aA 3) (aB (aA 1) (aB (aA 5) aI))))))))) (rV (vU (yL (pU a.units (aA 4) (cR aI)) (tJ (lH (lF (bC (zJ X G) a rfl aS (aB (aA 4) (aB (aA 1) (aB (aA 6) aI)))))))))))) (aK (bB pY)) cX)
  (aE (fU (nA a.units (aA 7) (cR aI)) (aK (bB pY)) cX)
  (aE (Dr 9 T.kd a rfl T.b_dict vP.nd (bP (aA 5) aG (fun _ _=>rfl)))
  (aE (gC W4 rfl (kA (bP (aA 6) aG (fun _ _=>rfl))) (fun _=>(jA rfl (bO 10 vP.nd (bO 11 vP.nd gI)))) (fun _=>(aK (NP 9 a.units (aA 10) (cN (HY a.units (aA 9) (aB (aA 10) (aB aG aI))) (aA 11))))))
  (aK (bB (uV (bC (zJ X G) a rfl aS (aB (aA 7) (aB (aA 1) (aB (aA 8) aI)))) (rX (Ki a.units (XY T.kd a rfl T.b_dict (bP (aA 8) aG (fun _ _=>rfl))) (aA 9)))))))))))))))))))) (bW rfl)⟩
end
end K22
open PySem PySem.W PyProof.Rows PF
set_option maxHeartbeats 0 in
theorem PySem.Challenge.cw_primefold_k22_whole_factors_holds : PySem.Challenge.rw_primefold_k22_whole_factors.Holds := by
 w_on
 refine PySem.W.holds_law K22.u1 fun said=>?_;refine PySem.W.holds_open (q:=K22.vw) (loose:=[]) (Xt:=fun s=>PySem.W.xlAt K22.vw [] s&&PySem.W.recOk [] s) (XP:=PySem.W.XL K22.vw []) (Yf:=PySem.W.Hook.obs K22.hk) (Ya:=PySem.W.Hook.val K22.hk) (YP:=PySem.W.Hook.says K22.hk) (N:=4194) K22.left (PySem.W.Hook.of K22.hk) (PySem.W.Hook.keeps K22.hk) (fun s e=>PySem.W.xl_of s (Bool.and_eq_true_iff.mp e).1) PySem.W.XL.keeps K22.u2 K22.u3 (by kernel_rfl) (fun s e=>PySem.W.recFacts_of (Bool.and_eq_true_iff.mp e).2) (by kernel_rfl) said (by kernel_rfl) ⟨rfl,rfl,rfl,rfl,rfl,by decide +kernel⟩ ?hw ?hc
 case hw=>w_witness2
 exact PF.Mz (c:=201) (K:=K22.KH) (l:=PySem.Challenge.rw_primefold_k22_whole_factors) (k:=12) (m:=R.qL) (x:="_law_script") ⟨rfl,by decide,by decide⟩ rfl rfl K22.QI (fun w h Y0=>⟨PySem.W.km_in_of Y0,PySem.W.km_tabs_of Y0 199 (by simp)⟩) (fun p=>by kernel_rfl) (fun p=>by kernel_rfl) fun w mg fa h KX G hmg=>K22.Jo KX G hmg
#print axioms PySem.Challenge.cw_primefold_k22_whole_factors_holds
