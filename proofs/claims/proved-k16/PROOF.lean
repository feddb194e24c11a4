import PyProof.Rows.All
import Wide.All
import OpenK.AllK
import Wide.FinOn
import KE.KStateDown
import HandS.Ends
import HandS.Exc
import HandS.WordsExc
import HandS.Defaults
import HandS.Head0
import HandS.Head1
import HandS.Head2
import HandS.HeadHook1
import HandS.HeadHook2
import HandS.HeadHook3
import HandS.HeadHook4
import HandS.Base
import HandS.Call
import HandS.List
import HandS.Comp
import HandS.Dict
import HandS.Iter
import HandS.Words
import HandS.IsInst
import HandS.Wide
import HandS.Flow
import HandS.TupAny
import HandS.Deep
import HandS.Style
import HandS.GenList
import HandS.GenYield
import PyProof.GenRules
import PyProof.ForAny
import PyProof.LayNew
import PyProof.Draws
import PyProof.EnumMake
import PyProof.EnumFor
import HandS.TupMul
import HandS.DictComp
import KE.KDictPairs
import HandS.Zip
import HandS.SortRule
import KE.GoesZip
import KE.GoesMore
import HandS.SetFor
import HandS.Strs
import HandS.TupSets
import PyProof.ReprRoads
import PyProof.ReprLen
import HandS.Sort
import KE.KSortTupAny
import HandS.DictTup
import HandS.SortOrd
import PyProof.P3In
import HandS.Lambda
import HandS.ExcInit
import HandS.ExcField
import HandS.ExcIs
import HandS.CallLocal
import HandS.HeadEnd
import HandS.EndTab
import HandS.GenOver
import HandS.Text
import PyProof.StrLawsRepr
import PyProof.CallFns
import PySem.Challenge.RW_orderless_k16_states_listed
set_option Elab.async false
set_option linter.all false
set_option maxRecDepth 100000
namespace K
open PySem L2
def top (i : Nat) : Stmt := PySem.Challenge.pw_orderless_k16_states_listed.main.body.getD i (.Pass ⟨0, 0, 0, 0⟩)
abbrev s_row_width : Stmt := top 5
-- 0:row
abbrev N_row_width : List Str := ["row"]
theorem sc_row_width : FnScope N_row_width ["row"] (defScope s_row_width) := ⟨rfl, rfl, rfl, by decide +kernel, rfl, by decide +kernel, by decide +kernel⟩
abbrev s_cell_ranges : Stmt := top 6
-- 0:cells 1:ranges 2:row
abbrev N_cell_ranges : List Str := ["cells", "ranges", "row"]
theorem sc_cell_ranges : FnScope N_cell_ranges ["cells"] (defScope s_cell_ranges) := ⟨rfl, rfl, rfl, by decide +kernel, rfl, by decide +kernel, by decide +kernel⟩
abbrev s_found_index : Stmt := top 7
-- 0:cells 1:name 2:key 3:begin 4:row
abbrev N_found_index : List Str := ["cells", "name", "key", "begin", "row"]
theorem sc_found_index : FnScope N_found_index ["cells", "name", "key"] (defScope s_found_index) := ⟨rfl, rfl, rfl, by decide +kernel, rfl, by decide +kernel, by decide +kernel⟩
abbrev s_cell_index : Stmt := top 8
-- 0:cells 1:name 2:key 3:index
abbrev N_cell_index : List Str := ["cells", "name", "key", "index"]
theorem sc_cell_index : FnScope N_cell_index ["cells", "name", "key"] (defScope s_cell_index) := ⟨rfl, rfl, rfl, by decide +kernel, rfl, by decide +kernel, by decide +kernel⟩
abbrev s_value_in : Stmt := top 11
-- 0:cells 1:state 2:expression 3:value 4:_
abbrev N_value_in : List Str := ["cells", "state", "expression", "value", "_"]
theorem sc_value_in : FnScope N_value_in ["cells", "state", "expression"] (defScope s_value_in) := ⟨rfl, rfl, rfl, by decide +kernel, rfl, by decide +kernel, by decide +kernel⟩
abbrev s_evaluated : Stmt := top 12
-- 0:cells 1:state 2:expression 3:index 4:looks
abbrev N_evaluated : List Str := ["cells", "state", "expression", "index", "looks"]
theorem sc_evaluated : FnScope N_evaluated ["cells", "state", "expression"] (defScope s_evaluated) := ⟨rfl, rfl, rfl, by decide +kernel, rfl, by decide +kernel, by decide +kernel⟩
abbrev s_keyed_index : Stmt := top 13
-- 0:cells 1:state 2:table 3:key 4:value 5:looks
abbrev N_keyed_index : List Str := ["cells", "state", "table", "key", "value", "looks"]
theorem sc_keyed_index : FnScope N_keyed_index ["cells", "state", "table", "key"] (defScope s_keyed_index) := ⟨rfl, rfl, rfl, by decide +kernel, rfl, by decide +kernel, by decide +kernel⟩
abbrev s__lazy_value : Stmt := top 14
-- 0:cells 1:state 2:expression 3:op 4:test 5:looks 6:holds 7:value 8:more
abbrev N__lazy_value : List Str := ["cells", "state", "expression", "op", "test", "looks", "holds", "value", "more"]
theorem sc__lazy_value : FnScope N__lazy_value ["cells", "state", "expression"] (defScope s__lazy_value) := ⟨rfl, rfl, rfl, by decide +kernel, rfl, by decide +kernel, by decide +kernel⟩
abbrev s__full_value : Stmt := top 15
-- 0:cells 1:state 2:expression 3:values 4:looks 5:part 6:value 7:more
abbrev N__full_value : List Str := ["cells", "state", "expression", "values", "looks", "part", "value", "more"]
theorem sc__full_value : FnScope N__full_value ["cells", "state", "expression"] (defScope s__full_value) := ⟨rfl, rfl, rfl, by decide +kernel, rfl, by decide +kernel, by decide +kernel⟩
abbrev s__of_one : Stmt := top 16
-- 0:op 1:value
abbrev N__of_one : List Str := ["op", "value"]
theorem sc__of_one : FnScope N__of_one ["op", "value"] (defScope s__of_one) := ⟨rfl, rfl, rfl, by decide +kernel, rfl, by decide +kernel, by decide +kernel⟩
abbrev s_value_of_two : Stmt := top 17
-- 0:op 1:one 2:other
abbrev N_value_of_two : List Str := ["op", "one", "other"]
theorem sc_value_of_two : FnScope N_value_of_two ["op", "one", "other"] (defScope s_value_of_two) := ⟨rfl, rfl, rfl, by decide +kernel, rfl, by decide +kernel, by decide +kernel⟩
abbrev s__compared : Stmt := top 18
-- 0:op 1:one 2:other
abbrev N__compared : List Str := ["op", "one", "other"]
theorem sc__compared : FnScope N__compared ["op", "one", "other"] (defScope s__compared) := ⟨rfl, rfl, rfl, by decide +kernel, rfl, by decide +kernel, by decide +kernel⟩
abbrev s_is_integer : Stmt := top 20
-- 0:thing
abbrev N_is_integer : List Str := ["thing"]
theorem sc_is_integer : FnScope N_is_integer ["thing"] (defScope s_is_integer) := ⟨rfl, rfl, rfl, by decide +kernel, rfl, by decide +kernel, by decide +kernel⟩
abbrev s_count_states : Stmt := top 22
-- 0:program 1:many 2:low 3:high
abbrev N_count_states : List Str := ["program", "many", "low", "high"]
theorem sc_count_states : FnScope N_count_states ["program"] (defScope s_count_states) := ⟨rfl, rfl, rfl, by decide +kernel, rfl, by decide +kernel, by decide +kernel⟩
abbrev s_all_states : Stmt := top 23
-- 0:program 1:state
abbrev N_all_states : List Str := ["program", "state"]
abbrev s_state_list : Stmt := top 24
-- 0:program
abbrev N_state_list : List Str := ["program"]
theorem sc_state_list : FnScope N_state_list ["program"] (defScope s_state_list) := ⟨rfl, rfl, rfl, by decide +kernel, rfl, by decide +kernel, by decide +kernel⟩
abbrev s_state_number : Stmt := top 25
-- 0:program 1:state 2:number 3:low 4:high 5:value
abbrev N_state_number : List Str := ["program", "state", "number", "low", "high", "value"]
theorem sc_state_number : FnScope N_state_number ["program", "state"] (defScope s_state_number) := ⟨rfl, rfl, rfl, by decide +kernel, rfl, by decide +kernel, by decide +kernel⟩
abbrev s_state_at : Stmt := top 26
-- 0:program 1:number 2:values 3:left 4:low 5:high 6:width
abbrev N_state_at : List Str := ["program", "number", "values", "left", "low", "high", "width"]
theorem sc_state_at : FnScope N_state_at ["program", "number"] (defScope s_state_at) := ⟨rfl, rfl, rfl, by decide +kernel, rfl, by decide +kernel, by decide +kernel⟩
abbrev s_starts_of : Stmt := top 27
-- 0:program 1:start
abbrev N_starts_of : List Str := ["program", "start"]
abbrev s_start_list : Stmt := top 28
-- 0:program 1:cells 2:_ 3:starts 4:state
abbrev N_start_list : List Str := ["program", "cells", "_", "starts", "state"]
theorem sc_start_list : FnScope N_start_list ["program"] (defScope s_start_list) := ⟨rfl, rfl, rfl, by decide +kernel, rfl, by decide +kernel, by decide +kernel⟩
abbrev s_states_for_inputs : Stmt := top 29
-- 0:program 1:ranges 2:row
abbrev N_states_for_inputs : List Str := ["program", "ranges", "row"]
theorem sc_states_for_inputs : FnScope N_states_for_inputs ["program"] (defScope s_states_for_inputs) := ⟨rfl, rfl, rfl, by decide +kernel, rfl, by decide +kernel, by decide +kernel⟩
abbrev s__combined : Stmt := top 30
-- 0:ranges 1:states 2:low 3:high 4:state 5:value
abbrev N__combined : List Str := ["ranges", "states", "low", "high", "state", "value"]
theorem sc__combined : FnScope N__combined ["ranges"] (defScope s__combined) := ⟨rfl, rfl, rfl, by decide +kernel, rfl, by decide +kernel, by decide +kernel⟩
abbrev s_is_start : Stmt := top 31
-- 0:program 1:thing 2:cells 3:_ 4:starts 5:begin 6:row 7:part
abbrev N_is_start : List Str := ["program", "thing", "cells", "_", "starts", "begin", "row", "part"]
theorem sc_is_start : FnScope N_is_start ["program", "thing"] (defScope s_is_start) := ⟨rfl, rfl, rfl, by decide +kernel, rfl, by decide +kernel, by decide +kernel⟩
abbrev s__is_state : Stmt := top 32
-- 0:cells 1:thing 2:ranges 3:value 4:low 5:high
abbrev N__is_state : List Str := ["cells", "thing", "ranges", "value", "low", "high"]
theorem sc__is_state : FnScope N__is_state ["cells", "thing"] (defScope s__is_state) := ⟨rfl, rfl, rfl, by decide +kernel, rfl, by decide +kernel, by decide +kernel⟩
abbrev s__is_within : Stmt := top 33
-- 0:value 1:low 2:high
abbrev N__is_within : List Str := ["value", "low", "high"]
theorem sc__is_within : FnScope N__is_within ["value", "low", "high"] (defScope s__is_within) := ⟨rfl, rfl, rfl, by decide +kernel, rfl, by decide +kernel, by decide +kernel⟩
abbrev s__first_values : Stmt := top 34
-- 0:row
abbrev N__first_values : List Str := ["row"]
theorem sc__first_values : FnScope N__first_values ["row"] (defScope s__first_values) := ⟨rfl, rfl, rfl, by decide +kernel, rfl, by decide +kernel, by decide +kernel⟩
abbrev s__law_feed : Stmt := top 36
-- 0:_law_script
abbrev N__law_feed : List Str := ["_law_script"]
theorem sc__law_feed : FnScope N__law_feed ["_law_script"] (defScope s__law_feed) := ⟨rfl, rfl, rfl, by decide +kernel, rfl, by decide +kernel, by decide +kernel⟩
abbrev s__law_draw : Stmt := top 37
-- 0:_law_feed_here 1:_law_many_here 2:_law_digit 3:_law_place 4:_law_cell 5:_law_mixed
abbrev N__law_draw : List Str := ["_law_feed_here", "_law_many_here", "_law_digit", "_law_place", "_law_cell", "_law_mixed"]
theorem sc__law_draw : FnScope N__law_draw ["_law_feed_here", "_law_many_here"] (defScope s__law_draw) := ⟨rfl, rfl, rfl, by decide +kernel, rfl, by decide +kernel, by decide +kernel⟩
abbrev s__law_any : Stmt := top 38
-- 0:_law_feed_here 1:_law_some
abbrev N__law_any : List Str := ["_law_feed_here", "_law_some"]
theorem sc__law_any : FnScope N__law_any ["_law_feed_here", "_law_some"] (defScope s__law_any) := ⟨rfl, rfl, rfl, by decide +kernel, rfl, by decide +kernel, by decide +kernel⟩
abbrev s__law_many : Stmt := top 39
-- 0:_law_script 1:_law_count
abbrev N__law_many : List Str := ["_law_script", "_law_count"]
theorem sc__law_many : FnScope N__law_many ["_law_script", "_law_count"] (defScope s__law_many) := ⟨rfl, rfl, rfl, by decide +kernel, rfl, by decide +kernel, by decide +kernel⟩
abbrev s__law_find : Stmt := top 40
-- 0:_law_cells_here 1:_law_name 2:_law_key 3:_law_at 4:_law_row
abbrev N__law_find : List Str := ["_law_cells_here", "_law_name", "_law_key", "_law_at", "_law_row"]
theorem sc__law_find : FnScope N__law_find ["_law_cells_here", "_law_name", "_law_key"] (defScope s__law_find) := ⟨rfl, rfl, rfl, by decide +kernel, rfl, by decide +kernel, by decide +kernel⟩
abbrev s__law_ranges : Stmt := top 41
-- 0:_law_cells_here 1:_law_found 2:_law_row 3:_law_k
abbrev N__law_ranges : List Str := ["_law_cells_here", "_law_found", "_law_row", "_law_k"]
theorem sc__law_ranges : FnScope N__law_ranges ["_law_cells_here"] (defScope s__law_ranges) := ⟨rfl, rfl, rfl, by decide +kernel, rfl, by decide +kernel, by decide +kernel⟩
abbrev s__law_states : Stmt := top 42
-- 0:_law_cells_here 1:_law_found 2:_law_low 3:_law_high 4:_law_longer 5:_law_stands 6:_law_value_here
abbrev N__law_states : List Str := ["_law_cells_here", "_law_found", "_law_low", "_law_high", "_law_longer", "_law_stands", "_law_value_here"]
theorem sc__law_states : FnScope N__law_states ["_law_cells_here"] (defScope s__law_states) := ⟨rfl, rfl, rfl, by decide +kernel, rfl, by decide +kernel, by decide +kernel⟩
abbrev s__law_binary : Stmt := top 43
-- 0:_law_word 1:_law_one 2:_law_other
abbrev N__law_binary : List Str := ["_law_word", "_law_one", "_law_other"]
theorem sc__law_binary : FnScope N__law_binary ["_law_word", "_law_one", "_law_other"] (defScope s__law_binary) := ⟨rfl, rfl, rfl, by decide +kernel, rfl, by decide +kernel, by decide +kernel⟩
abbrev s__law_value : Stmt := top 44
-- 0:_law_cells_here 1:_law_stands 2:_law_e 3:_law_one 4:_law_at 5:_law_other
abbrev N__law_value : List Str := ["_law_cells_here", "_law_stands", "_law_e", "_law_one", "_law_at", "_law_other"]
theorem sc__law_value : FnScope N__law_value ["_law_cells_here", "_law_stands", "_law_e"] (defScope s__law_value) := ⟨rfl, rfl, rfl, by decide +kernel, rfl, by decide +kernel, by decide +kernel⟩
abbrev s__law_starts : Stmt := top 45
-- 0:_law_place 1:_law_cells_here 2:_law_found 3:_law_stands 4:_law_at 5:_law_good 6:_law_row 7:_law_k
abbrev N__law_starts : List Str := ["_law_place", "_law_cells_here", "_law_found", "_law_stands", "_law_at", "_law_good", "_law_row", "_law_k"]
theorem sc__law_starts : FnScope N__law_starts ["_law_place"] (defScope s__law_starts) := ⟨rfl, rfl, rfl, by decide +kernel, rfl, by decide +kernel, by decide +kernel⟩
abbrev s__law_cells : Stmt := top 46
-- 0:_law_feed_here 1:_law_way 2:_law_rows 3:_law_low
abbrev N__law_cells : List Str := ["_law_feed_here", "_law_way", "_law_rows", "_law_low"]
theorem sc__law_cells : FnScope N__law_cells ["_law_feed_here"] (defScope s__law_cells) := ⟨rfl, rfl, rfl, by decide +kernel, rfl, by decide +kernel, by decide +kernel⟩
abbrev s__law_expr : Stmt := top 47
-- 0:_law_feed_here 1:_law_cells_here 2:_law_deep 3:_law_plain 4:_law_way 5:_law_one 6:_law_other 7:_law_row
abbrev N__law_expr : List Str := ["_law_feed_here", "_law_cells_here", "_law_deep", "_law_plain", "_law_way", "_law_one", "_law_other", "_law_row"]
theorem sc__law_expr : FnScope N__law_expr ["_law_feed_here", "_law_cells_here", "_law_deep"] (defScope s__law_expr) := ⟨rfl, rfl, rfl, by decide +kernel, rfl, by decide +kernel, by decide +kernel⟩
abbrev s__law_rule : Stmt := top 48
-- 0:_law_feed_here 1:_law_cells_here 2:_law_name 3:_law_guard 4:_law_found 5:_law_k 6:_law_row 7:_law_target
abbrev N__law_rule : List Str := ["_law_feed_here", "_law_cells_here", "_law_name", "_law_guard", "_law_found", "_law_k", "_law_row", "_law_target"]
theorem sc__law_rule : FnScope N__law_rule ["_law_feed_here", "_law_cells_here", "_law_name"] (defScope s__law_rule) := ⟨rfl, rfl, rfl, by decide +kernel, rfl, by decide +kernel, by decide +kernel⟩
abbrev s__law_names : Stmt := top 49
-- 0:_law_feed_here 1:_law_most 2:_law_names_here 3:_law_count
abbrev N__law_names : List Str := ["_law_feed_here", "_law_most", "_law_names_here", "_law_count"]
theorem sc__law_names : FnScope N__law_names ["_law_feed_here", "_law_most"] (defScope s__law_names) := ⟨rfl, rfl, rfl, by decide +kernel, rfl, by decide +kernel, by decide +kernel⟩
abbrev s__law_some_pairs : Stmt := top 50
-- 0:_law_feed_here 1:_law_names_here 2:_law_order 3:_law_found 4:_law_name 5:_law_k 6:_law_one 7:_law_other
abbrev N__law_some_pairs : List Str := ["_law_feed_here", "_law_names_here", "_law_order", "_law_found", "_law_name", "_law_k", "_law_one", "_law_other"]
theorem sc__law_some_pairs : FnScope N__law_some_pairs ["_law_feed_here", "_law_names_here"] (defScope s__law_some_pairs) := ⟨rfl, rfl, rfl, by decide +kernel, rfl, by decide +kernel, by decide +kernel⟩
abbrev s__law_program : Stmt := top 51
-- 0:_law_feed_here 1:_law_most 2:_law_cells_here 3:_law_names_here 4:_law_rules 5:_law_pairs 6:_law_some 7:_law_name
abbrev N__law_program : List Str := ["_law_feed_here", "_law_most", "_law_cells_here", "_law_names_here", "_law_rules", "_law_pairs", "_law_some", "_law_name"]
theorem sc__law_program : FnScope N__law_program ["_law_feed_here", "_law_most"] (defScope s__law_program) := ⟨rfl, rfl, rfl, by decide +kernel, rfl, by decide +kernel, by decide +kernel⟩
abbrev s__law_odd : Stmt := top 52
-- 0:_law_feed_here 1:_law_some
abbrev N__law_odd : List Str := ["_law_feed_here", "_law_some"]
theorem sc__law_odd : FnScope N__law_odd ["_law_feed_here"] (defScope s__law_odd) := ⟨rfl, rfl, rfl, by decide +kernel, rfl, by decide +kernel, by decide +kernel⟩
abbrev s__law_document : Stmt := top 53
-- 0:_law_add 1:_law_twice 2:_law_see 3:_law_cells_here
abbrev N__law_document : List Str := ["_law_add", "_law_twice", "_law_see", "_law_cells_here"]
theorem sc__law_document : FnScope N__law_document [] (defScope s__law_document) := ⟨rfl, rfl, rfl, by decide +kernel, rfl, by decide +kernel, by decide +kernel⟩
abbrev s__law_case : Stmt := top 54
-- 0:_law_feed_here 1:_law_most 2:_law_turn
abbrev N__law_case : List Str := ["_law_feed_here", "_law_most", "_law_turn"]
theorem sc__law_case : FnScope N__law_case ["_law_feed_here", "_law_most", "_law_turn"] (defScope s__law_case) := ⟨rfl, rfl, rfl, by decide +kernel, rfl, by decide +kernel, by decide +kernel⟩
abbrev s__law_is_right : Stmt := top 55
-- 0:_law_place 1:_law_seen 2:_law_states_here 3:_law_starts_here 4:_law_told 5:_law_k 6:_law_stand 7:_law_found 8:_law_one
abbrev N__law_is_right : List Str := ["_law_place", "_law_seen", "_law_states_here", "_law_starts_here", "_law_told", "_law_k", "_law_stand", "_law_found", "_law_one"]
theorem sc__law_is_right : FnScope N__law_is_right ["_law_place"] (defScope s__law_is_right) := ⟨rfl, rfl, rfl, by decide +kernel, rfl, by decide +kernel, by decide +kernel⟩
abbrev s__law_start_right : Stmt := top 56
-- 0:_law_feed_here 1:_law_place 2:_law_states_here 3:_law_starts_here 4:_law_things 5:_law_thing_now 6:_law_due 7:_law_stand 8:_law_value_here
abbrev N__law_start_right : List Str := ["_law_feed_here", "_law_place", "_law_states_here", "_law_starts_here", "_law_things", "_law_thing_now", "_law_due", "_law_stand", "_law_value_here"]
theorem sc__law_start_right : FnScope N__law_start_right ["_law_feed_here", "_law_place"] (defScope s__law_start_right) := ⟨rfl, rfl, rfl, by decide +kernel, rfl, by decide +kernel, by decide +kernel⟩
abbrev s_law : Stmt := top 57
-- 0:_law_script 1:_law_feed_here 2:_law_bare 3:_law_three 4:_law_turn 5:_law_place
abbrev N_law : List Str := ["_law_script", "_law_feed_here", "_law_bare", "_law_three", "_law_turn", "_law_place"]
theorem sc_law : FnScope N_law ["_law_script"] (defScope s_law) := ⟨rfl, rfl, rfl, by decide +kernel, rfl, by decide +kernel, by decide +kernel⟩
end K

namespace K
open PySem PySem.Spec PyProof.Rows L2
def fns : List He.DefD := [
  ⟨("row_width", none), "row_width", "row_width", defArgs s_row_width, defBody s_row_width, defScope s_row_width, [], []⟩,
  ⟨("cell_ranges", none), "cell_ranges", "cell_ranges", defArgs s_cell_ranges, defBody s_cell_ranges, defScope s_cell_ranges, [], []⟩,
  ⟨("found_index", none), "found_index", "found_index", defArgs s_found_index, defBody s_found_index, defScope s_found_index, [], []⟩,
  ⟨("cell_index", none), "cell_index", "cell_index", defArgs s_cell_index, defBody s_cell_index, defScope s_cell_index, [], [("key", .non)]⟩,
  ⟨("value_in", none), "value_in", "value_in", defArgs s_value_in, defBody s_value_in, defScope s_value_in, [], []⟩,
  ⟨("evaluated", none), "evaluated", "evaluated", defArgs s_evaluated, defBody s_evaluated, defScope s_evaluated, [], []⟩,
  ⟨("keyed_index", none), "keyed_index", "keyed_index", defArgs s_keyed_index, defBody s_keyed_index, defScope s_keyed_index, [], []⟩,
  ⟨("_lazy_value", none), "_lazy_value", "_lazy_value", defArgs s__lazy_value, defBody s__lazy_value, defScope s__lazy_value, [], []⟩,
  ⟨("_full_value", none), "_full_value", "_full_value", defArgs s__full_value, defBody s__full_value, defScope s__full_value, [], []⟩,
  ⟨("_of_one", none), "_of_one", "_of_one", defArgs s__of_one, defBody s__of_one, defScope s__of_one, [], []⟩,
  ⟨("value_of_two", none), "value_of_two", "value_of_two", defArgs s_value_of_two, defBody s_value_of_two, defScope s_value_of_two, [], []⟩,
  ⟨("_compared", none), "_compared", "_compared", defArgs s__compared, defBody s__compared, defScope s__compared, [], []⟩,
  ⟨("is_integer", none), "is_integer", "is_integer", defArgs s_is_integer, defBody s_is_integer, defScope s_is_integer, [], []⟩,
  ⟨("count_states", none), "count_states", "count_states", defArgs s_count_states, defBody s_count_states, defScope s_count_states, [], []⟩,
  ⟨("all_states", none), "all_states", "all_states", defArgs s_all_states, defBody s_all_states, defScope s_all_states, [], []⟩,
  ⟨("state_list", none), "state_list", "state_list", defArgs s_state_list, defBody s_state_list, defScope s_state_list, [], []⟩,
  ⟨("state_number", none), "state_number", "state_number", defArgs s_state_number, defBody s_state_number, defScope s_state_number, [], []⟩,
  ⟨("state_at", none), "state_at", "state_at", defArgs s_state_at, defBody s_state_at, defScope s_state_at, [], []⟩,
  ⟨("starts_of", none), "starts_of", "starts_of", defArgs s_starts_of, defBody s_starts_of, defScope s_starts_of, [], []⟩,
  ⟨("start_list", none), "start_list", "start_list", defArgs s_start_list, defBody s_start_list, defScope s_start_list, [], []⟩,
  ⟨("states_for_inputs", none), "states_for_inputs", "states_for_inputs", defArgs s_states_for_inputs, defBody s_states_for_inputs, defScope s_states_for_inputs, [], []⟩,
  ⟨("_combined", none), "_combined", "_combined", defArgs s__combined, defBody s__combined, defScope s__combined, [], []⟩,
  ⟨("is_start", none), "is_start", "is_start", defArgs s_is_start, defBody s_is_start, defScope s_is_start, [], []⟩,
  ⟨("_is_state", none), "_is_state", "_is_state", defArgs s__is_state, defBody s__is_state, defScope s__is_state, [], []⟩,
  ⟨("_is_within", none), "_is_within", "_is_within", defArgs s__is_within, defBody s__is_within, defScope s__is_within, [], []⟩,
  ⟨("_first_values", none), "_first_values", "_first_values", defArgs s__first_values, defBody s__first_values, defScope s__first_values, [], []⟩,
  ⟨("_law_feed", none), "_law_feed", "_law_feed", defArgs s__law_feed, defBody s__law_feed, defScope s__law_feed, [], []⟩,
  ⟨("_law_draw", none), "_law_draw", "_law_draw", defArgs s__law_draw, defBody s__law_draw, defScope s__law_draw, [], []⟩,
  ⟨("_law_any", none), "_law_any", "_law_any", defArgs s__law_any, defBody s__law_any, defScope s__law_any, [], []⟩,
  ⟨("_law_many", none), "_law_many", "_law_many", defArgs s__law_many, defBody s__law_many, defScope s__law_many, [], []⟩,
  ⟨("_law_find", none), "_law_find", "_law_find", defArgs s__law_find, defBody s__law_find, defScope s__law_find, [], []⟩,
  ⟨("_law_ranges", none), "_law_ranges", "_law_ranges", defArgs s__law_ranges, defBody s__law_ranges, defScope s__law_ranges, [], []⟩,
  ⟨("_law_states", none), "_law_states", "_law_states", defArgs s__law_states, defBody s__law_states, defScope s__law_states, [], []⟩,
  ⟨("_law_binary", none), "_law_binary", "_law_binary", defArgs s__law_binary, defBody s__law_binary, defScope s__law_binary, [], []⟩,
  ⟨("_law_value", none), "_law_value", "_law_value", defArgs s__law_value, defBody s__law_value, defScope s__law_value, [], []⟩,
  ⟨("_law_starts", none), "_law_starts", "_law_starts", defArgs s__law_starts, defBody s__law_starts, defScope s__law_starts, [], []⟩,
  ⟨("_law_cells", none), "_law_cells", "_law_cells", defArgs s__law_cells, defBody s__law_cells, defScope s__law_cells, [], []⟩,
  ⟨("_law_expr", none), "_law_expr", "_law_expr", defArgs s__law_expr, defBody s__law_expr, defScope s__law_expr, [], []⟩,
  ⟨("_law_rule", none), "_law_rule", "_law_rule", defArgs s__law_rule, defBody s__law_rule, defScope s__law_rule, [], []⟩,
  ⟨("_law_names", none), "_law_names", "_law_names", defArgs s__law_names, defBody s__law_names, defScope s__law_names, [], []⟩,
  ⟨("_law_some_pairs", none), "_law_some_pairs", "_law_some_pairs", defArgs s__law_some_pairs, defBody s__law_some_pairs, defScope s__law_some_pairs, [], []⟩,
  ⟨("_law_program", none), "_law_program", "_law_program", defArgs s__law_program, defBody s__law_program, defScope s__law_program, [], []⟩,
  ⟨("_law_odd", none), "_law_odd", "_law_odd", defArgs s__law_odd, defBody s__law_odd, defScope s__law_odd, [], []⟩,
  ⟨("_law_document", none), "_law_document", "_law_document", defArgs s__law_document, defBody s__law_document, defScope s__law_document, [], []⟩,
  ⟨("_law_case", none), "_law_case", "_law_case", defArgs s__law_case, defBody s__law_case, defScope s__law_case, [], []⟩,
  ⟨("_law_is_right", none), "_law_is_right", "_law_is_right", defArgs s__law_is_right, defBody s__law_is_right, defScope s__law_is_right, [], []⟩,
  ⟨("_law_start_right", none), "_law_start_right", "_law_start_right", defArgs s__law_start_right, defBody s__law_start_right, defScope s__law_start_right, [], []⟩,
  ⟨("law", none), "law", "law", defArgs s_law, defBody s_law, defScope s_law, [], []⟩]
def fas : List He.Fa := [.glo "row_width", .glo "cell_ranges", .glo "found_index", .glo "cell_index", .glo "value_in", .glo "evaluated", .glo "keyed_index", .glo "_lazy_value", .glo "_full_value", .glo "_of_one", .glo "value_of_two", .glo "_compared", .glo "is_integer", .glo "count_states", .glo "all_states", .glo "state_list", .glo "state_number", .glo "state_at", .glo "starts_of", .glo "start_list", .glo "states_for_inputs", .glo "_combined", .glo "is_start", .glo "_is_state", .glo "_is_within", .glo "_first_values", .glo "_law_feed", .glo "_law_draw", .glo "_law_any", .glo "_law_many", .glo "_law_find", .glo "_law_ranges", .glo "_law_states", .glo "_law_binary", .glo "_law_value", .glo "_law_starts", .glo "_law_cells", .glo "_law_expr", .glo "_law_rule", .glo "_law_names", .glo "_law_some_pairs", .glo "_law_program", .glo "_law_odd", .glo "_law_document", .glo "_law_case", .glo "_law_is_right", .glo "_law_start_right", .glo "law",
  .free "len", .free "int", .free "max", .free "min", .free "range", .free "tuple", .free "list", .free "isinstance", .free "str", .free "bool", .free "set", .free "dict", .free "sorted", .free "all", .free "enumerate", .free "repr", .free "zip", .glo "LAZY"]
def loose0 : List PySem.Str := ["OrderError", "ProgramError", "UnknownCell", "row_width", "cell_ranges", "found_index", "cell_index", "LAZY", "value_in", "evaluated", "keyed_index", "_lazy_value", "_full_value", "_of_one", "value_of_two", "_compared", "is_integer", "count_states", "all_states", "state_list", "state_number", "state_at", "starts_of", "start_list", "states_for_inputs", "_combined", "is_start", "_is_state", "_is_within", "_first_values"]
def loose1 : List PySem.Str := ["_law_feed", "_law_draw", "_law_any", "_law_many", "_law_find", "_law_ranges", "_law_states", "_law_binary", "_law_value", "_law_starts", "_law_cells", "_law_expr", "_law_rule", "_law_names", "_law_some_pairs", "_law_program", "_law_odd", "_law_document", "_law_case", "_law_is_right", "_law_start_right"]
def loose : List PySem.Str := loose0 ++ loose1
abbrev lawAt : Nat := 57
abbrev Rw : PySem.W.OpenRow := PySem.W.OpenLaw.row PySem.Challenge.rw_orderless_k16_states_listed
-- INDEX 0:row_width 1:cell_ranges 2:found_index 3:cell_index 4:value_in 5:evaluated 6:keyed_index 7:_lazy_value 8:_full_value 9:_of_one 10:value_of_two 11:_compared 12:is_integer 13:count_states 14:all_states 15:state_list 16:state_number 17:state_at 18:starts_of 19:start_list 20:states_for_inputs 21:_combined 22:is_start 23:_is_state 24:_is_within 25:_first_values 26:_law_feed 27:_law_draw 28:_law_any 29:_law_many 30:_law_find 31:_law_ranges 32:_law_states 33:_law_binary 34:_law_value 35:_law_starts 36:_law_cells 37:_law_expr 38:_law_rule 39:_law_names 40:_law_some_pairs 41:_law_program 42:_law_odd 43:_law_document 44:_law_case 45:_law_is_right 46:_law_start_right 47:law
def lazyD : List He.Dv := [.str "and", .str "or", .str "if"]
def ruleB (K : PySem.W.Frag) : Bool := He.tupB K "LAZY" lazyD
abbrev ownHook : PySem.W.Hook := He.hookX 4 fas fns [] [] ruleB
abbrev ObT : Type := He.AlX
def obT (s : PySem.W.SharedT) : ObT := He.obsX 4 fas fns [] [] ruleB (HandSHeadRun.getT s)
theorem obT_eq (s : PySem.W.SharedT) : obT s = ownHook.obs s.abs := He.obsX_eq (HandSHeadRun.getT_eq s)
set_option maxHeartbeats 0 in
theorem topRun (w : World) : HandSHeadRun.RunEq Rw (PySem.W.view Rw.prog [lawAt]) ownHook obT 9000 loose w := by
  intro os
  kernel_rfl
end K

namespace G
open PySem PySem.Spec PyProof.Rows L2

/-! ### contexts by what is asked of them; the weakest reading of a piece of syntax -/
structure Md where
  prog : Program
  w : World
  K : PySem.W.Frag
  mg : Str → Option Value
  base : Heap
structure Cd extends Md where
  N : List Str
  sc : Scope
  k : Nat
  top : Bool
  g : Bool
  ev : Option (Str × Addr)
structure Is (c : Cd) (X : Cx) : Prop where
  prog : X.prog = c.prog
  w : X.w = c.w
  K : X.K = c.K
  mg : X.mg = c.mg
  base : X.base = c.base
  N : X.N = c.N
  sc : X.env.scope = c.sc
  calm : X.calm = true
  room : Room c.k X.A
  top : c.top = true → ∀ x, X.fn x = true
  own : PassesOwn (model X.prog X.w) X.A X.env X.xe
  nd : c.N.Nodup
  gd : c.g = true → X.A.guards = some []
  evh : ∀ q a, c.ev = some (q, a) → X.env.qual = q ∧ X.env.code = .ref a

structure DLe (D D' : Ends) : Prop where
  nx : ∀ σ H, D.nx σ H → D'.nx σ H
  rt : ∀ v H, D.rt v H → D'.rt v H
  bk : ∀ σ H, D.bk σ H → D'.bk σ H
  ct : ∀ σ H, D.ct σ H → D'.ct σ H
theorem DLe.refl (D : Ends) : DLe D D := ⟨fun _ _ h => h, fun _ _ h => h, fun _ _ h => h, fun _ _ h => h⟩
theorem DLe.trans {D D1 D2 : Ends} (a : DLe D D1) (b : DLe D1 D2) : DLe D D2 := ⟨fun _ _ h => b.nx _ _ (a.nx _ _ h), fun _ _ h => b.rt _ _ (a.rt _ _ h), fun _ _ h => b.bk _ _ (a.bk _ _ h), fun _ _ h => b.ct _ _ (a.ct _ _ h)⟩

structure RE (c : Cd) (e : Expr) (σ : L2.St) (H : Hp) (Q : VK) : Prop where
  ex : ∃ t Q', (∀ X, Is c X → PE X e t) ∧ t σ H Q' ∧ ∀ v H', Q' v H' → Q v H'
structure RT (c : Cd) (e : Expr) (σ : L2.St) (H : Hp) (Q : Bool → Hp → Prop) : Prop where
  ex : ∃ t Q', (∀ X, Is c X → PT X e t) ∧ t σ H Q' ∧ ∀ v H', Q' v H' → Q v H'
structure RW (c : Cd) (e : Expr) (σ : L2.St) (H : Hp) (Q : Bool → Hp → Prop) : Prop where
  ex : ∃ t Q', (∀ X, Is c X → PW X e t) ∧ t σ H Q' ∧ ∀ v H', Q' v H' → Q v H'
structure RTs (c : Cd) (es : List Expr) (σ : L2.St) (H : Hp) (Q : Bool → Hp → Prop) : Prop where
  ex : ∃ t Q', (∀ X, Is c X → PTs X es t) ∧ t σ H Q' ∧ ∀ v H', Q' v H' → Q v H'
structure RA (c : Cd) (es : List Expr) (σ : L2.St) (H : Hp) (Q : List V → Hp → Prop) : Prop where
  ex : ∃ t Q', (∀ X, Is c X → PA X es t) ∧ t σ H Q' ∧ ∀ v H', Q' v H' → Q v H'
structure RPK (c : Cd) (es : List Keyword) (σ : L2.St) (H : Hp) (Q : List V → Hp → Prop) : Prop where
  ex : ∃ t Q', (∀ X, Is c X → PK X es t) ∧ t σ H Q' ∧ ∀ v H', Q' v H' → Q v H'
structure RS (c : Cd) (st : Stmt) (D : Ends) (σ : L2.St) (H : Hp) : Prop where
  ex : ∃ t D', (∀ X, Is c X → PS X st t) ∧ t D' σ H ∧ DLe D' D
structure RB (c : Cd) (sts : List Stmt) (D : Ends) (σ : L2.St) (H : Hp) : Prop where
  ex : ∃ t D', (∀ X, Is c X → PSs X sts t) ∧ t D' σ H ∧ DLe D' D
structure RG (c : Cd) (tg : Expr) (v : V) (σ : L2.St) (H : Hp) (Q : L2.St → Hp → Prop) : Prop where
  ex : ∃ t Q', (∀ X, Is c X → PG X tg t) ∧ t v σ H Q' ∧ ∀ v H', Q' v H' → Q v H'
structure RGs (c : Cd) (ts : List Expr) (vs : List V) (σ : L2.St) (H : Hp) (Q : L2.St → Hp → Prop) : Prop where
  ex : ∃ t Q', (∀ X, Is c X → PGs X ts t) ∧ t vs σ H Q' ∧ ∀ v H', Q' v H' → Q v H'
structure RI (c : Cd) (tg it : Expr) (σ : L2.St) (H : Hp) (R : It → Hp → Prop) : Prop where
  ex : ∃ t R', (∀ X, Is c X → PI X tg it t) ∧ t σ H R' ∧ ∀ J H', R' J H' → R J H'
structure RO (c : Cd) (op : Operator) (x y : V) (H : Hp) (Q : VK) : Prop where
  ex : ∃ r Q', (∀ X, Is c X → OpR X (binaryOp op) r) ∧ r x y H Q' ∧ ∀ v H', Q' v H' → Q v H'
structure RQ (c : Cd) (op : CmpOp) (x y : V) (H : Hp) (Q : VK) : Prop where
  ex : ∃ r Q', (∀ X, Is c X → OpR X (compareOp op) r) ∧ r x y H Q' ∧ ∀ v H', Q' v H' → Q v H'
structure RU (c : Cd) (f : UnaryOp) (x : V) (H : Hp) (Q : VK) : Prop where
  ex : ∃ r Q', (∀ X, Is c X → UnR X (unaryOp f) r) ∧ r x H Q' ∧ ∀ v H', Q' v H' → Q v H'
structure RC (c : Cd) (f : Value) (xs : List V) (H : Hp) (Q : VK) : Prop where
  ex : ∃ r Q', (∀ X, Is c X → CallR X f r) ∧ r xs H Q' ∧ ∀ v H', Q' v H' → Q v H'
structure RX (c : Cd) (x y : V) (H : Hp) (Q : VK) : Prop where
  ex : ∃ r Q', (∀ X, Is c X → IxR X r) ∧ r x y H Q' ∧ ∀ v H', Q' v H' → Q v H'
structure RSl (c : Cd) (x : V) (l u : Option Int) (H : Hp) (Q : VK) : Prop where
  ex : ∃ r Q', (∀ X, Is c X → SlR X r) ∧ r x l u H Q' ∧ ∀ v H', Q' v H' → Q v H'
structure RM (c : Cd) (id : String) (x : V) (xs : List V) (H : Hp) (Q : VK) : Prop where
  ex : ∃ r Q', (∀ X, Is c X → MtR X id r) ∧ r x xs H Q' ∧ ∀ v H', Q' v H' → Q v H'
structure RP (c : Cd) (o i v : V) (H : Hp) (Q : Hp → Prop) : Prop where
  ex : ∃ r Q', (∀ X, Is c X → PSet X r) ∧ r o i v H Q' ∧ ∀ H', Q' H' → Q H'
structure RPo (c : Cd) (e : Option Expr) (σ : L2.St) (H : Hp) (Q : Option Int → Hp → Prop) : Prop where
  ex : ∃ t Q', (∀ X, Is c X → PO X e t) ∧ t σ H Q' ∧ ∀ v H', Q' v H' → Q v H'

section
variable {c : Cd} {X : Cx} (h : Is c X)
include h
theorem pe_re {e : Expr} : PE X e (RE c e) := ⟨fun pins s σ H Q I ⟨⟨_, _, a, q, w⟩⟩ => thn ((a X h).run pins s σ H _ I q) fun _ _ ⟨v, H', I', r, q'⟩ => ⟨v, H', I', r, w _ _ q'⟩⟩
theorem pt_rt {e : Expr} : PT X e (RT c e) := ⟨fun pins s σ H Q I ⟨⟨_, _, a, q, w⟩⟩ => thn ((a X h).run pins s σ H _ I q) fun _ _ ⟨H', I', q'⟩ => ⟨H', I', w _ _ q'⟩⟩
theorem pw_rw {e : Expr} : PW X e (RW c e) := ⟨fun wh pins s σ H Q I ⟨⟨_, _, a, q, w⟩⟩ => thn ((a X h).run wh pins s σ H _ I q) fun _ _ ⟨H', I', q'⟩ => ⟨H', I', w _ _ q'⟩⟩
theorem pts_rts {es : List Expr} : PTs X es (RTs c es) := ⟨fun pins s σ H Q I ⟨⟨_, _, a, q, w⟩⟩ => thn ((a X h).run pins s σ H _ I q) fun _ _ ⟨H', I', q'⟩ => ⟨H', I', w _ _ q'⟩⟩
theorem pa_ra {es : List Expr} : PA X es (RA c es) := ⟨fun pos pins s σ H Q I ⟨⟨_, _, a, q, w⟩⟩ => thn ((a X h).run pos pins s σ H _ I q) fun _ _ ⟨v, H', I', r, q'⟩ => ⟨v, H', I', r, w _ _ q'⟩⟩
theorem pk_rk {es : List Keyword} : PK X es (RPK c es) := ⟨fun pos pins s σ H Q I ⟨⟨_, _, a, q, w⟩⟩ => thn ((a X h).run pos pins s σ H _ I q) fun _ _ ⟨v, H', I', r, q'⟩ => ⟨v, H', I', r, w _ _ q'⟩⟩
theorem SP.le {pins : List (Addr × Obj)} {D' D : Ends} (w : DLe D' D) : ∀ {f : Flow} {s' : Shared}, SP X pins D' f s' → SP X pins D f s'
  | .next, _, ⟨σ', H', I, q⟩ => ⟨σ', H', I, w.nx _ _ q⟩
  | .brk, _, ⟨σ', H', I, q⟩ => ⟨σ', H', I, w.bk _ _ q⟩
  | .cont, _, ⟨σ', H', I, q⟩ => ⟨σ', H', I, w.ct _ _ q⟩
  | .ret _, _, ⟨v, σ', H', I, r, q⟩ => ⟨v, σ', H', I, r, w.rt _ _ q⟩
theorem ps_rs {st : Stmt} : PS X st (RS c st) := ⟨fun pins s σ H D I ⟨⟨_, _, a, q, w⟩⟩ => thn ((a X h).run pins s σ H _ I q) fun _ _ q' => SP.le h w q'⟩
theorem ps_rb {sts : List Stmt} : PSs X sts (RB c sts) := ⟨fun pins s σ H D I ⟨⟨_, _, a, q, w⟩⟩ => thn ((a X h).run pins s σ H _ I q) fun _ _ q' => SP.le h w q'⟩
theorem pg_rg {tg : Expr} : PG X tg (RG c tg) := ⟨fun pins s σ H v u Q I r ⟨⟨_, _, a, q, w⟩⟩ => thn ((a X h).run pins s σ H v u _ I r q) fun _ _ ⟨σ', H', I', q'⟩ => ⟨σ', H', I', w _ _ q'⟩⟩
theorem pg_rgs {ts : List Expr} : PGs X ts (RGs c ts) := ⟨fun pins s σ H vs us Q I r ⟨⟨_, _, a, q, w⟩⟩ => thn ((a X h).run pins s σ H vs us _ I r q) fun _ _ ⟨σ', H', I', q'⟩ => ⟨σ', H', I', w _ _ q'⟩⟩
theorem pi_ri {tg it : Expr} : PI X tg it (RI c tg it) := ⟨fun pins s σ H R I ⟨⟨_, _, a, q, w⟩⟩ => thn ((a X h).run pins s σ H _ I q) fun _ _ z => thn z fun _ _ ⟨it, fp, tn, J, H', e, I', T, t0, f, q'⟩ => ⟨it, fp, tn, J, H', e, I', T, t0, f, w _ _ q'⟩⟩
theorem EP.le {pins : List (Addr × Obj)} {σ : L2.St} {Q' Q : VK} {u : Value} {s' : Shared} (w : ∀ v H', Q' v H' → Q v H') : EP X pins σ Q' u s' → EP X pins σ Q u s' := fun ⟨v, H', I', r, q'⟩ => ⟨v, H', I', r, w _ _ q'⟩
theorem op_ro {op : Operator} : OpR X (binaryOp op) (RO c op) := fun pins s σ H x y v u Q I r1 r2 ⟨⟨_, _, a, q, w⟩⟩ => thn (a X h pins s σ H x y v u _ I r1 r2 q) fun _ _ z => EP.le h w z
theorem op_rq {op : CmpOp} : OpR X (compareOp op) (RQ c op) := fun pins s σ H x y v u Q I r1 r2 ⟨⟨_, _, a, q, w⟩⟩ => thn (a X h pins s σ H x y v u _ I r1 r2 q) fun _ _ z => EP.le h w z
theorem un_ru {f : UnaryOp} : UnR X (unaryOp f) (RU c f) := fun pins s σ H x v Q I r ⟨⟨_, _, a, q, w⟩⟩ => thn (a X h pins s σ H x v _ I r q) fun _ _ z => EP.le h w z
theorem call_rc {f : Value} : CallR X f (RC c f) := fun pins s σ H xs us Q I r ⟨⟨_, _, a, q, w⟩⟩ => thn (a X h pins s σ H xs us _ I r q) fun _ _ z => EP.le h w z
theorem ix_rx : IxR X (RX c) := by
  intro value slice pins s σ H x y v u Q I r1 r2 q0 hs
  obtain ⟨⟨_, _, a, q, w⟩⟩ := q0
  exact thn (a X h value slice pins s σ H x y v u _ I r1 r2 q hs) fun _ _ z => EP.le h w z
theorem sl_rs : SlR X (RSl c) := by
  intro pins s σ H x v vl vu lo hi sl Q I rx hs pl pu ⟨⟨_, _, a, q, w⟩⟩
  obtain ⟨T, id, h1, h2, h3⟩ := a X h pins s σ H x v vl vu lo hi sl _ I rx hs pl pu q
  exact ⟨T, id, h1, h2, thn h3 fun _ _ z => EP.le h w z⟩
theorem mt_rm {id : String} : MtR X id (RM c id) := by
  intro pins s σ H x xs v us Q I r1 r2 ⟨⟨_, _, a, q, w⟩⟩
  exact thn (a X h pins s σ H x xs v us _ I r1 r2 q) fun _ _ z => EP.le h w z
theorem set_rp : PSet X (RP c) := by
  intro pins s σ H o i v ov iv u Q I r1 r2 r3 ⟨⟨_, _, a, q, w⟩⟩
  exact thn (a X h pins s σ H o i v ov iv u _ I r1 r2 r3 q) fun _ _ ⟨H', I', q'⟩ => ⟨H', I', w _ q'⟩
theorem po_rp {e : Option Expr} : PO X e (RPo c e) := ⟨fun pins s σ H Q I ⟨⟨_, _, a, q, w⟩⟩ => thn ((a X h).run pins s σ H _ I q) fun _ _ ⟨o, H', I', p, q'⟩ => ⟨o, H', I', p, w _ _ q'⟩⟩
end
section
variable {c : Cd} {σ : L2.St} {H : Hp} {Q Q' : VK} {B B' : Bool → Hp → Prop} {D D' : Ends}
theorem re_of {e : Expr} {t : TE} (h : ∀ X, Is c X → PE X e t) (q : t σ H Q) : RE c e σ H Q := ⟨⟨t, Q, h, q, fun _ _ z => z⟩⟩
theorem rt_of {e : Expr} {t : TT} (h : ∀ X, Is c X → PT X e t) (q : t σ H B) : RT c e σ H B := ⟨⟨t, B, h, q, fun _ _ z => z⟩⟩
theorem rw_of {e : Expr} {t : TT} (h : ∀ X, Is c X → PW X e t) (q : t σ H B) : RW c e σ H B := ⟨⟨t, B, h, q, fun _ _ z => z⟩⟩
theorem rts_of {es : List Expr} {t : TT} (h : ∀ X, Is c X → PTs X es t) (q : t σ H B) : RTs c es σ H B := ⟨⟨t, B, h, q, fun _ _ z => z⟩⟩
theorem ra_of {es : List Expr} {t : TA} {Q : List V → Hp → Prop} (h : ∀ X, Is c X → PA X es t) (q : t σ H Q) : RA c es σ H Q := ⟨⟨t, Q, h, q, fun _ _ z => z⟩⟩
theorem rk_of {es : List Keyword} {t : TA} {Q : List V → Hp → Prop} (h : ∀ X, Is c X → PK X es t) (q : t σ H Q) : RPK c es σ H Q := ⟨⟨t, Q, h, q, fun _ _ z => z⟩⟩
theorem rs_of {st : Stmt} {t : TS} (h : ∀ X, Is c X → PS X st t) (q : t D σ H) : RS c st D σ H := ⟨⟨t, D, h, q, DLe.refl D⟩⟩
theorem rb_of {st : List Stmt} {t : TS} (h : ∀ X, Is c X → PSs X st t) (q : t D σ H) : RB c st D σ H := ⟨⟨t, D, h, q, DLe.refl D⟩⟩
theorem rg_of {tg : Expr} {t : TG} {v : V} {Q : L2.St → Hp → Prop} (h : ∀ X, Is c X → PG X tg t) (q : t v σ H Q) : RG c tg v σ H Q := ⟨⟨t, Q, h, q, fun _ _ z => z⟩⟩
theorem rgs_of {tg : List Expr} {t : TGs} {v : List V} {Q : L2.St → Hp → Prop} (h : ∀ X, Is c X → PGs X tg t) (q : t v σ H Q) : RGs c tg v σ H Q := ⟨⟨t, Q, h, q, fun _ _ z => z⟩⟩
theorem ri_of {tg it : Expr} {t : TI} {R : It → Hp → Prop} (h : ∀ X, Is c X → PI X tg it t) (q : t σ H R) : RI c tg it σ H R := ⟨⟨t, R, h, q, fun _ _ z => z⟩⟩
theorem ro_of {op : Operator} {r : R2} {x y : V} (h : ∀ X, Is c X → OpR X (binaryOp op) r) (q : r x y H Q) : RO c op x y H Q := ⟨⟨r, Q, h, q, fun _ _ z => z⟩⟩
theorem rq_of {op : CmpOp} {r : R2} {x y : V} (h : ∀ X, Is c X → OpR X (compareOp op) r) (q : r x y H Q) : RQ c op x y H Q := ⟨⟨r, Q, h, q, fun _ _ z => z⟩⟩
theorem ru_of {f : UnaryOp} {r : V → Hp → VK → Prop} {x : V} (h : ∀ X, Is c X → UnR X (unaryOp f) r) (q : r x H Q) : RU c f x H Q := ⟨⟨r, Q, h, q, fun _ _ z => z⟩⟩
theorem rc_of {f : Value} {r : List V → Hp → VK → Prop} {xs : List V} (h : ∀ X, Is c X → CallR X f r) (q : r xs H Q) : RC c f xs H Q := ⟨⟨r, Q, h, q, fun _ _ z => z⟩⟩
theorem rx_of {r : R2} {x y : V} (h : ∀ X, Is c X → IxR X r) (q : r x y H Q) : RX c x y H Q := ⟨⟨r, Q, h, q, fun _ _ z => z⟩⟩
theorem rsl_of {r : V → Option Int → Option Int → Hp → VK → Prop} {x : V} {l u : Option Int} (h : ∀ X, Is c X → SlR X r) (q : r x l u H Q) : RSl c x l u H Q := ⟨⟨r, Q, h, q, fun _ _ z => z⟩⟩
theorem rm_of {id : String} {r : V → List V → Hp → VK → Prop} {x : V} {xs : List V} (h : ∀ X, Is c X → MtR X id r) (q : r x xs H Q) : RM c id x xs H Q := ⟨⟨r, Q, h, q, fun _ _ z => z⟩⟩
theorem rp_of {r : TSet} {o i v : V} {Q : Hp → Prop} (h : ∀ X, Is c X → PSet X r) (q : r o i v H Q) : RP c o i v H Q := ⟨⟨r, Q, h, q, fun _ z => z⟩⟩
theorem rpo_of {e : Option Expr} {t : TO} {Q : Option Int → Hp → Prop} (h : ∀ X, Is c X → PO X e t) (q : t σ H Q) : RPo c e σ H Q := ⟨⟨t, Q, h, q, fun _ _ z => z⟩⟩
theorem RE.mono {e : Expr} (w : ∀ v H', Q v H' → Q' v H') : RE c e σ H Q → RE c e σ H Q' := fun ⟨⟨t, Q1, h, q, z⟩⟩ => ⟨⟨t, Q1, h, q, fun _ _ y => w _ _ (z _ _ y)⟩⟩
theorem RT.mono {e : Expr} (w : ∀ v H', B v H' → B' v H') : RT c e σ H B → RT c e σ H B' := fun ⟨⟨t, Q1, h, q, z⟩⟩ => ⟨⟨t, Q1, h, q, fun _ _ y => w _ _ (z _ _ y)⟩⟩
theorem RTs.mono {e : List Expr} (w : ∀ v H', B v H' → B' v H') : RTs c e σ H B → RTs c e σ H B' := fun ⟨⟨t, Q1, h, q, z⟩⟩ => ⟨⟨t, Q1, h, q, fun _ _ y => w _ _ (z _ _ y)⟩⟩
theorem RA.mono {e : List Expr} {Q Q' : List V → Hp → Prop} (w : ∀ v H', Q v H' → Q' v H') : RA c e σ H Q → RA c e σ H Q' := fun ⟨⟨t, Q1, h, q, z⟩⟩ => ⟨⟨t, Q1, h, q, fun _ _ y => w _ _ (z _ _ y)⟩⟩
theorem RG.mono {e : Expr} {v : V} {Q Q' : L2.St → Hp → Prop} (w : ∀ v H', Q v H' → Q' v H') : RG c e v σ H Q → RG c e v σ H Q' := fun ⟨⟨t, Q1, h, q, z⟩⟩ => ⟨⟨t, Q1, h, q, fun _ _ y => w _ _ (z _ _ y)⟩⟩
theorem RI.mono {tg it : Expr} {R R' : It → Hp → Prop} (w : ∀ v H', R v H' → R' v H') : RI c tg it σ H R → RI c tg it σ H R' := fun ⟨⟨t, Q1, h, q, z⟩⟩ => ⟨⟨t, Q1, h, q, fun _ _ y => w _ _ (z _ _ y)⟩⟩
theorem RO.mono {f : Operator} {x y : V} (w : ∀ v H', Q v H' → Q' v H') : RO c f x y H Q → RO c f x y H Q' := fun ⟨⟨t, Q1, h, q, z⟩⟩ => ⟨⟨t, Q1, h, q, fun _ _ y => w _ _ (z _ _ y)⟩⟩
theorem RS.mono {st : Stmt} (w : DLe D D') : RS c st D σ H → RS c st D' σ H := fun ⟨⟨t, Q1, h, q, z⟩⟩ => ⟨⟨t, Q1, h, q, z.trans w⟩⟩
theorem RB.mono {st : List Stmt} (w : DLe D D') : RB c st D σ H → RB c st D' σ H := fun ⟨⟨t, Q1, h, q, z⟩⟩ => ⟨⟨t, Q1, h, q, z.trans w⟩⟩
end
theorem kEq {c : Cd} {X : Cx} (h : Is c X) {p : PySem.W.Frag → Prop} (a : p X.K) : p c.K := h.K ▸ a

/-- the place of a name -/
inductive At : List Str → Nat → Str → Prop
  | z {x : Str} {l : List Str} : At (x :: l) 0 x
  | s {x y : Str} {l : List Str} {i : Nat} (h : At l i x) : At (y :: l) (i + 1) x
theorem At.get {x : Str} : ∀ {l : List Str} {i : Nat}, At l i x → l[i]? = some x
  | _, _, .z => rfl
  | _, _, .s h => by simpa using At.get h
/-! ### expressions -/
section
variable {c : Cd} {σ : L2.St} {H : Hp} {Q : VK} {pos : Pos}
theorem e_int {i : Int} {j} (q : Q (.int i) H) : RE c (.Constant (.int i) j pos) σ H Q := re_of (fun _ _ => pe_int) q
theorem e_bl {b : Bool} {j} (q : Q (.bl b) H) : RE c (.Constant (.bool b) j pos) σ H Q := re_of (fun _ _ => pe_bl) q
theorem e_non {j} (q : Q .non H) : RE c (.Constant .none j pos) σ H Q := re_of (fun _ _ => pe_non) q
theorem e_str {x : Str} {j} (q : Q (.str x) H) : RE c (.Constant (.str x) j pos) σ H Q := re_of (fun _ _ => pe_str) q
theorem e_var {i : Nat} {x : Str} {v : V} (hA : At c.N i x) (q : Q v H) (hσ : σ[i]? = some (some v) := by rfl)
    (hv : Vis c.sc x := by first | exact Or.inl rfl | exact Or.inr (Or.inl rfl) | exact Or.inr (Or.inr rfl)) (hd : (x == ("__debug__" : Str)) = false := by decide) (hcd : (x == ("__classdict__" : Str)) = false := by decide) :
    RE c (.Name x pos) σ H Q := re_of (fun X h => pe_var (i := i) (by rw [h.N]; exact hA.get) (by rw [h.sc]; exact hv) hd hcd) ⟨v, hσ, q⟩
theorem gl_of {X : Cx} (h : Is c X) {x : Str} (hg : c.sc.names.lookup x = some .globalImplicit) : Gl X x := by
  show X.env.scope.names.lookup x = _
  rw [h.sc]; exact hg
/-- a module's constant -/
theorem e_glob {x : Str} {v : V} {u : Value} (hm : c.mg x = some u) (r : RelV v u) (q : Q v H) (hg : c.sc.names.lookup x = some .globalImplicit := by rfl) (hd : (x == ("__debug__" : Str)) = false := by decide) : RE c (.Name x pos) σ H Q :=
  re_of (fun X h => pe_glob (gl_of h hg) (by rw [h.mg]; exact hm) r hd) q
theorem e_bltn {x : Str} {v : V} {u : Value} (hm : c.mg x = none) (hv : bootBuiltins x = some u) (r : RelV v u) (q : Q v H) (hg : c.sc.names.lookup x = some .globalImplicit := by rfl) (hn : x ≠ "__name__" := by decide) (hd : (x == ("__debug__" : Str)) = false := by decide) :
    RE c (.Name x pos) σ H Q := re_of (fun X h => pe_bltn (gl_of h hg) (by rw [h.mg]; exact hm) hv r hn hd) q
theorem e_bin {a b : Expr} {op : Operator} (q : RE c a σ H fun x H1 => RE c b σ H1 fun y H2 => RO c op x y H2 Q) : RE c (.BinOp a op b pos) σ H Q :=
  re_of (fun X h => pe_op (op_ro h) (pe_re h) (pe_re h)) q
theorem e_un {a : Expr} {op : UnaryOp} (q : RE c a σ H fun x H1 => RU c op x H1 Q) : RE c (.UnaryOp op a pos) σ H Q :=
  re_of (fun X h => pe_un (un_ru h) (pe_re h)) q
theorem e_cmp {a b : Expr} {op : CmpOp} (q : RE c a σ H fun x H1 => RE c b σ H1 fun y H2 => RQ c op x y H2 Q) (hm : behindInMarks op b = false := by first | rfl | exact nomark _) : RE c (.Compare a [op] [b] pos) σ H Q :=
  re_of (fun X h => pe_cmpR (op_rq h) (pe_re h) (pe_re h) hm) q
theorem e_chain {a b d : Expr} {op op' : CmpOp} (q : RE c a σ H fun x H1 => RE c b σ H1 fun y H2 => RQ c op x y H2 fun z H3 => ∃ k, z = .bl k ∧ (if k = true then RE c d σ H3 fun w' H4 => RQ c op' y w' H4 Q else Q (.bl false) H3))
    (hm : lastMarks [op, op'] [b, d] = false := by with_unfolding_all rfl) : RE c (.Compare a [op, op'] [b, d] pos) σ H Q :=
  re_of (t := tChain (RQ c op) (RQ c op') (RE c a) (RE c b) (RE c d)) (fun X h => pe_chain (op_rq h) (op_rq h) (pe_re h) (pe_re h) (pe_re h) hm) q
theorem e_one {a : Expr} {op} (q : RE c a σ H Q) : RE c (.BoolOp op [a] pos) σ H Q := re_of (fun X h => pe_one (pe_re h)) q
theorem e_and {a b : Expr} {rest : List Expr} (q : RE c a σ H fun x H1 => ∃ k, x = .bl k ∧ if k = true then RE c (.BoolOp .And (b :: rest) pos) σ H1 Q else Q (.bl false) H1) : RE c (.BoolOp .And (a :: b :: rest) pos) σ H Q :=
  re_of (fun X h => pe_and (pe_re h) (pe_re h)) q
theorem e_or {a b : Expr} {rest : List Expr} (q : RE c a σ H fun x H1 => ∃ k, x = .bl k ∧ if k = true then Q (.bl true) H1 else RE c (.BoolOp .Or (b :: rest) pos) σ H1 Q) : RE c (.BoolOp .Or (a :: b :: rest) pos) σ H Q :=
  re_of (fun X h => pe_or (pe_re h) (pe_re h)) q
theorem e_not {a : Expr} (q : RE c a σ H fun x H1 => ∃ k, x = .bl k ∧ Q (.bl (!k)) H1) : RE c (.UnaryOp .Not a pos) σ H Q :=
  re_of (fun X h => pe_not (pe_re h)) q
theorem e_if {a b d : Expr} (q : RT c d σ H fun k H1 => if k = true then RE c a σ H1 Q else RE c b σ H1 Q) : RE c (.IfExp d a b pos) σ H Q :=
  re_of (fun X h => pe_ifExp (pt_rt h) (pe_re h) (pe_re h)) q
theorem a_nil {Q : List V → Hp → Prop} (q : Q [] H) : RA c [] σ H Q := ra_of (fun _ _ => pa_nil) q
theorem a_cons {Q : List V → Hp → Prop} {e : Expr} {es : List Expr} (q : RE c e σ H fun x H1 => RA c es σ H1 fun xs H2 => Q (x :: xs) H2) (hs : ∀ env, starEach (e :: es) env = (false, eval e env) :: starEach es env := by intro _; rfl) : RA c (e :: es) σ H Q :=
  ra_of (fun X h => pa_cons (pe_re h) (pa_ra h) (hs _)) q
theorem e_tup {es : List Expr} {x1} (q : RA c es σ H fun xs H1 => xs.length ≤ sizeLine ∧ ∀ p, H1 p = none → Q (.ref p) (upd H1 p (.tup xs))) : RE c (.Tuple es x1 pos) σ H Q :=
  re_of (fun X h => pe_tup (pa_ra h)) q
theorem e_lst {es : List Expr} (q : RA c es σ H fun xs H1 => xs.length ≤ sizeLine ∧ ∀ p, H1 p = none → Q (.ref p) (upd H1 p (.lst xs))) : RE c (.List es pos) σ H Q :=
  re_of (fun X h => pe_lst (pa_ra h)) q
theorem e_ix {a b : Expr} (q : RE c a σ H fun x H1 => RE c b σ H1 fun y H2 => RX c x y H2 Q) (hs : PlainIx b := by intro _ _; rfl) : RE c (.Subscript a b pos) σ H Q :=
  re_of (fun X h => pe_ix (ix_rx h) (pe_re h) (pe_re h) hs) q
theorem e_dget {a b : Expr} (q : RE c a σ H fun x H1 => RE c b σ H1 fun y H2 => ∃ a v, x = .ref a ∧ DGet H2 a y (some v) ∧ Q v H2) (hs : NoSl b := by intro _ _; rfl) : RE c (.Subscript a b pos) σ H Q :=
  re_of (fun X h => pe_dget (by have := h.room.units; omega) (pe_re h) (pe_re h) hs) q
theorem p_none {Q : Option Int → Hp → Prop} (q : Q none H) : RPo c none σ H Q := rpo_of (fun _ _ => po_none) q
theorem p_some {e : Expr} {Q : Option Int → Hp → Prop} (q : RE c e σ H fun x H1 => ∃ i, x = .int i ∧ Q (some i) H1) : RPo c (some e) σ H Q := rpo_of (fun _ h => po_some (pe_re h)) q
theorem e_slice {e : Expr} {lo hi : Option Expr} {p2 : Pos} (q : RE c e σ H fun x H1 => RPo c lo σ H1 fun l H2 => RPo c hi σ H2 fun u H3 => RSl c x l u H3 Q) : RE c (.Subscript e (.Slice lo hi none p2) pos) σ H Q :=
  re_of (fun _ h => pe_slice (sl_rs h) (pe_re h) (po_rp h) (po_rp h)) q
/-! ### defs, where no text of an object is being written (what repr asks for) -/
structure FnQ (P : Program) (w : World) (K : PySem.W.Frag) (mg : Str → Option Value) (base : Heap) (CX : CXT) (k : Nat) (f : Addr) (fd : FuncData) (ps : List Str) (sp : Sp) : Prop where
  len : ∀ vs H Q E, sp vs H Q E → vs.length = ps.length
  run : ∀ (A : Around) (up : List Env) (st : Shared) (H : Hp) (ag : Args) (us : List Value) (vs : List V) (Q : VK) (E : XK), A.guards = some [] → Room k A → Env0 P w K mg base A up st H → BindsTo st fd ag (ps.zip us) → Vals vs us → sp vs H Q E →
    codeAny (model P w) A (.call (.ref f) ag) (CR CX up P w H st Q E) st
theorem fnQ_of {CX : CXT} {P : Program} {w : World} {K : PySem.W.Frag} {mg : Str → Option Value} {base : Heap} {k : Nat} {f : Addr} {x qual : Str} {pas : Arguments} {bd : List Stmt} {sco : Scope} {dV kV doc pm cdv ct oc : Value} {an od : Option Addr} {osl : Array (Option Value)} {N ps : List Str} {sp : Sp}
    (at_ : K.lookup f = some ⟨oc, od, .func (PySem.W.fnOf x qual pas bd sco dV kV doc pm an cdv ct), osl⟩) (cod : PySem.W.codeIn K cdv qual = true) (S : FnScope N ps sco) (len : ∀ vs H Q E, sp vs H Q E → vs.length = ps.length)
    (walk : ∀ (A : Around) (up : List Env) (st : Shared) (H : Hp) (vs : List V) (Q : VK) (E : XK), A.guards = some [] → Room k (A.deeper (envOfC qual sco st.heap.objs.size f cdv)) → sp vs H Q E →
      ∃ t, PSs (cxOf CX P w K mg base N qual sco f cdv A up st H E) bd t ∧ t { nx := fun _ H' => Q .non H', rt := Q } (start N vs) H) : FnQ P w K mg base CX (k + 1) f (PySem.W.fnOf x qual pas bd sco dV kV doc pm an cdv ct) ps sp := by
  refine ⟨len, fun A up st H ag us vs Q E quiet room en bt vv want => ?_⟩
  have many := len vs H Q E want
  have here : ∀ b o, base.get? b = some o → st.heap.get? b = some o := fun b o e => (en.bs b o e).1
  have inK : K.In st.heap := en.mod.kin.keeps here
  have free : st.heap.NoLimit := en.mod.nolimit.keeps here
  have kinds : ∀ z ∈ ps.zip us, sco.names.lookup z.1 = some .local ∨ (sco.names.lookup z.1 = some .cell ∧ ((cellsFrom (st.heap.objs.size + 1) sco.names []).lookup z.1).isSome = true) := by
    rintro ⟨n, v⟩ hz
    exact (S.par n (List.of_mem_zip hz).1).imp id fun q => ⟨q, PySem.W.cellsFrom_some _ _ _ (.inl q)⟩
  refine codeAny_call_function room.depth (inK _ _ at_) rfl S.co S.gen rfl (PySem.W.codeRec_of inK cod) (bt _ _ _ _ (wpAny_newFunctionEnv_cells S.kind kinds fun env same s1 made => ?_))
  subst same
  refine ⟨free.keeps made.toInCall.keep, codeAny_func ?_⟩
  obtain ⟨t, runs, goal⟩ := walk A up st H vs Q E quiet (room.deeper _) want
  have J : Inv (cxOf CX P w K mg base N qual sco f cdv A up st H E) [] (start N vs) H s1 := inv_start S room.hd en many vv made
  refine wpAny_mono (runs.run [] s1 (start N vs) H _ J goal) (fun fl s2 e => ?_) fun _ _ e => e
  cases fl with
  | ret u => exact let ⟨v, _, H2, J2, rv, q⟩ := e; ⟨v, H2, J2.os, J2.bare, J2.base, J2.hok, rv, q⟩
  | next => exact let ⟨_, H2, J2, q⟩ := e; ⟨V.non, H2, J2.os, J2.bare, J2.base, J2.hok, (rfl : Value.none = Value.none), q⟩
  | brk => exact (let ⟨_, _, _, q⟩ := e; False.elim q)
  | cont => exact (let ⟨_, _, _, q⟩ := e; False.elim q)
section
variable {X : Cx} {k : Nat} {f : Addr} {fd : FuncData} {ps : List Str} {sp : Sp} {dvs : List V} {ds : List Value} {x : Str} {p pos : Pos} {e : Expr} {es : List Expr} {t : TA}
abbrev noX : CXT := fun _ _ _ _ _ _ => False
theorem runQ {pins : List (Addr × Obj)} {σ : L2.St} {H : Hp} {st : Shared} {Q : VK} {us : List Value} {vs : List V} (F : FnQ X.prog X.w X.K X.mg X.base noX k f fd ps sp) (quiet : X.A.guards = some []) (room : Room k X.A) (bn : Binds X.K fd ps ds) (dv : Vals dvs ds)
    (J : Inv X pins σ H st) (vv : Vals vs us) (want : sp (vs ++ dvs) H Q fun _ _ _ => False) : wpAny (model X.prog X.w) X.A (call (.ref f) us) (EP X pins σ Q) X.xe st := by
  have all := vv.append dv
  have many : (us ++ ds).length = ps.length := all.length.symm.trans (F.len _ _ _ _ want)
  refine wpAny_call (codeAny_mono (F.run X.A X.stack st H ⟨us, []⟩ _ _ Q _ quiet room J.env0 (bn st us J.kIn many) all want) fun r s2 z => ?_)
  match r, z with
  | .ok (.ret u), z => exact J.after z
theorem peQ_call (F : FnQ X.prog X.w X.K X.mg X.base noX k f fd ps sp) (quiet : X.A.guards = some []) (room : Room k X.A) (gl : Gl X x) (hm : X.mg x = some (.ref f)) (kp : PySem.W.keepIn X.K (.ref f) = true) (bn : Binds X.K fd ps ds) (dv : Vals dvs ds)
    (ha : PA X (e :: es) t) (hdb : (x == ("__debug__" : Str)) = false) (he : starEach (e :: es) X.env = (false, eval e X.env) :: starEach es X.env) (hpl : (backTo pos (starEach es X.env)).any (·.1) = false) : PE X (.Call (.Name x p) (e :: es) [] pos) (tCall sp dvs (fun _ _ _ => False) t) := by
  constructor
  intro pins st σ H Q J z
  apply wpAny_Call_Name_kw
  apply ld_glob J gl hm _ hdb
  exact PySem.W.callWith_K (h₀ := X.base) J.ok.mod.kin kp (thn (ha.run pos pins st σ H _ J z) fun us s1 ⟨vs, H1, J1, vv, q⟩ => ⟨J1.kIn, runQ F quiet room bn dv J1 vv q⟩) he hpl
theorem peQ_call0 (F : FnQ X.prog X.w X.K X.mg X.base noX k f fd ps sp) (quiet : X.A.guards = some []) (room : Room k X.A) (gl : Gl X x) (hm : X.mg x = some (.ref f)) (kp : PySem.W.keepIn X.K (.ref f) = true) (bn : Binds X.K fd ps ds) (dv : Vals dvs ds)
    (hdb : (x == ("__debug__" : Str)) = false) : PE X (.Call (.Name x p) [] [] pos) (tCall sp dvs (fun _ _ _ => False) tNil) := by
  constructor
  intro pins st σ H Q J z
  apply wpAny_Call_Name_kw
  apply ld_glob J gl hm _ hdb
  exact PySem.W.callWith_K0 J.kIn kp (runQ (us := []) F quiet room bn dv J .nil z)
end
abbrev FnG := @FnOk
/-! ### calls -/
/-- a def at the module's name x -/
structure Dc (c : Md) (x : Str) (ps : List Str) (k : Nat) (sp : Sp) : Prop where
  ex : ∃ (f : Addr) (fd : FuncData), FnG c.prog c.w c.K c.mg c.base noX k f fd ps sp ∧ c.mg x = some (.ref f) ∧ PySem.W.keepIn c.K (.ref f) = true ∧ Binds c.K fd ps []
theorem e_call {x : Str} {p : Pos} {e : Expr} {es : List Expr} {ps : List Str} {k : Nat} {sp : Sp} (D : Dc c.toMd x ps k sp) (q : RA c (e :: es) σ H fun vs H1 => sp vs H1 Q fun _ _ _ => False) (hk : k ≤ c.k := by exact Nat.le_of_ble_eq_true rfl) (hg : c.sc.names.lookup x = some .globalImplicit := by rfl)
    (hdb : (x == ("__debug__" : Str)) = false := by decide) (he : ∀ env, starEach (e :: es) env = (false, eval e env) :: starEach es env := by intro _; rfl) (hpl : ∀ env, (backTo pos (starEach es env)).any (·.1) = false := by intro _; rfl) :
    RE c (.Call (.Name x p) (e :: es) [] pos) σ H Q := by
  obtain ⟨f, fd, F, hm, hkp, hb⟩ := D.ex
  refine re_of (t := tCall sp [] (fun _ _ _ => False) (RA c (e :: es))) (fun X h => ?_) ?_
  · refine pe_call (CX := fun _ _ _ _ _ _ => False) (k := k) (f := f) (fd := fd) (ps := ps) (ds := []) ?_ (h.room.mono hk) (gl_of h hg) (by rw [h.mg]; exact hm) (by rw [h.K]; exact hkp) (by rw [h.K]; exact hb) .nil (fun _ _ _ _ _ _ _ z => z.elim) (pa_ra h) hdb (he _) (hpl _)
    rw [h.prog, h.w, h.K, h.mg, h.base]; exact F
  · show RA c (e :: es) σ H fun vs H1 => sp (vs ++ []) H1 Q fun _ _ _ => False
    simpa only [List.append_nil] using q
theorem e_call0 {x : Str} {p : Pos} {ps : List Str} {k : Nat} {sp : Sp} (D : Dc c.toMd x ps k sp) (q : sp [] H Q fun _ _ _ => False) (hk : k ≤ c.k := by exact Nat.le_of_ble_eq_true rfl) (hg : c.sc.names.lookup x = some .globalImplicit := by rfl)
    (hdb : (x == ("__debug__" : Str)) = false := by decide) : RE c (.Call (.Name x p) [] [] pos) σ H Q := by
  obtain ⟨f, fd, F, hm, hkp, hb⟩ := D.ex
  refine re_of (t := tCall sp [] (fun _ _ _ => False) tNil) (fun X h => ?_) q
  refine pe_call0 (CX := fun _ _ _ _ _ _ => False) (k := k) (f := f) (fd := fd) (ps := ps) (ds := []) ?_ (h.room.mono hk) (gl_of h hg) (by rw [h.mg]; exact hm) (by rw [h.K]; exact hkp) (by rw [h.K]; exact hb) .nil (fun _ _ _ _ _ _ _ z => z.elim) hdb
  rw [h.prog, h.w, h.K, h.mg, h.base]; exact F
/-- a def at the module's name x -/
structure DcQ (c : Md) (x : Str) (ps : List Str) (k : Nat) (sp : Sp) : Prop where
  ex : ∃ (f : Addr) (fd : FuncData), FnQ c.prog c.w c.K c.mg c.base noX k f fd ps sp ∧ c.mg x = some (.ref f) ∧ PySem.W.keepIn c.K (.ref f) = true ∧ Binds c.K fd ps []
theorem e_callQ {x : Str} {p : Pos} {e : Expr} {es : List Expr} {ps : List Str} {k : Nat} {sp : Sp} (D : DcQ c.toMd x ps k sp) (q : RA c (e :: es) σ H fun vs H1 => sp vs H1 Q fun _ _ _ => False) (hq : c.g = true := by rfl) (hk : k ≤ c.k := by exact Nat.le_of_ble_eq_true rfl) (hg : c.sc.names.lookup x = some .globalImplicit := by rfl)
    (hdb : (x == ("__debug__" : Str)) = false := by decide) (he : ∀ env, starEach (e :: es) env = (false, eval e env) :: starEach es env := by intro _; rfl) (hpl : ∀ env, (backTo pos (starEach es env)).any (·.1) = false := by intro _; rfl) :
    RE c (.Call (.Name x p) (e :: es) [] pos) σ H Q := by
  obtain ⟨f, fd, F, hm, hkp, hb⟩ := D.ex
  refine re_of (t := tCall sp [] (fun _ _ _ => False) (RA c (e :: es))) (fun X h => ?_) ?_
  · refine peQ_call (k := k) (f := f) (fd := fd) (ps := ps) (ds := []) ?_ (h.gd hq) (h.room.mono hk) (gl_of h hg) (by rw [h.mg]; exact hm) (by rw [h.K]; exact hkp) (by rw [h.K]; exact hb) .nil (pa_ra h) hdb (he _) (hpl _)
    rw [h.prog, h.w, h.K, h.mg, h.base]; exact F
  · show RA c (e :: es) σ H fun vs H1 => sp (vs ++ []) H1 Q fun _ _ _ => False
    simpa only [List.append_nil] using q
theorem e_callQ0 {x : Str} {p : Pos} {ps : List Str} {k : Nat} {sp : Sp} (D : DcQ c.toMd x ps k sp) (q : sp [] H Q fun _ _ _ => False) (hq : c.g = true := by rfl) (hk : k ≤ c.k := by exact Nat.le_of_ble_eq_true rfl) (hg : c.sc.names.lookup x = some .globalImplicit := by rfl)
    (hdb : (x == ("__debug__" : Str)) = false := by decide) : RE c (.Call (.Name x p) [] [] pos) σ H Q := by
  obtain ⟨f, fd, F, hm, hkp, hb⟩ := D.ex
  refine re_of (t := tCall sp [] (fun _ _ _ => False) tNil) (fun X h => ?_) q
  refine peQ_call0 (k := k) (f := f) (fd := fd) (ps := ps) (ds := []) ?_ (h.gd hq) (h.room.mono hk) (gl_of h hg) (by rw [h.mg]; exact hm) (by rw [h.K]; exact hkp) (by rw [h.K]; exact hb) .nil hdb
  rw [h.prog, h.w, h.K, h.mg, h.base]; exact F
theorem e_callB {x : Str} {id : String} {p : Pos} {e : Expr} {es : List Expr} (hm : c.mg x = none) (hv : bootBuiltins x = some (.builtin id)) (q : RA c (e :: es) σ H fun vs H1 => RC c (.builtin id) vs H1 Q) (hg : c.sc.names.lookup x = some .globalImplicit := by rfl) (hn : x ≠ "__name__" := by decide) (hdb : (x == ("__debug__" : Str)) = false := by decide)
    (he : ∀ env, starEach (e :: es) env = (false, eval e env) :: starEach es env := by intro _; rfl) (hpl : ∀ env, (backTo pos (starEach es env)).any (·.1) = false := by intro _; rfl) : RE c (.Call (.Name x p) (e :: es) [] pos) σ H Q :=
  re_of (fun X h => pe_callB (call_rc h) (gl_of h hg) (by rw [h.mg]; exact hm) hv (pa_ra h) hn hdb (he _) (hpl _)) q
theorem e_callT {x : Str} {T : String} {p : Pos} {e : Expr} {es : List Expr} (hm : c.mg x = none) (hv : bootBuiltins x = some (.type T)) (q : RA c (e :: es) σ H fun vs H1 => RC c (.type T) vs H1 Q) (hg : c.sc.names.lookup x = some .globalImplicit := by rfl) (hn : x ≠ "__name__" := by decide) (hdb : (x == ("__debug__" : Str)) = false := by decide)
    (he : ∀ env, starEach (e :: es) env = (false, eval e env) :: starEach es env := by intro _; rfl) (hpl : ∀ env, (backTo pos (starEach es env)).any (·.1) = false := by intro _; rfl) : RE c (.Call (.Name x p) (e :: es) [] pos) σ H Q :=
  re_of (fun X h => pe_callTy (call_rc h) (gl_of h hg) (by rw [h.mg]; exact hm) hv (pa_ra h) hn hdb (he _) (hpl _)) q
/-- o.name(e, ..), a builtin's method -/
theorem e_bm {T id : String} {o e : Expr} {es : List Expr} {name : Str} {apos : Pos} (pa : PlainAttrs T) (slot : Slot T name id) (hty : typeOf (.builtin id) = pure (.type "method_descriptor")) (q : RE c o σ H fun x H1 => tyV c.K T x H1 ∧ RA c (e :: es) σ H1 fun xs H2 => RM c id x xs H2 Q)
    (hbase : ∀ env, attributeBase o name env (eval o env) = eval o env := by intro _; rfl)
    (hfew : ∀ env, ((backTo pos (starEach (e :: es) env)).all (fun x => !x.1) && (backToKw pos (keywordEach [] env)).all (fun x => x.1.isSome)
      && decide ((e :: es).length + ([] : List Keyword).length + (if ([] : List Keyword).isEmpty then 0 else 1) < 30)) = true := by intro _; rfl)
    (hline : (apos.endLine == pos.line) = true := by rfl) (hs : ∀ env, starEach (e :: es) env = (false, eval e env) :: starEach es env := by intro _; rfl) (hplain : ∀ env, (backTo pos (starEach es env)).any (·.1) = false := by intro _; rfl) :
    RE c (.Call (.Attribute o name apos) (e :: es) [] pos) σ H Q := by
  refine re_of (t := tBM c.K T (RM c id) (RE c o) (RA c (e :: es))) (fun X h => ?_) q
  rw [← h.K]
  exact pe_bm pa slot hty (mt_rm h) (pe_re h) (pa_ra h) (hbase _) (hfew _) hline (hs _) (hplain _)
theorem e_bm0 {T id : String} {o : Expr} {name : Str} {apos : Pos} (pa : PlainAttrs T) (slot : Slot T name id) (hty : typeOf (.builtin id) = pure (.type "method_descriptor")) (q : RE c o σ H fun x H1 => tyV c.K T x H1 ∧ RM c id x [] H1 Q)
    (hbase : ∀ env, attributeBase o name env (eval o env) = eval o env := by intro _; rfl) (hline : (apos.endLine == pos.line) = true := by rfl) : RE c (.Call (.Attribute o name apos) [] [] pos) σ H Q := by
  refine re_of (t := tBM0 c.K T (RM c id) (RE c o)) (fun X h => ?_) q
  rw [← h.K]
  exact pe_bm0 pa slot hty (mt_rm h) (pe_re h) (hbase _) hline

/-! ### tests -/
variable {R : Bool → Hp → Prop}
theorem t_val {e : Expr} (q : RE c e σ H fun x H1 => ∃ k, x = .bl k ∧ R k H1) (he : ∀ env whole, isTrue e env whole = (do let v ← whole; standAt e.pos; holding [v] (truthy v)) := by intro _ _; rfl) : RT c e σ H R :=
  rt_of (fun X h => pt_val (pe_re h) (he _)) q
theorem t_tru {e : Expr} (q : RE c e σ H fun x H1 => ∃ k, TruV c.K x H1 k ∧ R k H1) (he : ∀ env whole, isTrue e env whole = (do let v ← whole; standAt e.pos; holding [v] (truthy v)) := by intro _ _; rfl) : RT c e σ H R :=
  rt_of (t := fun σ H Q => RE c e σ H fun x H' => ∃ k, TruV c.K x H' k ∧ Q k H') (fun X h => by rw [← h.K]; exact pt_truth (pe_re h) (he _)) q
theorem t_cmp {a b : Expr} {op : CmpOp} (q : RE c a σ H fun x H1 => RE c b σ H1 fun y H2 => RQ c op x y H2 fun z H3 => ∃ k, z = .bl k ∧ R k H3) (hm : behindInMarks op b = false := by first | rfl | exact nomark _) : RT c (.Compare a [op] [b] pos) σ H R :=
  rt_of (fun X h => pt_cmpR (op_rq h) (pe_re h) (pe_re h) hm) q
theorem t_chain {a b d : Expr} {op op' : CmpOp} (q : RE c a σ H fun x H1 => RE c b σ H1 fun y H2 => RQ c op x y H2 fun z H3 => ∃ k, z = .bl k ∧ (if k = true then RE c d σ H3 fun w' H4 => RQ c op' y w' H4 (fun z H5 => ∃ k, z = .bl k ∧ R k H5) else (∃ k, V.bl false = .bl k ∧ R k H3)))
    (hm : lastMarks [op, op'] [b, d] = false := by with_unfolding_all rfl) : RT c (.Compare a [op, op'] [b, d] pos) σ H R :=
  rt_of (t := tTest (tChain (RQ c op) (RQ c op') (RE c a) (RE c b) (RE c d))) (fun X h => pt_chain (op_rq h) (op_rq h) (pe_re h) (pe_re h) (pe_re h) hm) q
theorem t_not {a : Expr} (q : RT c a σ H fun k H1 => R (!k) H1) : RT c (.UnaryOp .Not a pos) σ H R := rt_of (fun X h => pt_not (pt_rt h)) q
theorem t_w {e : Expr} (q : RW c e σ H R) : RT c e σ H R := rt_of (fun X h => (pw_rw h).pt) q
theorem w_and1 {a : Expr} (q : RT c a σ H R) : RW c (.BoolOp .And [a] pos) σ H R := rw_of (fun X h => pw_and1 (pt_rt h)) q
theorem w_or1 {a : Expr} (q : RT c a σ H R) : RW c (.BoolOp .Or [a] pos) σ H R := rw_of (fun X h => pw_or1 (pt_rt h)) q
theorem w_and {a b : Expr} {rest : List Expr} (q : RT c a σ H fun k H1 => if k = true then RW c (.BoolOp .And (b :: rest) pos) σ H1 R else R false H1) : RW c (.BoolOp .And (a :: b :: rest) pos) σ H R :=
  rw_of (fun X h => pw_and (pt_rt h) (pw_rw h)) q
theorem w_or {a b : Expr} {rest : List Expr} (q : RT c a σ H fun k H1 => if k = true then R true H1 else RW c (.BoolOp .Or (b :: rest) pos) σ H1 R) : RW c (.BoolOp .Or (a :: b :: rest) pos) σ H R :=
  rw_of (fun X h => pw_or (pt_rt h) (pw_rw h)) q
/-! ### statements -/
variable {D : Ends} {nx : L2.St → Hp → Prop} {rt : VK} {bk ct : L2.St → Hp → Prop}
theorem b_nil (q : D.nx σ H) : RB c [] D σ H := rb_of (fun _ _ => pss_nil) q
theorem b_cons {st : Stmt} {rest : List Stmt} (q : RS c st ⟨fun σ1 H1 => RB c rest ⟨nx, rt, bk, ct⟩ σ1 H1, rt, bk, ct⟩ σ H) : RB c (st :: rest) ⟨nx, rt, bk, ct⟩ σ H := rb_of (t := tSeq (RS c st) (RB c rest)) (fun X h => pss_cons (ps_rs h) (ps_rb h)) q
/-- a statement, then the rest, with a word between them -/
theorem b_cut {st : Stmt} {rest : List Stmt} (Mid : L2.St → Hp → Prop) (q : RS c st ⟨Mid, rt, bk, ct⟩ σ H) (q2 : ∀ σ1 H1, Mid σ1 H1 → RB c rest ⟨nx, rt, bk, ct⟩ σ1 H1) : RB c (st :: rest) ⟨nx, rt, bk, ct⟩ σ H :=
  b_cons (RS.mono (D := ⟨Mid, rt, bk, ct⟩) (D' := ⟨fun σ1 H1 => RB c rest ⟨nx, rt, bk, ct⟩ σ1 H1, rt, bk, ct⟩) ⟨q2, fun _ _ h => h, fun _ _ h => h, fun _ _ h => h⟩ q)
theorem b_one {st : Stmt} (q : RS c st D σ H) : RB c [st] D σ H := rb_of (fun X h => pss_one (ps_rs h)) q
theorem s_pass (q : D.nx σ H) : RS c (.Pass pos) D σ H := rs_of (fun _ _ => ps_pass) q
theorem s_break (q : D.bk σ H) : RS c (.Break pos) D σ H := rs_of (fun _ _ => ps_break) q
theorem s_cont (q : D.ct σ H) : RS c (.Continue pos) D σ H := rs_of (fun _ _ => ps_continue) q
theorem s_ret {e : Expr} (q : RE c e σ H D.rt) : RS c (.Return (some e) pos) D σ H := rs_of (fun X h => ps_ret (pe_re h)) q
theorem s_retN (q : D.rt .non H) : RS c (.Return none pos) D σ H := rs_of (fun X h => ps_retN) q
theorem s_expr {e : Expr} (q : RE c e σ H fun _ H1 => D.nx σ H1) (hs : ∀ env, swapsWith e none pos.line env = pure false := by intro _; rfl) : RS c (.Expr e pos) D σ H := rs_of (fun X h => ps_expr (pe_re h) (hs _)) q
theorem s_if {d : Expr} {a b : List Stmt} (q : RT c d σ H fun k H1 => if k = true then RB c a D σ H1 else RB c b D σ H1) : RS c (.If d a b pos) D σ H := rs_of (fun X h => ps_if (pt_rt h) (ps_rb h) (ps_rb h)) q
theorem s_asg {tg e : Expr} (q : RE c e σ H fun x H1 => RG c tg x σ H1 D.nx) (hs : ∀ env, swapsWithSole [tg] e pos.line env = pure false := by intro _; rfl) (hw : ∀ env, swappedStores [tg] e env = pure none := by intro _; rfl)
    (h1 : ∀ env, (assignEach [tg] env).map (·.2) = [assign tg env] := by intro _; rfl) : RS c (.Assign [tg] e pos) D σ H := rs_of (fun X h => ps_asg (pe_re h) (pg_rg h) (hs _) (hw _) (h1 _)) q
theorem s_set {i : Nat} {x : Str} {e : Expr} {pos' : Pos} (hA : At c.N i x) (q : RE c e σ H fun v H1 => D.nx (σ.set i (some v)) H1) (hx : c.sc.names.lookup x = some .local ∨ (c.sc.names.lookup x = some .cell ∧ c.top = true) := by first | exact Or.inl rfl | exact Or.inr ⟨rfl, rfl⟩)
    (hs : ∀ env, swapsWith e (some (.Name x pos')) pos.line env = pure false := by intro _; rfl) : RS c (.Assign [.Name x pos'] e pos) D σ H := by
  refine rs_of (t := tAsg (RE c e) (gName i)) (fun X h => ?_) q
  refine ps_set (by rw [h.N]; exact h.nd) (by rw [h.N]; exact hA.get) ?_ (pe_re h) (hs _) ?_
  · rcases hx with z | z
    · exact .inl (by rw [h.sc]; exact z)
    · exact .inr (by rw [h.sc]; exact z.1)
  · rcases hx with z | z
    · exact .inr (by rw [h.sc]; exact z)
    · exact .inl (h.top z.2 _)
theorem g_name {i : Nat} {x : Str} {v : V} {R : L2.St → Hp → Prop} (hA : At c.N i x) (q : R (σ.set i (some v)) H) (hx : c.sc.names.lookup x = some .local ∨ (c.sc.names.lookup x = some .cell ∧ c.top = true) := by first | exact Or.inl rfl | exact Or.inr ⟨rfl, rfl⟩) : RG c (.Name x pos) v σ H R := by
  refine rg_of (t := gName i) (fun X h => ?_) q
  refine pg_name (by rw [h.N]; exact h.nd) (by rw [h.N]; exact hA.get) ?_ ?_
  · rcases hx with z | z
    · exact .inl (by rw [h.sc]; exact z)
    · exact .inr (by rw [h.sc]; exact z.1)
  · rcases hx with z | z
    · exact .inr (by rw [h.sc]; exact z)
    · exact .inl (h.top z.2 _)
theorem gs_nil {R : L2.St → Hp → Prop} (q : R σ H) : RGs c [] [] σ H R := rgs_of (fun _ _ => pgs_nil) ⟨rfl, q⟩
theorem gs_cons {e : Expr} {es : List Expr} {v : V} {vs : List V} {R : L2.St → Hp → Prop} (q : RG c e v σ H fun σ1 H1 => RGs c es vs σ1 H1 R) (hs : ∀ env, (assignEach (e :: es) env).map (·.2) = assign e env :: (assignEach es env).map (·.2) := by intro _; rfl) : RGs c (e :: es) (v :: vs) σ H R :=
  rgs_of (t := gCons (RG c e) (RGs c es)) (fun X h => pgs_cons (pg_rg h) (pg_rgs h) (hs _)) ⟨v, vs, rfl, q⟩
theorem g_tup {es : List Expr} {k : Nat} {a : Addr} {xs : List V} {n : Nat} {R : L2.St → Hp → Prop} (ht : SqT c.K H a xs) (q : RGs c es xs σ H R) (hl : xs.length = n := by rfl) (hn : ∀ env, (assignEach es env).length = n := by intro _; rfl) (hst : ∀ env, (assignEach es env).findIdx? (·.1) = none := by intro _; rfl) :
    RG c (.Tuple es k pos) (.ref a) σ H R := rg_of (t := gTup c.K n (RGs c es)) (fun X h => by rw [← h.K]; exact pg_tup h.calm (pg_rgs h) (hn _) (hst _)) ⟨a, xs, rfl, ht, hl, q⟩
theorem g_sub {o i : Expr} {v : V} {R : L2.St → Hp → Prop} (q : RE c o σ H fun x H1 => RE c i σ H1 fun y H2 => RP c x y v H2 fun H3 => R σ H3)
    (ha : ∀ env v, assign (.Subscript o i pos) env v = (do
      let ov ← holding [v] (eval o env)
      let iv ← holding [v, ov] (eval i env)
      standAt pos
      holding [v, ov, iv] (setItem ov iv v)
      release [v, ov, iv] []) := by intro _ _; rfl) : RG c (.Subscript o i pos) v σ H R := rg_of (fun X h => pg_sub (pe_re h) (pe_re h) (set_rp h) (ha _)) q
/-- d[k] = v -/
theorem s_dput {o i e : Expr} {pos' : Pos} (q : RE c e σ H fun v H1 => RE c o σ H1 fun x H2 => RE c i σ H2 fun y H3 => ∃ a H4, x = .ref a ∧ DPut H3 a y v H4 ∧ D.nx σ H4)
    (hs : ∀ env, swapsWith e (some (.Subscript o i pos')) pos.line env = pure false := by intro _; rfl) : RS c (.Assign [.Subscript o i pos'] e pos) D σ H :=
  rs_of (fun X h => ps_dput (by have := h.room.units; omega) (pe_re h) (pe_re h) (pe_re h) (hs _)) q
/-- a, b = x, y -/
theorem s_par {i j : Nat} {x y : Str} {a b : Expr} {px py pt : Pos} {kt k2 pt2} (hi : At c.N i x) (hj : At c.N j y) (q : RE c a σ H fun v H1 => RE c b σ H1 fun w H2 => D.nx ((σ.set i (some v)).set j (some w)) H2) (hij : i ≠ j := by decide)
    (hx : c.sc.names.lookup x = some .local := by rfl) (hy : c.sc.names.lookup y = some .local := by rfl)
    (hw : ∀ env : Env, env.scope = c.sc → swappedStores [.Tuple [.Name x px, .Name y py] kt pt] (.Tuple [a, b] k2 pt2) env = pure (some [x, y]))
    (hs : ∀ env, swapsWithSole [.Tuple [.Name x px, .Name y py] kt pt] (.Tuple [a, b] k2 pt2) pos.line env = pure false := by intro _; rfl)
    (h1 : ∀ env, starEach [a, b] env = (false, eval a env) :: starEach [b] env := by intro _; rfl) (h2 : ∀ env, starEach [b] env = (false, eval b env) :: starEach [] env := by intro _; rfl) :
    RS c (.Assign [.Tuple [.Name x px, .Name y py] kt pt] (.Tuple [a, b] k2 pt2) pos) D σ H := by
  refine rs_of (t := tPar i j (RA c [a, b])) (fun X h => ps_par h.calm (by rw [h.N]; exact h.nd) (by rw [h.N]; exact hi.get) (by rw [h.N]; exact hj.get) hij (by rw [h.sc]; exact hx) (by rw [h.sc]; exact hy) (pa_ra h) (hw _ h.sc) (hs _)) ?_
  refine a_cons (RE.mono (fun v H1 z => a_cons (RE.mono (fun w H2 z => a_nil ⟨v, w, rfl, z⟩) z) h2) q) h1

/-! ### what is walked -/
theorem i_list {tg l : Expr} {R : It → Hp → Prop} (q : RE c l σ H fun x H1 => ∃ a, x = .ref a ∧ (∃ xs, SqL c.K H1 a xs) ∧ R (Itl c.K a) H1) : RI c tg l σ H R :=
  ri_of (t := iList c.K (RE c l)) (fun X h => by rw [← h.K]; exact pi_list (pe_re h)) q
theorem i_tup {tg l : Expr} {R : It → Hp → Prop} (q : RE c l σ H fun x H1 => ∃ a, x = .ref a ∧ (∃ xs, SqT c.K H1 a xs) ∧ R (Itt c.K a) H1) : RI c tg l σ H R :=
  ri_of (t := iTup c.K (RE c l)) (fun X h => by rw [← h.K]; exact pi_tup (pe_re h)) q
theorem i_range1 {tg a : Expr} {p : Pos} {R : It → Hp → Prop} (hm : c.mg "range" = none) (q : RA c [a] σ H fun vs H1 => ∃ j : Int, vs = [.int j] ∧ -(2 ^ 62) ≤ j ∧ j < 2 ^ 62 ∧ R (Itr 0 j.toNat) H1) (hg : c.sc.names.lookup ("range" : Str) = some .globalImplicit := by rfl) (hs : ∀ env, starEach [a] env = [(false, eval a env)] := by intro _; rfl) :
    RI c tg (.Call (.Name "range" p) [a] [] pos) σ H R := ri_of (t := iRng1 (RA c [a])) (fun X h => pi_range1 (gl_of h hg) (by rw [h.mg]; exact hm) (pa_ra h) (hs _)) q
theorem i_range2 {tg a b : Expr} {p : Pos} {R : It → Hp → Prop} (hm : c.mg "range" = none) (q : RA c [a, b] σ H fun vs H1 => ∃ i j : Int, vs = [.int i, .int j] ∧ (-(2 ^ 62) ≤ i ∧ i < 2 ^ 62 ∧ -(2 ^ 62) ≤ j ∧ j < 2 ^ 62) ∧ R (Itr i (j - i).toNat) H1) (hg : c.sc.names.lookup ("range" : Str) = some .globalImplicit := by rfl)
    (hs : ∀ env, starEach [a, b] env = [(false, eval a env), (false, eval b env)] := by intro _; rfl) (hs2 : ∀ env, starEach [b] env = [(false, eval b env)] := by intro _; rfl) :
    RI c tg (.Call (.Name "range" p) [a, b] [] pos) σ H R := ri_of (t := iRng2 (RA c [a, b])) (fun X h => pi_range2 (gl_of h hg) (by rw [h.mg]; exact hm) (pa_ra h) (hs _) (hs2 _)) q

/-! ### loops -/
theorem s_for {tg iter : Expr} {body : List Stmt} (q : RI c tg iter σ H fun J H1 => ∃ W : Nat → Nat → L2.St → Hp → Prop, (∃ m, W 0 m σ H1) ∧ ∀ i m σ H, W i m σ H →
      (J.stop i H ∧ nx σ H) ∨ (J.go i H ∧ ∃ N : L2.St → Hp → Prop, (∀ σ' H', N σ' H' → ∃ m', m' < m ∧ W (i + 1) m' σ' H') ∧ ∀ x H', J.yld i H x H' → RG c tg x σ H' fun σ2 H2 => RB c body ⟨N, rt, nx, N⟩ σ2 H2))
    (hs : ∀ env x, foldedSetIterable iter env x = pure x := by intro _ _; rfl) : RS c (.For tg iter body [] pos) ⟨nx, rt, bk, ct⟩ σ H :=
  rs_of (t := tFor (RI c tg iter) (RG c tg) (RB c body)) (fun X h => ps_for h.own h.calm (pi_ri h) (pg_rg h) (ps_rb h) (hs _)) q
theorem s_forT {tg iter : Expr} {body : List Stmt} (q : RE c iter σ H fun x H1 => ∃ a xs, x = .ref a ∧ SqT c.K H1 a xs ∧ ∃ Pv : Nat → L2.St → Hp → Prop, Pv 0 σ H1 ∧ (∀ i σ' H', i ≤ xs.length → Pv i σ' H' → SqT c.K H' a xs) ∧
      (∀ i x σ' H', xs[i]? = some x → Pv i σ' H' → RG c tg x σ' H' fun σ2 H2 => RB c body ⟨Pv (i + 1), rt, nx, Pv (i + 1)⟩ σ2 H2) ∧ ∀ σ' H', Pv xs.length σ' H' → nx σ' H')
    (hs : ∀ env x, foldedSetIterable iter env x = pure x := by intro _ _; rfl) : RS c (.For tg iter body [] pos) ⟨nx, rt, bk, ct⟩ σ H := by
  refine s_for (i_tup (RE.mono (fun x H1 z => ?_) q)) hs
  obtain ⟨a, xs, rfl, ht, Pv, h0, hl, hs, hd⟩ := z
  exact ⟨a, rfl, ⟨xs, ht⟩, for_tup (tb := RB c body) (D := ⟨nx, rt, bk, ct⟩) Pv h0 hl hs hd⟩
theorem s_forL {tg iter : Expr} {body : List Stmt} (q : RE c iter σ H fun x H1 => ∃ a xs, x = .ref a ∧ SqL c.K H1 a xs ∧ ∃ Pv : Nat → L2.St → Hp → Prop, Pv 0 σ H1 ∧ (∀ i σ' H', i ≤ xs.length → Pv i σ' H' → SqL c.K H' a xs) ∧
      (∀ i x σ' H', xs[i]? = some x → Pv i σ' H' → RG c tg x σ' H' fun σ2 H2 => RB c body ⟨Pv (i + 1), rt, nx, Pv (i + 1)⟩ σ2 H2) ∧ ∀ σ' H', Pv xs.length σ' H' → nx σ' H')
    (hs : ∀ env x, foldedSetIterable iter env x = pure x := by intro _ _; rfl) : RS c (.For tg iter body [] pos) ⟨nx, rt, bk, ct⟩ σ H := by
  refine s_for (i_list (RE.mono (fun x H1 z => ?_) q)) hs
  obtain ⟨a, xs, rfl, ht, Pv, h0, hl, hs, hd⟩ := z
  exact ⟨a, rfl, ⟨xs, ht⟩, for_list (tb := RB c body) (D := ⟨nx, rt, bk, ct⟩) Pv h0 hl hs hd⟩
theorem s_forR1 {tg a : Expr} {p ppos : Pos} {body : List Stmt} (hm : c.mg "range" = none) (q : RE c a σ H fun x H1 => ∃ n : Int, x = .int n ∧ -(2 ^ 62) ≤ n ∧ n < 2 ^ 62 ∧ ∃ Pv : Nat → L2.St → Hp → Prop, Pv 0 σ H1 ∧
      (∀ i σ' H', i < n.toNat → Pv i σ' H' → RG c tg (.int (i : Int)) σ' H' fun σ2 H2 => RB c body ⟨Pv (i + 1), rt, nx, Pv (i + 1)⟩ σ2 H2) ∧ ∀ σ' H', Pv n.toNat σ' H' → nx σ' H')
    (hg : c.sc.names.lookup ("range" : Str) = some .globalImplicit := by rfl) (h1 : ∀ env, starEach [a] env = [(false, eval a env)] := by intro _; rfl) (hs : ∀ env x, foldedSetIterable (.Call (.Name "range" p) [a] [] ppos) env x = pure x := by intro _ _; rfl) :
    RS c (.For tg (.Call (.Name "range" p) [a] [] ppos) body [] pos) ⟨nx, rt, bk, ct⟩ σ H := by
  refine s_for (i_range1 hm (a_cons (RE.mono (fun x H1 z => ?_) q) (fun env => by rw [h1]; rfl)) hg h1) hs
  obtain ⟨n, rfl, n1, n2, Pv, h0, hs, hd⟩ := z
  refine a_nil ⟨n, rfl, n1, n2, for_range (tb := RB c body) (D := ⟨nx, rt, bk, ct⟩) (lo := 0) (n := n.toNat) Pv h0 (fun i σ' H' hi p => ?_) hd⟩
  rw [Int.zero_add]
  exact hs i σ' H' hi p
theorem s_while {d : Expr} {body : List Stmt} (Pv : Nat → L2.St → Hp → Prop) (m : Nat) (h0 : Pv m σ H)
    (q : ∀ m σ H, Pv m σ H → RT c d σ H fun b H1 => if b = true then RB c body ⟨fun σ' H' => ∃ m', m' < m ∧ Pv m' σ' H', rt, nx, fun σ' H' => ∃ m', m' < m ∧ Pv m' σ' H'⟩ σ H1 else nx σ H1) : RS c (.While d body [] pos) ⟨nx, rt, bk, ct⟩ σ H := by
  refine rs_of (t := tWhile (RT c d) (RB c body)) (fun X h => ps_while h.own (pt_rt h) (ps_rb h)) ⟨Pv, ⟨m, h0⟩, fun m σ H p => RT.mono (fun b H1 z => ?_) (q m σ H p)⟩
  cases b with
  | true => exact ⟨_, fun _ _ z => z, z⟩
  | false => exact z
end
/-! ### what a goal asks of, told by its head -/
section
variable {c : Cd} {σ : L2.St} {H : Hp}
theorem gRE {e : Expr} {Q : VK} (q : RE c e σ H Q) : RE c e σ H Q := q
theorem gRT {e : Expr} {Q : Bool → Hp → Prop} (q : RT c e σ H Q) : RT c e σ H Q := q
theorem gRW {e : Expr} {Q : Bool → Hp → Prop} (q : RW c e σ H Q) : RW c e σ H Q := q
theorem gRA {e : List Expr} {Q : List V → Hp → Prop} (q : RA c e σ H Q) : RA c e σ H Q := q
theorem gRS {e : Stmt} {D : Ends} (q : RS c e D σ H) : RS c e D σ H := q
theorem gRB {e : List Stmt} {D : Ends} (q : RB c e D σ H) : RB c e D σ H := q
theorem gRG {e : Expr} {v : V} {Q : L2.St → Hp → Prop} (q : RG c e v σ H Q) : RG c e v σ H Q := q
theorem gRO {f : Operator} {x y : V} {Q : VK} (q : RO c f x y H Q) : RO c f x y H Q := q
theorem gRQ {f : CmpOp} {x y : V} {Q : VK} (q : RQ c f x y H Q) : RQ c f x y H Q := q
theorem gRU {f : UnaryOp} {x : V} {Q : VK} (q : RU c f x H Q) : RU c f x H Q := q
theorem gRC {f : Value} {xs : List V} {Q : VK} (q : RC c f xs H Q) : RC c f xs H Q := q
theorem gRX {x y : V} {Q : VK} (q : RX c x y H Q) : RX c x y H Q := q
theorem gRPo {e : Option Expr} {Q : Option Int → Hp → Prop} (q : RPo c e σ H Q) : RPo c e σ H Q := q
end
end G

namespace G
open PySem PySem.Spec PyProof.Rows L2

/-! ### heaps: what stays -/
structure Tp (H H' : Hp) : Prop where
  t : ∀ a xs, H a = some (.tup xs) → H' a = some (.tup xs)
  f : ∀ a o u, H a = some (.frz o u) → H' a = some (.frz o u)
theorem Tp.refl (H : Hp) : Tp H H := ⟨fun _ _ h => h, fun _ _ _ h => h⟩
theorem Tp.trans {H H1 H2 : Hp} (a : Tp H H1) (b : Tp H1 H2) : Tp H H2 := ⟨fun _ _ h => b.t _ _ (a.t _ _ h), fun _ _ _ h => b.f _ _ _ (a.f _ _ _ h)⟩
theorem tp_same {H H' : Hp} (s : Same H H') : Tp H H' := ⟨fun _ _ h => s _ _ h, fun _ _ _ h => s _ _ h⟩
theorem Tp.sqt {K : PySem.W.Frag} {H H' : Hp} {a : Addr} {xs : List V} (e : Tp H H') (h : SqT K H a xs) : SqT K H' a xs := by
  rcases h with (h | ⟨o, h⟩) | h
  · exact .inl (.inl (e.t _ _ h))
  · exact .inl (.inr ⟨o, e.f _ _ _ h⟩)
  · exact .inr h
theorem same_new {H : Hp} {p : Addr} {o : HO} (h : H p = none) : Same H (upd H p o) := fun b u q => by rw [upd_ne (ne_of_none q h)]; exact q
/-- all but the thing at m stays; m is no tuple and not locked -/
structure Kp (m : Addr) (H H' : Hp) : Prop where
  k : ∀ a o, a ≠ m → H a = some o → H' a = some o
  t : Tp H H'
theorem kp_same {m : Addr} {H H' : Hp} (s : Same H H') : Kp m H H' := ⟨fun _ _ _ h => s _ _ h, tp_same s⟩
theorem Kp.refl (m : Addr) (H : Hp) : Kp m H H := kp_same (Same.refl H)
theorem Kp.trans {m : Addr} {H H1 H2 : Hp} (a : Kp m H H1) (b : Kp m H1 H2) : Kp m H H2 := ⟨fun _ _ n h => b.k _ _ n (a.k _ _ n h), a.t.trans b.t⟩
/-- a list (of ours) is written -/
theorem kp_upd {H : Hp} {p : Addr} {o o' : HO} (h : H p = some o) (h1 : ∀ xs, o ≠ .tup xs) (h2 : ∀ b u, o ≠ .frz b u) : Kp p H (upd H p o') :=
  ⟨fun a u n q => by rw [upd_ne n]; exact q, fun a xs q => by rw [upd_ne (ne_of q h fun e => h1 _ e.symm)]; exact q, fun a b u q => by rw [upd_ne (ne_of q h fun e => h2 _ _ e.symm)]; exact q⟩
/-- a thing that the older heap does not know is written: for it nothing has changed -/
theorem same_mut {H H1 : Hp} {p : Addr} {o : HO} (s : Same H H1) (h : H p = none) : Same H (upd H1 p o) := fun b u q => by rw [upd_ne (ne_of_none q h)]; exact s _ _ q
theorem kp_mut {m : Addr} {H H1 : Hp} {p : Addr} {o : HO} (s : Kp m H H1) (h : H p = none) : Kp m H (upd H1 p o) :=
  ⟨fun b u n q => by rw [upd_ne (ne_of_none q h)]; exact s.k _ _ n q, fun b u q => by rw [upd_ne (ne_of_none q h)]; exact s.t.t _ _ q, fun b u v q => by rw [upd_ne (ne_of_none q h)]; exact s.t.f _ _ _ q⟩

/-! ### data that never changes: none, bools, ints, texts, tuples of these -/
mutual
inductive Dt (K : PySem.W.Frag) (H : Hp) : V → PyData → Prop
  | non : Dt K H .non .none
  | bl (b : Bool) : Dt K H (.bl b) (.bool b)
  | int (i : Int) : Dt K H (.int i) (.int i)
  | str (x : Str) : Dt K H (.str x) (.str x)
  | tup {a : Addr} {xs : List V} {ds : List PyData} : SqT K H a xs → DtAll K H xs ds → Dt K H (.ref a) (.tuple ds)
  | lst {a : Addr} {o : Obj} {xs : List V} {ds : List PyData} : H a = some (.frz o (.lst xs)) → DtAll K H xs ds → Dt K H (.ref a) (.list ds)
inductive DtAll (K : PySem.W.Frag) (H : Hp) : List V → List PyData → Prop
  | nil : DtAll K H [] []
  | cons {v : V} {vs : List V} {d : PyData} {ds : List PyData} : Dt K H v d → DtAll K H vs ds → DtAll K H (v :: vs) (d :: ds)
end
section
variable {K : PySem.W.Frag} {H H' : Hp}
mutual
theorem Dt.mono (e : Tp H H') : ∀ {d : PyData} {v : V}, Dt K H v d → Dt K H' v d
  | .none, _, h => by cases h; exact .non
  | .bool _, _, h => by cases h; exact .bl _
  | .int _, _, h => by cases h; exact .int _
  | .str _, _, h => by cases h; exact .str _
  | .tuple ds, _, h => by
    cases h with
    | tup hs ha => exact .tup (e.sqt hs) (DtAll.mono e ha)
  | .list ds, _, h => by
    cases h with
    | lst hs ha => exact .lst (e.f _ _ _ hs) (DtAll.mono e ha)
  | .dict _, _, h => by cases h
theorem DtAll.mono (e : Tp H H') : ∀ {ds : List PyData} {vs : List V}, DtAll K H vs ds → DtAll K H' vs ds
  | [], _, h => by cases h; exact .nil
  | d :: ds, _, h => by
    cases h with
    | cons h1 h2 => exact .cons (Dt.mono e h1) (DtAll.mono e h2)
end
mutual
theorem Dt.dp : ∀ {d : PyData} {v : V}, Dt K H v d → Dp K H v d
  | .none, _, h => by cases h; exact .non
  | .bool _, _, h => by cases h; exact .bl _
  | .int _, _, h => by cases h; exact .int _
  | .str _, _, h => by cases h; exact .str _
  | .tuple ds, _, h => by
    cases h with
    | tup hs ha => exact .tup hs (DtAll.dp ha)
  | .list ds, _, h => by
    cases h with
    | lst hs ha => exact .lst (.inl (.inr ⟨_, hs⟩)) (DtAll.dp ha)
  | .dict _, _, h => by cases h
theorem DtAll.dp : ∀ {ds : List PyData} {vs : List V}, DtAll K H vs ds → DpAll K H vs ds
  | [], _, h => by cases h; exact .nil
  | d :: ds, _, h => by
    cases h with
    | cons h1 h2 => exact .cons (Dt.dp h1) (DtAll.dp h2)
end
theorem DtAll.len : ∀ {ds : List PyData} {vs : List V}, DtAll K H vs ds → vs.length = ds.length
  | [], _, h => by cases h; rfl
  | d :: ds, _, h => by
    cases h with
    | cons _ h2 => exact congrArg Nat.succ (DtAll.len h2)
theorem DtAll.get : ∀ {ds : List PyData} {vs : List V} {i : Nat} {d : PyData}, DtAll K H vs ds → ds[i]? = some d → ∃ v, vs[i]? = some v ∧ Dt K H v d
  | [], _, _, _, _, e => by simp at e
  | d :: ds, _, 0, _, h, e => by
    cases h with
    | cons h1 _ =>
      simp at e
      subst e
      exact ⟨_, rfl, h1⟩
  | d :: ds, _, i + 1, _, h, e => by
    cases h with
    | cons _ h2 =>
      obtain ⟨v, e1, h3⟩ := DtAll.get (i := i) h2 (by simpa using e)
      exact ⟨v, by simpa using e1, h3⟩
theorem DtAll.getV : ∀ {ds : List PyData} {vs : List V} {i : Nat} {v : V}, DtAll K H vs ds → vs[i]? = some v → ∃ d, ds[i]? = some d ∧ Dt K H v d
  | [], _, _, _, h, e => by cases h; simp at e
  | d :: ds, _, 0, _, h, e => by
    cases h with
    | cons h1 _ =>
      simp at e
      subst e
      exact ⟨_, rfl, h1⟩
  | d :: ds, _, i + 1, _, h, e => by
    cases h with
    | cons _ h2 =>
      obtain ⟨v, e1, h3⟩ := DtAll.getV (i := i) h2 (by simpa using e)
      exact ⟨v, by simpa using e1, h3⟩
theorem DtAll.app : ∀ {ds es : List PyData} {vs us : List V}, DtAll K H vs ds → DtAll K H us es → DtAll K H (vs ++ us) (ds ++ es)
  | [], _, _, _, h, k => by cases h; exact k
  | d :: ds, _, _, _, h, k => by
    cases h with
    | cons h1 h2 => exact .cons h1 (DtAll.app h2 k)
theorem DtAll.drop : ∀ {ds : List PyData} {vs : List V} (n : Nat), DtAll K H vs ds → DtAll K H (vs.drop n) (ds.drop n)
  | _, _, 0, h => h
  | [], _, _ + 1, h => by cases h; exact .nil
  | d :: ds, _, n + 1, h => by
    cases h with
    | cons _ h2 => exact DtAll.drop n h2
theorem DtAll.take : ∀ {ds : List PyData} {vs : List V} (n : Nat), DtAll K H vs ds → DtAll K H (vs.take n) (ds.take n)
  | _, _, 0, h => .nil
  | [], _, _ + 1, h => by cases h; exact .nil
  | d :: ds, _, n + 1, h => by
    cases h with
    | cons h1 h2 => exact .cons h1 (DtAll.take n h2)
theorem Dt.intE {v : V} {i : Int} (h : Dt K H v (.int i)) : v = .int i := by cases h; rfl
theorem Dt.strE {v : V} {i : Str} (h : Dt K H v (.str i)) : v = .str i := by cases h; rfl
theorem Dt.blE {v : V} {i : Bool} (h : Dt K H v (.bool i)) : v = .bl i := by cases h; rfl
theorem Dt.nonE {v : V} (h : Dt K H v .none) : v = .non := by cases h; rfl
theorem Dt.tupE {v : V} {ds : List PyData} (h : Dt K H v (.tuple ds)) : ∃ a xs, v = .ref a ∧ SqT K H a xs ∧ DtAll K H xs ds := by
  cases h with
  | tup h1 h2 => exact ⟨_, _, rfl, h1, h2⟩
end
theorem atI_map {α β : Type} {R : α → β → Prop} {xs : List α} {ys : List β} (hl : xs.length = ys.length) {i : Int} {y : β} (h : atI ys i = some y) (g : ∀ (j : Nat) y, ys[j]? = some y → ∃ x, xs[j]? = some x ∧ R x y) : ∃ x, atI xs i = some x ∧ R x y := by
  unfold atI at h ⊢
  rw [hl]
  cases e : ixN ys.length i with
  | none => rw [e] at h; cases h
  | some j =>
    rw [e] at h
    obtain ⟨x, h1, h2⟩ := g j y h
    exact ⟨x, h1, h2⟩

/-! ### steps over data -/
section
variable {c : Cd} {σ : L2.St} {H : Hp} {Q : VK} {pos : Pos} {x y : V}
theorem ro_add {i j : Int} (q : Q (.int (i + j)) H) : RO c .Add (.int i) (.int j) H Q := ro_of (fun _ _ => op_add) ⟨i, j, rfl, rfl, q⟩
theorem ro_sub {i j : Int} (q : Q (.int (i - j)) H) : RO c .Sub (.int i) (.int j) H Q := ro_of (fun _ _ => op_sub) ⟨i, j, rfl, rfl, q⟩
theorem ro_mul {i j : Int} (hc : CMul i j) (q : Q (.int (i * j)) H) : RO c .Mult (.int i) (.int j) H Q := ro_of (fun _ _ => op_mul) ⟨i, j, rfl, rfl, hc, q⟩
theorem ro_mod {i j : Int} (hc : 0 < j) (q : Q (.int (i % j)) H) : RO c .Mod (.int i) (.int j) H Q := ro_of (fun _ _ => op_mod) ⟨i, j, rfl, rfl, hc, q⟩
theorem ro_div {i j : Int} (hc : 0 < j) (h2 : j < 1073741824) (q : Q (.int (i / j)) H) : RO c .FloorDiv (.int i) (.int j) H Q := ro_of (fun _ _ => op_fdiv) ⟨i, j, rfl, rfl, ⟨hc, h2⟩, q⟩
theorem ro_pow {i j : Int} (hc : CPow i j) (q : Q (.int (i ^ j.toNat)) H) : RO c .Pow (.int i) (.int j) H Q := ro_of (fun _ _ => op_pow) ⟨i, j, rfl, rfl, hc, q⟩
theorem ro_eq (hs : scal x y = true) (q : Q (.bl (decide (x = y))) H) : RQ c .Eq x y H Q := rq_of (fun _ _ => op_eq) ⟨hs, q⟩
theorem ro_ne (hs : scal x y = true) (q : Q (.bl (!decide (x = y))) H) : RQ c .NotEq x y H Q := rq_of (fun _ _ => op_ne) ⟨hs, q⟩
theorem ro_eqI {i j : Int} (q : Q (.bl (decide (i = j))) H) : RQ c .Eq (.int i) (.int j) H Q := ro_eq rfl (by
  have e : decide (V.int i = V.int j) = decide (i = j) := decide_eq_decide.mpr ⟨fun h => V.int.inj h, fun h => by rw [h]⟩
  rw [e]; exact q)
theorem ro_neI {i j : Int} (q : Q (.bl (!decide (i = j))) H) : RQ c .NotEq (.int i) (.int j) H Q := ro_ne rfl (by
  have e : decide (V.int i = V.int j) = decide (i = j) := decide_eq_decide.mpr ⟨fun h => V.int.inj h, fun h => by rw [h]⟩
  rw [e]; exact q)
theorem ro_eqS {i j : Str} (q : Q (.bl (decide (i = j))) H) : RQ c .Eq (.str i) (.str j) H Q := ro_eq rfl (by
  have e : decide (V.str i = V.str j) = decide (i = j) := decide_eq_decide.mpr ⟨fun h => V.str.inj h, fun h => by rw [h]⟩
  rw [e]; exact q)
theorem ro_eqB {i j : Bool} (q : Q (.bl (decide (i = j))) H) : RQ c .Eq (.bl i) (.bl j) H Q := ro_eq rfl (by
  have e : decide (V.bl i = V.bl j) = decide (i = j) := decide_eq_decide.mpr ⟨fun h => V.bl.inj h, fun h => by rw [h]⟩
  rw [e]; exact q)
theorem ro_lt {i j : Int} (q : Q (.bl (decide (i < j))) H) : RQ c .Lt (.int i) (.int j) H Q := rq_of (fun _ _ => op_lt) ⟨i, j, rfl, rfl, q⟩
theorem ro_le {i j : Int} (q : Q (.bl (decide (i ≤ j))) H) : RQ c .LtE (.int i) (.int j) H Q := rq_of (fun _ _ => op_le) ⟨i, j, rfl, rfl, q⟩
theorem ro_gt {i j : Int} (q : Q (.bl (decide (j < i))) H) : RQ c .Gt (.int i) (.int j) H Q := rq_of (fun _ _ => op_gt) ⟨i, j, rfl, rfl, q⟩
theorem ro_ge {i j : Int} (q : Q (.bl (decide (j ≤ i))) H) : RQ c .GtE (.int i) (.int j) H Q := rq_of (fun _ _ => op_ge) ⟨i, j, rfl, rfl, q⟩
theorem ro_isN (q : Q (.bl (decide (x = .non))) H) : RQ c .Is x .non H Q := rq_of (fun _ _ => op_isN) ⟨rfl, q⟩
theorem ro_notN (q : Q (.bl (!decide (x = .non))) H) : RQ c .IsNot x .non H Q := rq_of (fun _ _ => op_notN) ⟨rfl, q⟩
theorem ru_neg {i : Int} (q : Q (.int (-i)) H) : RU c .USub (.int i) H Q := ru_of (fun _ _ => un_neg) ⟨i, rfl, q⟩
/-- == of data -/
theorem ro_eqD {d e : PyData} (hx : Dp c.K H x d) (hy : Dp c.K H y e) (s1 : SeqAt.shaped d = true) (s2 : SeqAt.shaped e = true) (q : Q (.bl (PyData.eqv d e)) H) : RQ c .Eq x y H Q :=
  rq_of (r := rEqD c.K) (fun X h => by rw [← h.K]; exact op_eqD h.room.units) ⟨d, e, hx, hy, s1, s2, q⟩
theorem ro_neD {d e : PyData} (hx : Dp c.K H x d) (hy : Dp c.K H y e) (s1 : SeqAt.shaped d = true) (s2 : SeqAt.shaped e = true) (q : Q (.bl (!PyData.eqv d e)) H) : RQ c .NotEq x y H Q :=
  rq_of (r := rNeD c.K) (fun X h => by rw [← h.K]; exact op_neD h.room.units) ⟨d, e, hx, hy, s1, s2, q⟩
/-- x[i] of a tuple of data -/
theorem rx_tup {ds : List PyData} {i : Int} {d : PyData} (hx : Dt c.K H x (.tuple ds)) (hi : atI ds i = some d) (q : ∀ v, Dt c.K H v d → Q v H) : RX c x (.int i) H Q := by
  obtain ⟨a, xs, rfl, ht, ha⟩ := hx.tupE
  obtain ⟨v, h1, h2⟩ := atI_map (R := fun v d => Dt c.K H v d) ha.len hi fun j y hj => ha.get hj
  exact rx_of (r := rIxT c.K) (fun X h => by rw [← h.K]; exact ix_tup) ⟨a, xs, i, v, rfl, rfl, ht, h1, q v h2⟩
theorem rx_int {ds : List PyData} {i n : Int} (hx : Dt c.K H x (.tuple ds)) (hi : atI ds i = some (.int n)) (q : Q (.int n) H) : RX c x (.int i) H Q := rx_tup hx hi fun v h => by rw [h.intE]; exact q
theorem rx_str {ds : List PyData} {i : Int} {n : Str} (hx : Dt c.K H x (.tuple ds)) (hi : atI ds i = some (.str n)) (q : Q (.str n) H) : RX c x (.int i) H Q := rx_tup hx hi fun v h => by rw [h.strE]; exact q
theorem rx_bl {ds : List PyData} {i : Int} {n : Bool} (hx : Dt c.K H x (.tuple ds)) (hi : atI ds i = some (.bool n)) (q : Q (.bl n) H) : RX c x (.int i) H Q := rx_tup hx hi fun v h => by rw [h.blE]; exact q
/-- xs[i] of a list -/
theorem rx_list {p : Addr} {xs : List V} {i : Int} {v : V} (hx : SqL c.K H p xs) (hi : atI xs i = some v) (q : Q v H) : RX c (.ref p) (.int i) H Q :=
  rx_of (r := rIxL c.K) (fun X h => by rw [← h.K]; exact ix_list) ⟨p, xs, i, v, rfl, rfl, hx, hi, q⟩
/-- (a, b, ..), data -/
theorem e_tupD {es : List Expr} {x1} (q : RA c es σ H fun xs H1 => ∃ ds, DtAll c.K H1 xs ds ∧ xs.length ≤ 1000 ∧ ∀ v H2, Same H1 H2 → Dt c.K H2 v (.tuple ds) → Q v H2) : RE c (.Tuple es x1 pos) σ H Q :=
  e_tup (RA.mono (fun xs H1 z => by
    obtain ⟨ds, h1, h2, h3⟩ := z
    exact ⟨Nat.le_trans h2 (by decide), fun p hp => h3 _ _ (same_new hp) (.tup (.of upd_same) (h1.mono (tp_same (same_new hp))))⟩) q)
/-! calls -/
/-- a def that changes nothing: R tells what it answers -/
def spF (R : List PyData → PyData → Prop) (K : PySem.W.Frag) : Sp := fun vs H Q _ => ∃ ds d, DtAll K H vs ds ∧ R ds d ∧ ∀ v H', Same H H' → Dt K H' v d → Q v H'
theorem e_callF {x : Str} {p : Pos} {e : Expr} {es : List Expr} {ps : List Str} {k : Nat} {R : List PyData → PyData → Prop} (D : Dc c.toMd x ps k (spF R c.K)) (q : RA c (e :: es) σ H fun vs H1 => ∃ ds d, DtAll c.K H1 vs ds ∧ R ds d ∧ ∀ v H', Same H1 H' → Dt c.K H' v d → Q v H') (hk : k ≤ c.k := by exact Nat.le_of_ble_eq_true rfl) (hg : c.sc.names.lookup x = some .globalImplicit := by rfl)
    (hdb : (x == ("__debug__" : Str)) = false := by decide) (he : ∀ env, starEach (e :: es) env = (false, eval e env) :: starEach es env := by intro _; rfl) (hpl : ∀ env, (backTo pos (starEach es env)).any (·.1) = false := by intro _; rfl) :
    RE c (.Call (.Name x p) (e :: es) [] pos) σ H Q := e_call D q hk hg hdb he hpl
theorem rc_max2 {i j : Int} (q : Q (.int (if j > i then j else i)) H) : RC c (.builtin "max") [.int i, .int j] H Q := rc_of (fun X h => call_max2 h.calm) ⟨i, j, rfl, q⟩
theorem rc_min2 {i j : Int} (q : Q (.int (if j < i then j else i)) H) : RC c (.builtin "min") [.int i, .int j] H Q := rc_of (fun X h => call_min2 h.calm) ⟨i, j, rfl, q⟩
theorem rc_intI {i : Int} (q : Q (.int i) H) : RC c (.type "int") [.int i] H Q := rc_of (fun X h => call_int1) (.inl ⟨i, rfl, q⟩)
theorem rc_intB {k : Bool} (q : Q (.int (if k then 1 else 0)) H) : RC c (.type "int") [.bl k] H Q := rc_of (fun X h => call_int1) (.inr ⟨k, rfl, q⟩)
theorem rc_lenL {p : Addr} {xs : List V} (h : SqL c.K H p xs) (q : Q (.int xs.length) H) : RC c (.builtin "len") [.ref p] H Q := rc_of (r := fun xs H Q => ∃ p ys, xs = [.ref p] ∧ (SqL c.K H p ys ∨ SqT c.K H p ys) ∧ Q (.int ys.length) H) (fun X h => by rw [← h.K]; exact call_len_seq) ⟨p, xs, rfl, .inl h, q⟩
theorem rc_lenT {ds : List PyData} (h : Dt c.K H x (.tuple ds)) (q : Q (.int ds.length) H) : RC c (.builtin "len") [x] H Q := by
  obtain ⟨a, xs, rfl, ht, ha⟩ := h.tupE
  refine rc_of (r := fun xs H Q => ∃ p ys, xs = [.ref p] ∧ (SqL c.K H p ys ∨ SqT c.K H p ys) ∧ Q (.int ys.length) H) (fun X h => by rw [← h.K]; exact call_len_seq) ⟨a, xs, rfl, .inr ht, ?_⟩
  rw [ha.len]; exact q
end

/-! ### a def -/
section
variable {P : Program} {w : World} {K : PySem.W.Frag} {mg : Str → Option Value} {base : Heap}
theorem is_cx {M : Md} {N : List Str} {qual : Str} {sc : Scope} {f : Addr} {cdv : Value} {A : Around} {outer : List Env} {s : Shared} {H : Hp} {E : XK} {k : Nat} {g : Bool} (hn : N.Nodup) (hg : g = true → A.guards = some []) (hr : Room k (A.deeper (envOfC qual sc s.heap.objs.size f cdv))) :
    Is ⟨M, N, sc, k, true, g, none⟩ (cxOf CX0 M.prog M.w M.K M.mg M.base N qual sc f cdv A outer s H E).nox :=
  ⟨rfl, rfl, rfl, rfl, rfl, rfl, rfl, rfl, hr, fun _ _ => rfl, PassesOwn.never, hn, hg, fun _ _ z => nomatch z⟩
theorem fn_ok {M : Md} {x qual : Str} {st : Stmt} {f : Addr} {fd : FuncData} {N ps : List Str} {k : Nat} {sp : Sp} (F : Fun M.K x qual st f fd) (S : FnScope N ps (defScope st)) (len : ∀ vs H Q E, sp vs H Q E → vs.length = ps.length)
    (body : ∀ (H : Hp) (vs : List V) (Q : VK) (E : XK), sp vs H Q E → RB ⟨M, N, defScope st, k, true, false, none⟩ (defBody st) { nx := fun _ H' => Q .non H', rt := Q } (start N vs) H) : FnG M.prog M.w M.K M.mg M.base CX0 (k + 1) f fd ps sp :=
  F.ok S len fun cdv A outer s H vs Q E hr h => ⟨RB ⟨M, N, defScope st, k, true, false, none⟩ (defBody st), ps_rb (is_cx S.nd (fun z => Bool.noConfusion z) hr), body H vs Q E h⟩
theorem fn_okQ {M : Md} {x qual : Str} {st : Stmt} {f : Addr} {fd : FuncData} {N ps : List Str} {k : Nat} {sp : Sp} (F : Fun M.K x qual st f fd) (S : FnScope N ps (defScope st)) (len : ∀ vs H Q E, sp vs H Q E → vs.length = ps.length)
    (body : ∀ (H : Hp) (vs : List V) (Q : VK) (E : XK), sp vs H Q E → RB ⟨M, N, defScope st, k, true, true, none⟩ (defBody st) { nx := fun _ H' => Q .non H', rt := Q } (start N vs) H) : FnQ M.prog M.w M.K M.mg M.base CX0 (k + 1) f fd ps sp := by
  obtain ⟨oc, od, kV, doc, pm, an, cdv, ct, osl, rfl, at_, cod⟩ := F.ex
  exact fnQ_of at_ cod S len fun A up s H vs Q E hg hr h => ⟨RB ⟨M, N, defScope st, k, true, true, none⟩ (defBody st), (ps_rb (is_cx S.nd (fun _ => hg) hr)).nox, body H vs Q E h⟩
end
end G
namespace G
open PySem PySem.Spec PyProof.Rows L2
theorem ifd {p A B : Prop} [Decidable p] (h1 : p → A) (h2 : ¬ p → B) : if decide p = true then A else B := by
  by_cases h : p
  · rw [if_pos (decide_eq_true h)]; exact h1 h
  · rw [if_neg (by simp [h])]; exact h2 h
theorem ifnd {p A B : Prop} [Decidable p] (h1 : ¬ p → A) (h2 : p → B) : if (!decide p) = true then A else B := by
  by_cases h : p
  · rw [if_neg (by simp [h])]; exact h2 h
  · rw [if_pos (by simp [h])]; exact h1 h
theorem ifT {p A B : Prop} [Decidable p] (h : p) (a : A) : if decide p = true then A else B := by rw [if_pos (decide_eq_true h)]; exact a
theorem ifF {p A B : Prop} [Decidable p] (h : ¬ p) (b : B) : if decide p = true then A else B := by rw [if_neg (by simp [h])]; exact b
theorem ifnT {p A B : Prop} [Decidable p] (h : ¬ p) (a : A) : if (!decide p) = true then A else B := by rw [if_pos (by simp [h])]; exact a
theorem ifnF {p A B : Prop} [Decidable p] (h : p) (b : B) : if (!decide p) = true then A else B := by rw [if_neg (by simp [h])]; exact b
theorem ifb {k : Bool} {A B : Prop} (h1 : k = true → A) (h2 : k = false → B) : if k = true then A else B := by
  cases k with
  | true => exact h1 rfl
  | false => exact h2 rfl
end G
namespace G
open PySem PySem.Spec PyProof.Rows L2
section
variable {c : Cd} {σ : L2.St} {H : Hp} {Q : VK} {pos : Pos} {x y : V}
/-- d[k] with a written text -/
theorem e_dgetS {a : Expr} {s : Str} {j : Nat} {p2 : Pos} (q : RE c a σ H fun x H1 => ∃ p kvs v, x = .ref p ∧ H1 p = some (.dK kvs) ∧ valV kvs (Sum.inr s) = some v ∧ Q v H1) (hs : NoSl (.Constant (.str s) j p2) := by intro _ _; rfl) : RE c (.Subscript a (.Constant (.str s) j p2) pos) σ H Q :=
  e_dget (RE.mono (fun x H1 z => e_str (by
    obtain ⟨p, kvs, v, rfl, h, e, q⟩ := z
    refine ⟨p, v, rfl, ?_, q⟩
    rw [← e]; exact DGet.k (k := Sum.inr s) h)) q) hs
theorem e_dgetK {a b : Expr} (q : RE c a σ H fun x H1 => RE c b σ H1 fun y H2 => ∃ p kvs k v, x = .ref p ∧ H2 p = some (.dK kvs) ∧ y = kV k ∧ valV kvs k = some v ∧ Q v H2) (hs : NoSl b := by intro _ _; rfl) : RE c (.Subscript a b pos) σ H Q :=
  e_dget (RE.mono (fun x H1 z => RE.mono (fun y H2 z => by
    obtain ⟨p, kvs, k, v, rfl, h, rfl, e, q⟩ := z
    refine ⟨p, v, rfl, ?_, q⟩
    rw [← e]; exact DGet.k h) z) q) hs
variable {nx : L2.St → Hp → Prop} {rt : VK} {bk ct : L2.St → Hp → Prop}
theorem s_dputS {a e : Expr} {s : Str} {j : Nat} {p2 p3 : Pos} (q : RE c e σ H fun v H1 => RE c a σ H1 fun x H2 => ∃ p kvs, x = .ref p ∧ H2 p = some (.dK kvs) ∧ kvs.length < 1000 ∧ nx σ (upd H2 p (.dK (putK kvs (Sum.inr s) v))))
    (hs : ∀ env, swapsWith e (some (.Subscript a (.Constant (.str s) j p2) p3)) pos.line env = pure false := by intro _; rfl) : RS c (.Assign [.Subscript a (.Constant (.str s) j p2) p3] e pos) ⟨nx, rt, bk, ct⟩ σ H :=
  s_dput (RE.mono (fun v H1 z => RE.mono (fun x H2 z => e_str (by
    obtain ⟨p, kvs, rfl, h, l, q⟩ := z
    exact ⟨p, _, rfl, DPut.k (k := Sum.inr s) h (Nat.lt_trans l (by decide)), q⟩)) z) q) hs
end

/-! ### the law's source of draws: a dict of four things -/
def fkv (a : V) (b d e : Int) : List (Key × V) := [(Sum.inr "cells", a), (Sum.inr "next", .int b), (Sum.inr "rest", .int d), (Sum.inr "draws", .int e)]
theorem fkv_len (a : V) (b d e : Int) : (fkv a b d e).length = 4 := rfl
theorem n01 : ¬ (Sum.inr ("cells" : Str) : Key) = Sum.inr ("next" : Str) := by decide +kernel
theorem n02 : ¬ (Sum.inr ("cells" : Str) : Key) = Sum.inr ("rest" : Str) := by decide +kernel
theorem n03 : ¬ (Sum.inr ("cells" : Str) : Key) = Sum.inr ("draws" : Str) := by decide +kernel
theorem n12 : ¬ (Sum.inr ("next" : Str) : Key) = Sum.inr ("rest" : Str) := by decide +kernel
theorem n13 : ¬ (Sum.inr ("next" : Str) : Key) = Sum.inr ("draws" : Str) := by decide +kernel
theorem n23 : ¬ (Sum.inr ("rest" : Str) : Key) = Sum.inr ("draws" : Str) := by decide +kernel
theorem fkv_0 {a : V} {b d e : Int} : valV (fkv a b d e) (Sum.inr "cells") = some a := valV_pos rfl
theorem fkv_1 {a : V} {b d e : Int} : valV (fkv a b d e) (Sum.inr "next") = some (.int b) := by rw [fkv, valV_neg n01]; exact valV_pos rfl
theorem fkv_2 {a : V} {b d e : Int} : valV (fkv a b d e) (Sum.inr "rest") = some (.int d) := by rw [fkv, valV_neg n02, valV_neg n12]; exact valV_pos rfl
theorem fkv_3 {a : V} {b d e : Int} : valV (fkv a b d e) (Sum.inr "draws") = some (.int e) := by rw [fkv, valV_neg n03, valV_neg n13, valV_neg n23]; exact valV_pos rfl
theorem fput_1 {a : V} {b d e x : Int} : putK (fkv a b d e) (Sum.inr "next") (.int x) = fkv a x d e := by
  unfold putK
  rw [valV_any, fkv_1, Option.isSome_some, if_pos rfl]
  simp only [fkv, List.map_cons, List.map_nil, if_neg n01, if_pos, if_neg (fun h => n12 (Eq.symm h)), if_neg (fun h => n13 (Eq.symm h))]
theorem fput_2 {a : V} {b d e x : Int} : putK (fkv a b d e) (Sum.inr "rest") (.int x) = fkv a b x e := by
  unfold putK
  rw [valV_any, fkv_2, Option.isSome_some, if_pos rfl]
  simp only [fkv, List.map_cons, List.map_nil, if_neg n02, if_neg n12, if_pos, if_neg (fun h => n23 (Eq.symm h))]
theorem fput_3 {a : V} {b d e x : Int} : putK (fkv a b d e) (Sum.inr "draws") (.int x) = fkv a b d x := by
  unfold putK
  rw [valV_any, fkv_3, Option.isSome_some, if_pos rfl]
  simp only [fkv, List.map_cons, List.map_nil, if_neg n03, if_neg n13, if_neg n23, if_pos]
def Feed (K : PySem.W.Frag) (H : Hp) (fd cl : Addr) : Prop := ∃ (ns : List Int) (b d e : Int), H fd = some (.dK (fkv (.ref cl) b d e)) ∧ H cl = some (.lst (ns.map V.int)) ∧ ns.length ≤ 63
theorem Feed.same {K : PySem.W.Frag} {H H' : Hp} {fd cl : Addr} (h : Feed K H fd cl) (s : Same H H') : Feed K H' fd cl := by
  obtain ⟨ns, b, d, e, h1, h2, h3⟩ := h
  exact ⟨ns, b, d, e, s _ _ h1, s _ _ h2, h3⟩
theorem Feed.upd {K : PySem.W.Frag} {H : Hp} {fd cl l : Addr} {o : HO} (h : Feed K H fd cl) (n1 : l ≠ fd) (n2 : l ≠ cl) : Feed K (upd H l o) fd cl := by
  obtain ⟨ns, b, d, e, h1, h2, h3⟩ := h
  exact ⟨ns, b, d, e, by rw [upd_ne (fun e => n1 e.symm)]; exact h1, by rw [upd_ne (fun e => n2 e.symm)]; exact h2, h3⟩
theorem kp_fd {H : Hp} {p : Addr} {kvs : List (Key × V)} {o' : HO} (h : H p = some (.dK kvs)) : Kp p H (upd H p o') := kp_upd h (fun _ e => nomatch e) fun _ _ e => nomatch e
/-- a def that draws: what it asks of its other arguments, what it may answer -/
def spD (Pre : List PyData → Prop) (R : List PyData → PyData → Prop) (K : PySem.W.Frag) : Sp := fun vs H Q _ => ∃ fd cl rest ds, vs = .ref fd :: rest ∧ Feed K H fd cl ∧ DtAll K H rest ds ∧ Pre ds ∧
  ∀ d v H', R ds d → Kp fd H H' → Feed K H' fd cl → Dt K H' v d → Q v H'
theorem spD_len {Pre : List PyData → Prop} {R : List PyData → PyData → Prop} {K : PySem.W.Frag} {n : Nat} (hp : ∀ ds, Pre ds → ds.length = n) : ∀ vs H Q E, spD Pre R K vs H Q E → vs.length = n + 1 := by
  rintro vs H Q E ⟨fd, cl, rest, ds, rfl, _, h, p, _⟩
  rw [List.length_cons, h.len, hp ds p]
end G

namespace G
open PySem PySem.Spec PyProof.Rows L2
structure Bl (M : Md) : Prop where
  len : M.mg "len" = none
  int : M.mg "int" = none
  max : M.mg "max" = none
  min : M.mg "min" = none
  range : M.mg "range" = none
  tuple : M.mg "tuple" = none
  list : M.mg "list" = none
  isinst : M.mg "isinstance" = none
  str : M.mg "str" = none
  bool : M.mg "bool" = none
  set : M.mg "set" = none
  dict : M.mg "dict" = none
  sorted : M.mg "sorted" = none
theorem dpInts {K : PySem.W.Frag} {H : Hp} : ∀ ns : List Int, DpAll K H (ns.map V.int) (ns.map PyData.int)
  | [] => .nil
  | n :: ns => .cons (.int n) (dpInts ns)
theorem shInts (ns : List Int) : SeqAt.shaped (.list (ns.map PyData.int)) = true := by
  have h : ∀ ns : List Int, PyData.canLayAll0 (ns.map PyData.int) = true ∧ PyData.depthAll (ns.map PyData.int) ≤ 1 := by
    intro ns
    induction ns with
    | nil => exact ⟨by simp [PyData.canLayAll0], by simp [PyData.depthAll]⟩
    | cons n ns ih => exact ⟨by simp [PyData.canLayAll0, PyData.canLay0, ih.1], by simp only [List.map_cons, PyData.depthAll, PyData.depth]; omega⟩
  show (PyData.canLay0 (.list _) && decide (PyData.depth (.list _) ≤ 64)) = true
  rw [Bool.and_eq_true]
  refine ⟨by simp only [PyData.canLay0]; exact (h ns).1, decide_eq_true ?_⟩
  simp only [PyData.depth]
  have := (h ns).2
  omega
theorem pl_at {α : Type} {xs : List α} {z : Int} {j : Nat} {v : α} (e : z = (j : Int)) (h : xs[j]? = some v) : atI xs z = some v := by
  rw [e]
  exact atI_nat h
end G

namespace G
open PySem PySem.Spec PyProof.Rows L2
/-! ### comprehensions -/
abbrev blkCd (c : Cd) (scope : Scope) : Cd := ⟨c.toMd, c.N, relS scope c.sc, c.k, false, c.g, none⟩
theorem is_blk {c : Cd} {X : Cx} (h : Is c X) {scope : Scope} (s : Shared) (H : Hp) (C : Addr) (cl : List (Str × Addr)) (fp : List Addr) : Is (blkCd c scope) (X.blk s H scope (compEnvC scope cl C X.env) fp) := by
  refine ⟨h.prog, h.w, h.K, h.mg, h.base, h.N, ?_, h.calm, h.room, (fun z => Bool.noConfusion z), PassesOwn.never, h.nd, h.gd, fun _ _ z => nomatch z⟩
  show relS scope X.env.scope = relS scope c.sc
  rw [h.sc]
section
variable {c : Cd} {σ : L2.St} {H : Hp} {Q : VK} {pos : Pos} {x y : V}
theorem ts_nil {Q : Bool → Hp → Prop} (q : Q true H) : RTs c [] σ H Q := rts_of (fun _ _ => pts_nil) q
theorem ts_one {Q : Bool → Hp → Prop} {e : Expr} (q : RT c e σ H Q) : RTs c [e] σ H Q := rts_of (fun _ h => pts_one (pt_rt h)) q
/-- what is asked of a comprehension's block -/
structure Blk (c : Cd) (scope : Scope) (own : List (Str × Nat)) : Prop where
  ok : BlkOk c.N c.sc scope own
theorem Blk.of {c : Cd} {scope : Scope} {own : List (Str × Nat)} {N : List Str} {sc : Scope} (h1 : c.N = N) (h2 : c.sc = sc) (h : blkC N sc scope own = true) : Blk c scope own := ⟨by rw [h1, h2]; exact blkOk_by h⟩
theorem e_lc {elt tg iter : Expr} {ifs : List Expr} {scope : Scope} {own : List (Str × Nat)} (ok : Blk c scope own)
    (q : tLc (RI c tg iter) (RG (blkCd c scope) tg) (RTs (blkCd c scope) ifs) (RE (blkCd c scope) elt) (own.map (·.2)) σ H Q) (hs : ∀ env x, foldedSetIterable iter env x = pure x := by intro _ _; rfl) : RE c (.ListComp elt [⟨tg, iter, ifs, 0⟩] scope pos) σ H Q :=
  re_of (fun X h => pe_lc h.calm (by rw [h.N]; exact h.nd) (pi_ri h) (by rw [h.N, h.sc]; exact ok.ok) (fun s H C cl fp => pg_rg (is_blk h s H C cl fp)) (fun s H C cl fp => pts_rts (is_blk h s H C cl fp)) (fun s H C cl fp => pe_re (is_blk h s H C cl fp)) (hs _)) q
theorem s_setLc {nx : L2.St → Hp → Prop} {rt : VK} {bk ct : L2.St → Hp → Prop} {i : Nat} {y : Str} {py : Pos} {elt tg iter : Expr} {ifs : List Expr} {scope : Scope} {own : List (Str × Nat)} {spos : Pos} (hA : At c.N i y) (ok : Blk c scope own)
    (q : tLc (RI c tg iter) (RG (blkCd c scope) tg) (RTs (blkCd c scope) ifs) (RE (blkCd c scope) elt) (own.map (·.2)) σ H fun v H1 => nx (σ.set i (some v)) H1)
    (hy : c.sc.names.lookup y = some .local := by rfl) (hl : (py.line == pos.line) = true := by rfl) (ha : (scope.names.any fun (n, k) => n == y && (k == .local || k == .cell)) = false := by rfl) (hf : c.sc.kind = .function := by rfl) (hs : ∀ env x, foldedSetIterable iter env x = pure x := by intro _ _; rfl) :
    RS c (.Assign [.Name y py] (.ListComp elt [⟨tg, iter, ifs, 0⟩] scope pos) spos) ⟨nx, rt, bk, ct⟩ σ H :=
  rs_of (c := c) (σ := σ) (H := H) (D := ⟨nx, rt, bk, ct⟩) (t := tAsg (tLc (RI c tg iter) (RG (blkCd c scope) tg) (RTs (blkCd c scope) ifs) (RE (blkCd c scope) elt) (own.map (fun p : Str × Nat => p.2))) (gName i)) (fun X h => ps_setLc h.calm (by rw [h.N]; exact h.nd) (by rw [h.N]; exact hA.get) (by rw [h.sc]; exact hy)
    (sw_true (by rw [h.sc]; exact hf) (by rw [h.sc]; exact hy) hl ha) (pi_ri h) (by rw [h.N, h.sc]; exact ok.ok) (fun s H C cl fp => pg_rg (is_blk h s H C cl fp)) (fun s H C cl fp => pts_rts (is_blk h s H C cl fp)) (fun s H C cl fp => pe_re (is_blk h s H C cl fp)) (hs _)) q

/-- a turn of a comprehension, with a word Pv: what the turn, the collected values and the heap are -/
def Turn1 (cB : Cd) (tg : Expr) (ifs : List Expr) (elt : Expr) (vs : List Nat) (σ : L2.St) (D : Addr) (x : V) (H' : Hp) (acc : List V) (Nx : List V → Hp → Prop) : Prop :=
  RG cB tg x (wipe σ vs) H' fun σ2 H2 => wipe σ2 vs = wipe σ vs ∧ RTs cB ifs σ2 H2 fun b H3 => if b = true then RE cB elt σ2 H3 fun y H4 => H4 D = some (.lst acc) ∧ Nx (acc ++ [y]) (upd H4 D (.lst (acc ++ [y]))) else Nx acc H3
section
variable {elt tg iter : Expr} {ifs : List Expr} {scope : Scope} {vs : List Nat}
/-- over a tuple -/
theorem lc_T (q : RE c iter σ H fun x H1 => ∃ a xs, x = .ref a ∧ SqT c.K H1 a xs ∧ xs.length ≤ 1000 ∧ ∀ D, H1 D = none → ∃ Pv : Nat → List V → Hp → Prop, Pv 0 [] (upd H1 D (.lst [])) ∧ (∀ i acc H', i ≤ xs.length → Pv i acc H' → SqT c.K H' a xs ∧ acc.length ≤ i) ∧
      (∀ i x acc H', xs[i]? = some x → Pv i acc H' → Turn1 (blkCd c scope) tg ifs elt vs σ D x H' acc (Pv (i + 1))) ∧ ∀ acc H', Pv xs.length acc H' → Q (.ref D) H') :
    tLc (RI c tg iter) (RG (blkCd c scope) tg) (RTs (blkCd c scope) ifs) (RE (blkCd c scope) elt) vs σ H Q := by
  refine i_tup (RE.mono (fun x H1 z => ?_) q)
  obtain ⟨a, xs, rfl, ht, hl, z⟩ := z
  refine ⟨a, rfl, ⟨xs, ht⟩, fun D hD => ?_⟩
  obtain ⟨Pv, p0, pk, pt, pe⟩ := z D hD
  refine lc_tup (xs := xs) (fun i H' => ∃ acc, Pv i acc H') ⟨_, p0⟩ (fun i H' hi ⟨acc, p⟩ => (pk i acc H' hi p).1) (fun i x H' hx ⟨acc, p⟩ => ?_) fun H' ⟨acc, p⟩ => pe acc H' p
  have hi : i < xs.length := (List.getElem?_eq_some_iff.mp hx).1
  have la := (pk i acc H' (Nat.le_of_lt hi) p).2
  refine RG.mono (fun σ2 H2 z => ?_) (pt i x acc H' hx p)
  refine ⟨z.1, RTs.mono (fun b H3 z => ?_) z.2⟩
  cases b with
  | true => exact RE.mono (fun y H4 z => ⟨acc, z.1, Nat.lt_of_le_of_lt la (Nat.lt_of_lt_of_le hi (Nat.le_trans hl (by decide))), _, z.2⟩) z
  | false => exact ⟨_, z⟩
/-- over a list -/
theorem lc_L (q : RE c iter σ H fun x H1 => ∃ a xs, x = .ref a ∧ SqL c.K H1 a xs ∧ xs.length ≤ 1000 ∧ ∀ D, H1 D = none → ∃ Pv : Nat → List V → Hp → Prop, Pv 0 [] (upd H1 D (.lst [])) ∧ (∀ i acc H', i ≤ xs.length → Pv i acc H' → SqL c.K H' a xs ∧ acc.length ≤ i) ∧
      (∀ i x acc H', xs[i]? = some x → Pv i acc H' → Turn1 (blkCd c scope) tg ifs elt vs σ D x H' acc (Pv (i + 1))) ∧ ∀ acc H', Pv xs.length acc H' → Q (.ref D) H') :
    tLc (RI c tg iter) (RG (blkCd c scope) tg) (RTs (blkCd c scope) ifs) (RE (blkCd c scope) elt) vs σ H Q := by
  refine i_list (RE.mono (fun x H1 z => ?_) q)
  obtain ⟨a, xs, rfl, ht, hl, z⟩ := z
  refine ⟨a, rfl, ⟨xs, ht⟩, fun D hD => ?_⟩
  obtain ⟨Pv, p0, pk, pt, pe⟩ := z D hD
  refine lc_list (xs := xs) (fun i H' => ∃ acc, Pv i acc H') ⟨_, p0⟩ (fun i H' hi ⟨acc, p⟩ => (pk i acc H' hi p).1) (fun i x H' hx ⟨acc, p⟩ => ?_) fun H' ⟨acc, p⟩ => pe acc H' p
  have hi : i < xs.length := (List.getElem?_eq_some_iff.mp hx).1
  have la := (pk i acc H' (Nat.le_of_lt hi) p).2
  refine RG.mono (fun σ2 H2 z => ?_) (pt i x acc H' hx p)
  refine ⟨z.1, RTs.mono (fun b H3 z => ?_) z.2⟩
  cases b with
  | true => exact RE.mono (fun y H4 z => ⟨acc, z.1, Nat.lt_of_le_of_lt la (Nat.lt_of_lt_of_le hi (Nat.le_trans hl (by decide))), _, z.2⟩) z
  | false => exact ⟨_, z⟩
/-- over range(a, b) -/
theorem lc_R2 {a b : Expr} {p ppos : Pos} (hm : c.mg "range" = none) (q : RE c a σ H fun x H1 => RE c b σ H1 fun y H2 => ∃ i j : Int, x = .int i ∧ y = .int j ∧ (-1000 ≤ i ∧ i ≤ 1000) ∧ (-1000 ≤ j ∧ j ≤ 1000) ∧ ∀ D, H2 D = none → ∃ Pv : Nat → List V → Hp → Prop, Pv 0 [] (upd H2 D (.lst [])) ∧ (∀ t acc H', Pv t acc H' → acc.length ≤ t) ∧
      (∀ t acc H', t < (j - i).toNat → Pv t acc H' → Turn1 (blkCd c scope) tg ifs elt vs σ D (.int (i + t)) H' acc (Pv (t + 1))) ∧ ∀ acc H', Pv (j - i).toNat acc H' → Q (.ref D) H')
    (hg : c.sc.names.lookup ("range" : Str) = some .globalImplicit := by rfl) (hs : ∀ env, starEach [a, b] env = [(false, eval a env), (false, eval b env)] := by intro _; rfl) (hs2 : ∀ env, starEach [b] env = [(false, eval b env)] := by intro _; rfl) :
    tLc (RI c tg (.Call (.Name "range" p) [a, b] [] ppos)) (RG (blkCd c scope) tg) (RTs (blkCd c scope) ifs) (RE (blkCd c scope) elt) vs σ H Q := by
  refine i_range2 hm (a_cons (RE.mono (fun x H1 z => a_cons (RE.mono (fun y H2 z => a_nil ?_) z) (fun env => by rw [hs2]; rfl)) q) (fun env => by rw [hs, hs2])) hg hs hs2
  obtain ⟨i, j, rfl, rfl, h1, h2, z⟩ := z
  refine ⟨i, j, rfl, ⟨by omega, by omega, by omega, by omega⟩, fun D hD => ?_⟩
  obtain ⟨Pv, p0, pk, pt, pe⟩ := z D hD
  refine lc_range (lo := i) (n := (j - i).toNat) (fun t H' => ∃ acc, Pv t acc H') ⟨_, p0⟩ (fun t H' ht ⟨acc, p⟩ => ?_) fun H' ⟨acc, p⟩ => pe acc H' p
  have la := pk t acc H' p
  refine RG.mono (fun σ2 H2 z => ?_) (pt t acc H' ht p)
  refine ⟨z.1, RTs.mono (fun b H3 z => ?_) z.2⟩
  cases b with
  | true => exact RE.mono (fun y H4 z => ⟨acc, z.1, Nat.lt_of_le_of_lt la (Nat.lt_of_lt_of_le ht (Nat.le_trans (show (j - i).toNat ≤ 2000 by omega) (by decide))), _, z.2⟩) z
  | false => exact ⟨_, z⟩
/-- over range(n) -/
theorem lc_R1 {a : Expr} {p ppos : Pos} (hm : c.mg "range" = none) (q : RE c a σ H fun y H2 => ∃ j : Int, y = .int j ∧ (-1000 ≤ j ∧ j ≤ 1000) ∧ ∀ D, H2 D = none → ∃ Pv : Nat → List V → Hp → Prop, Pv 0 [] (upd H2 D (.lst [])) ∧ (∀ t acc H', Pv t acc H' → acc.length ≤ t) ∧
      (∀ t acc H', t < j.toNat → Pv t acc H' → Turn1 (blkCd c scope) tg ifs elt vs σ D (.int t) H' acc (Pv (t + 1))) ∧ ∀ acc H', Pv j.toNat acc H' → Q (.ref D) H')
    (hg : c.sc.names.lookup ("range" : Str) = some .globalImplicit := by rfl) (hs : ∀ env, starEach [a] env = [(false, eval a env)] := by intro _; rfl) :
    tLc (RI c tg (.Call (.Name "range" p) [a] [] ppos)) (RG (blkCd c scope) tg) (RTs (blkCd c scope) ifs) (RE (blkCd c scope) elt) vs σ H Q := by
  refine i_range1 hm (a_cons (RE.mono (fun x H1 z => a_nil ?_) q) (fun env => by rw [hs]; rfl)) hg hs
  obtain ⟨j, rfl, h2, z⟩ := z
  refine ⟨j, rfl, by omega, by omega, fun D hD => ?_⟩
  obtain ⟨Pv, p0, pk, pt, pe⟩ := z D hD
  refine lc_range (lo := 0) (n := j.toNat) (fun t H' => ∃ acc, Pv t acc H') ⟨_, p0⟩ (fun t H' ht ⟨acc, p⟩ => ?_) fun H' ⟨acc, p⟩ => pe acc H' p
  have la := pk t acc H' p
  rw [Int.zero_add]
  refine RG.mono (fun σ2 H2 z => ?_) (pt t acc H' ht p)
  refine ⟨z.1, RTs.mono (fun b H3 z => ?_) z.2⟩
  cases b with
  | true => exact RE.mono (fun y H4 z => ⟨acc, z.1, Nat.lt_of_le_of_lt la (Nat.lt_of_lt_of_le ht (Nat.le_trans (show j.toNat ≤ 1000 by omega) (by decide))), _, z.2⟩) z
  | false => exact ⟨_, z⟩
/-- over a text's signs -/
theorem lc_S (q : RE c iter σ H fun x H1 => ∃ z : Str, x = .str z ∧ z.cps.size ≤ 1000 ∧ ∀ D, H1 D = none → ∃ Pv : Nat → List V → Hp → Prop, Pv 0 [] (upd H1 D (.lst [])) ∧ (∀ i acc H', Pv i acc H' → acc.length ≤ i) ∧
      (∀ i ch acc H', i < z.cps.size → Pv i acc H' → Turn1 (blkCd c scope) tg ifs elt vs σ D (.str ⟨#[ch]⟩) H' acc (Pv (i + 1))) ∧ ∀ acc H', Pv z.cps.size acc H' → Q (.ref D) H') :
    tLc (RI c tg iter) (RG (blkCd c scope) tg) (RTs (blkCd c scope) ifs) (RE (blkCd c scope) elt) vs σ H Q := by
  refine ri_of (t := iStr (RE c iter)) (fun X h => pi_str (pe_re h)) (RE.mono (fun x H1 z => ?_) q)
  obtain ⟨z, rfl, hl, w⟩ := z
  refine ⟨z, rfl, fun D hD => ?_⟩
  obtain ⟨Pv, p0, pk, pt, pe⟩ := w D hD
  refine ⟨fun i m H' => m = z.cps.size - i ∧ i ≤ z.cps.size ∧ ∃ acc, Pv i acc H', ⟨z.cps.size, by simp, Nat.zero_le _, _, p0⟩, ?_⟩
  rintro i m H' ⟨rfl, hi, acc, p⟩
  by_cases hlt : i < z.cps.size
  · refine .inr ⟨hlt, fun H' => ∃ acc, Pv (i + 1) acc H', fun H' p' => ⟨z.cps.size - (i + 1), by omega, rfl, hlt, p'⟩, fun x H2 yy => ?_⟩
    obtain ⟨e, ch, hc, rfl⟩ := yy
    subst e
    have la := pk i acc _ p
    refine RG.mono (fun σ2 H2 z => ?_) (pt i ch acc _ hlt p)
    refine ⟨z.1, RTs.mono (fun b H3 z => ?_) z.2⟩
    cases b with
    | true => exact RE.mono (fun y H4 z => ⟨acc, z.1, Nat.lt_of_le_of_lt la (Nat.lt_of_lt_of_le hlt (Nat.le_trans hl (by decide))), _, z.2⟩) z
    | false => exact ⟨_, z⟩
  · have e : i = z.cps.size := by omega
    subst e
    exact .inl ⟨Nat.le_refl _, pe acc H' p⟩
end
end

/-! ### comprehensions that change nothing: a function on data -/
section
variable {c : Cd} {σ : L2.St} {H : Hp} {Q : VK} {pos : Pos} {x y : V} {elt tg iter : Expr} {ifs : List Expr} {scope : Scope} {vs : List Nat}
/-- the pure turn -/
def TurnF (cB : Cd) (tg : Expr) (ifs : List Expr) (elt : Expr) (vs : List Nat) (σ : L2.St) (K : PySem.W.Frag) (x : V) (H' : Hp) (o : Option PyData) : Prop :=
  RG cB tg x (wipe σ vs) H' fun σ2 H2 => H2 = H' ∧ wipe σ2 vs = wipe σ vs ∧ RTs cB ifs σ2 H2 fun b H3 => Same H' H3 ∧ if b = true then RE cB elt σ2 H3 fun y H4 => Same H3 H4 ∧ ∃ e, o = some e ∧ Dt K H4 y e else o = none
theorem TurnF.one {cB : Cd} {σ : L2.St} {K : PySem.W.Frag} {x : V} {H1 H' : Hp} {o : Option PyData} {D : Addr} {acc : List V} {es : List PyData} (hD : H1 D = none) (s : Same H1 H') (ha : H' D = some (.lst acc)) (hd : DtAll K H' acc es) (t : TurnF cB tg ifs elt vs σ K x H' o) :
    Turn1 cB tg ifs elt vs σ D x H' acc fun acc' H2 => H2 D = some (.lst acc') ∧ Same H1 H2 ∧ DtAll K H2 acc' (es ++ o.toList) := by
  refine RG.mono (fun σ2 H2 z => ?_) t
  obtain ⟨rfl, z1, z2⟩ := z
  refine ⟨z1, RTs.mono (fun b H3 z => ?_) z2⟩
  obtain ⟨s3, z⟩ := z
  cases b with
  | true =>
    refine RE.mono (fun y H4 z => ?_) z
    obtain ⟨s4, e, rfl, he⟩ := z
    have aD := s4 _ _ (s3 _ _ ha)
    have k := kp_upd (o' := .lst (acc ++ [y])) aD (fun _ e => nomatch e) (fun _ _ e => nomatch e)
    exact ⟨aD, upd_same, same_mut (s.trans (s3.trans s4)) hD, ((hd.mono (tp_same (s3.trans s4))).mono k.t).app (.cons (he.mono k.t) .nil)⟩
  | false =>
    have z : o = none := z
    subst z
    exact ⟨s3 _ _ ha, s.trans s3, by rw [Option.toList_none, List.append_nil]; exact hd.mono (tp_same s3)⟩
theorem outs_step {g : PyData → Option PyData} {ds : List PyData} {i : Nat} {d : PyData} (h : ds[i]? = some d) : (ds.take i).filterMap g ++ (g d).toList = (ds.take (i + 1)).filterMap g := by
  obtain ⟨h1, rfl⟩ := List.getElem?_eq_some_iff.mp h
  rw [List.take_succ_eq_append_getElem h1, List.filterMap_append]
  congr 1
theorem lcT_F (g : PyData → Option PyData) (q : RE c iter σ H fun x H1 => ∃ ds, Dt c.K H1 x (.tuple ds) ∧ ds.length ≤ 1000 ∧ (∀ d x H', d ∈ ds → Same H1 H' → Dt c.K H' x d → TurnF (blkCd c scope) tg ifs elt vs σ c.K x H' (g d)) ∧
      ∀ p us H2, Same H1 H2 → H1 p = none → H2 p = some (.lst us) → DtAll c.K H2 us (ds.filterMap g) → Q (.ref p) H2) :
    tLc (RI c tg iter) (RG (blkCd c scope) tg) (RTs (blkCd c scope) ifs) (RE (blkCd c scope) elt) vs σ H Q := by
  refine lc_T (RE.mono (fun x H1 z => ?_) q)
  obtain ⟨ds, hx, hl, t, k⟩ := z
  obtain ⟨a, xs, rfl, ht, ha⟩ := hx.tupE
  have hle := ha.len
  refine ⟨a, xs, rfl, ht, by omega, fun D hD => ⟨fun i acc H' => acc.length ≤ i ∧ H' D = some (.lst acc) ∧ Same H1 H' ∧ DtAll c.K H' acc ((ds.take i).filterMap g), ⟨Nat.le_refl _, upd_same, same_new hD, .nil⟩, ?_, ?_, ?_⟩⟩
  · rintro i acc H' _ ⟨l, _, s, _⟩
    exact ⟨(tp_same s).sqt ht, l⟩
  · rintro i x acc H' hx ⟨l, h1, s, h2⟩
    obtain ⟨d, hd, hx'⟩ := ha.getV hx
    have T := TurnF.one hD s h1 h2 (t d x H' (List.mem_of_getElem? hd) s (hx'.mono (tp_same s)))
    refine RG.mono (fun σ2 H2 z => ⟨z.1, RTs.mono (fun b H3 z => ?_) z.2⟩) T
    cases b with
    | true => exact RE.mono (fun y H4 z => ⟨z.1, by rw [List.length_append, List.length_singleton]; omega, z.2.1, z.2.2.1, by rw [← outs_step hd]; exact z.2.2.2⟩) z
    | false => exact ⟨by omega, z.1, z.2.1, by rw [← outs_step hd]; exact z.2.2⟩
  · rintro acc H' ⟨l, h1, s, h2⟩
    refine k D acc H' s hD h1 ?_
    rw [hle, List.take_length] at h2
    exact h2
theorem lcL_F (g : PyData → Option PyData) (q : RE c iter σ H fun x H1 => ∃ a xs ds, x = .ref a ∧ SqL c.K H1 a xs ∧ DtAll c.K H1 xs ds ∧ ds.length ≤ 1000 ∧ (∀ d x H', d ∈ ds → Same H1 H' → Dt c.K H' x d → TurnF (blkCd c scope) tg ifs elt vs σ c.K x H' (g d)) ∧
      ∀ p us H2, Same H1 H2 → H1 p = none → H2 p = some (.lst us) → DtAll c.K H2 us (ds.filterMap g) → Q (.ref p) H2) :
    tLc (RI c tg iter) (RG (blkCd c scope) tg) (RTs (blkCd c scope) ifs) (RE (blkCd c scope) elt) vs σ H Q := by
  refine lc_L (RE.mono (fun x H1 z => ?_) q)
  obtain ⟨a, xs, ds, rfl, ht, ha, hl, t, k⟩ := z
  have hle := ha.len
  refine ⟨a, xs, rfl, ht, by omega, fun D hD => ⟨fun i acc H' => acc.length ≤ i ∧ H' D = some (.lst acc) ∧ Same H1 H' ∧ DtAll c.K H' acc ((ds.take i).filterMap g), ⟨Nat.le_refl _, upd_same, same_new hD, .nil⟩, ?_, ?_, ?_⟩⟩
  · rintro i acc H' _ ⟨l, _, s, _⟩
    exact ⟨s.seq ht, l⟩
  · rintro i x acc H' hx ⟨l, h1, s, h2⟩
    obtain ⟨d, hd, hx'⟩ := ha.getV hx
    have T := TurnF.one hD s h1 h2 (t d x H' (List.mem_of_getElem? hd) s (hx'.mono (tp_same s)))
    refine RG.mono (fun σ2 H2 z => ⟨z.1, RTs.mono (fun b H3 z => ?_) z.2⟩) T
    cases b with
    | true => exact RE.mono (fun y H4 z => ⟨z.1, by rw [List.length_append, List.length_singleton]; omega, z.2.1, z.2.2.1, by rw [← outs_step hd]; exact z.2.2.2⟩) z
    | false => exact ⟨by omega, z.1, z.2.1, by rw [← outs_step hd]; exact z.2.2⟩
  · rintro acc H' ⟨l, h1, s, h2⟩
    refine k D acc H' s hD h1 ?_
    rw [hle, List.take_length] at h2
    exact h2

/-! ### lists that grow -/
theorem e_app {o e : Expr} {apos : Pos} (q : RE c o σ H fun x H1 => ∃ l zs, x = .ref l ∧ H1 l = some (.lst zs) ∧ RE c e σ H1 fun y H2 => ∃ ys, H2 l = some (.lst ys) ∧ ys.length < 100000 ∧ Q .non (upd H2 l (.lst (ys ++ [y]))))
    (hbase : ∀ env, attributeBase o "append" env (eval o env) = eval o env := by intro _; rfl)
    (hfew : ∀ env, ((backTo pos (starEach [e] env)).all (fun x => !x.1) && (backToKw pos (keywordEach [] env)).all (fun x => x.1.isSome)
      && decide (([e] : List Expr).length + ([] : List Keyword).length + (if ([] : List Keyword).isEmpty then 0 else 1) < 30)) = true := by intro _; rfl)
    (hline : (apos.endLine == pos.line) = true := by rfl) (hs : ∀ env, starEach [e] env = (false, eval e env) :: starEach [] env := by intro _; rfl) (hplain : ∀ env, (backTo pos (starEach [] env)).any (·.1) = false := by intro _; rfl) :
    RE c (.Call (.Attribute o "append" apos) [e] [] pos) σ H Q := by
  refine e_bm PySem.F.plainAttrs_list PySem.F.slot_list_append PySem.F.type_list_append (RE.mono (fun x H1 z => ?_) q) hbase hfew hline hs hplain
  obtain ⟨l, zs, rfl, hl, z⟩ := z
  refine ⟨Or.inl ⟨rfl, _, Or.inl (Or.inl hl)⟩, a_cons (RE.mono (fun y H2 z => a_nil ?_) z) hs⟩
  obtain ⟨ys, hl, hz, z⟩ := z
  exact rm_of (fun X h => mt_append) ⟨l, ys, y, rfl, rfl, hl, Nat.lt_of_lt_of_le hz (by decide), z⟩
theorem e_ext {o e : Expr} {apos : Pos} (q : RE c o σ H fun x H1 => ∃ l zs, x = .ref l ∧ H1 l = some (.lst zs) ∧ RE c e σ H1 fun y H2 => ∃ b ys ws, y = .ref b ∧ H2 l = some (.lst ys) ∧ H2 b = some (.lst ws) ∧ ys.length + ws.length ≤ 100000 ∧ Q .non (upd H2 l (.lst (ys ++ ws))))
    (hbase : ∀ env, attributeBase o "extend" env (eval o env) = eval o env := by intro _; rfl)
    (hfew : ∀ env, ((backTo pos (starEach [e] env)).all (fun x => !x.1) && (backToKw pos (keywordEach [] env)).all (fun x => x.1.isSome)
      && decide (([e] : List Expr).length + ([] : List Keyword).length + (if ([] : List Keyword).isEmpty then 0 else 1) < 30)) = true := by intro _; rfl)
    (hline : (apos.endLine == pos.line) = true := by rfl) (hs : ∀ env, starEach [e] env = (false, eval e env) :: starEach [] env := by intro _; rfl) (hplain : ∀ env, (backTo pos (starEach [] env)).any (·.1) = false := by intro _; rfl) :
    RE c (.Call (.Attribute o "extend" apos) [e] [] pos) σ H Q := by
  refine e_bm PySem.F.plainAttrs_list PySem.F.slot_list_extend PySem.F.type_list_extend (RE.mono (fun x H1 z => ?_) q) hbase hfew hline hs hplain
  obtain ⟨l, zs, rfl, hl, z⟩ := z
  refine ⟨Or.inl ⟨rfl, _, Or.inl (Or.inl hl)⟩, a_cons (RE.mono (fun y H2 z => a_nil ?_) z) hs⟩
  obtain ⟨b, ys, ws, rfl, hl, hb, hz, z⟩ := z
  exact rm_of (fun X h => mt_extend) ⟨l, b, ys, ws, rfl, rfl, hl, hb, Nat.le_trans hz (by decide), z⟩
theorem tupend {K : PySem.W.Frag} {H1 : Hp} {xs : List V} {ds : List PyData} {Q : VK} (h : DtAll K H1 xs ds) (hl : xs.length ≤ 1000) (q : ∀ v H2, Same H1 H2 → Dt K H2 v (.tuple ds) → Q v H2) : ∃ ds, DtAll K H1 xs ds ∧ xs.length ≤ 1000 ∧ ∀ v H2, Same H1 H2 → Dt K H2 v (.tuple ds) → Q v H2 := ⟨ds, h, hl, q⟩
/-- [a, b, ..] -/
theorem e_lstD {es : List Expr} (q : RA c es σ H fun xs H1 => xs.length ≤ 1000 ∧ ∀ p H2, Same H1 H2 → H1 p = none → H2 p = some (.lst xs) → Q (.ref p) H2) : RE c (.List es pos) σ H Q :=
  e_lst (RA.mono (fun xs H1 z => ⟨Nat.le_trans z.1 (by decide), fun p hp => z.2 p _ (same_new hp) hp upd_same⟩) q)
/-- tuple(xs) of a list -/
theorem rc_tupL {p : Addr} {ys : List V} {ds : List PyData} (hl : SqL c.K H p ys) (hd : DtAll c.K H ys ds) (q : ∀ v H2, Same H H2 → Dt c.K H2 v (.tuple ds) → Q v H2) : RC c (.type "tuple") [.ref p] H Q :=
  rc_of (r := fun xs H Q => ∃ p ys, xs = [.ref p] ∧ ((SqL c.K H p ys ∧ ∀ l, H l = none → Q (.ref l) (upd H l (.tup ys))) ∨ (SqT c.K H p ys ∧ Q (.ref p) H))) (fun X h => by rw [← h.K]; exact call_tuple_of) ⟨p, ys, rfl, .inl ⟨hl, fun l hn => q _ _ (same_new hn) (.tup (.of upd_same) (hd.mono (tp_same (same_new hn))))⟩⟩
/-- list(xs) -/
theorem rc_lstL {p : Addr} {ys : List V} (hl : SqL c.K H p ys) (q : ∀ l H2, Same H H2 → H l = none → H2 l = some (.lst ys) → Q (.ref l) H2) : RC c (.type "list") [.ref p] H Q :=
  rc_of (r := fun xs H Q => ∃ p ys, xs = [.ref p] ∧ (SqL c.K H p ys ∨ SqT c.K H p ys) ∧ ∀ l, H l = none → Q (.ref l) (upd H l (.lst ys))) (fun X h => by rw [← h.K]; exact call_list_of) ⟨p, ys, rfl, .inl hl, fun l hn => q _ _ (same_new hn) hn upd_same⟩
theorem rc_lstT {ds : List PyData} (hx : Dt c.K H x (.tuple ds)) (q : ∀ l ys H2, Same H H2 → H l = none → H2 l = some (.lst ys) → DtAll c.K H2 ys ds → Q (.ref l) H2) : RC c (.type "list") [x] H Q := by
  obtain ⟨a, ys, rfl, ht, hd⟩ := hx.tupE
  exact rc_of (r := fun xs H Q => ∃ p ys, xs = [.ref p] ∧ (SqL c.K H p ys ∨ SqT c.K H p ys) ∧ ∀ l, H l = none → Q (.ref l) (upd H l (.lst ys))) (fun X h => by rw [← h.K]; exact call_list_of) ⟨a, ys, rfl, .inr ht, fun l hn => q _ _ _ (same_new hn) hn upd_same (hd.mono (tp_same (same_new hn)))⟩
end
end G
namespace G
open PySem PySem.Spec PyProof.Rows L2
/-! ### xs[lo:hi:step] of a list: some of its items -/
theorem picked_vals {xs : List V} {its : List Value} (r : Vals xs its) : ∀ ix : List Nat, ∃ ys : List V, Vals ys (ix.filterMap (its.toArray[·]?)) ∧ ∀ y ∈ ys, y ∈ xs
  | [] => ⟨[], .nil, fun _ h => nomatch h⟩
  | i :: ix => by
    obtain ⟨ys, h1, h2⟩ := picked_vals r ix
    cases e : its.toArray[i]? with
    | none => exact ⟨ys, by rw [List.filterMap_cons, e]; exact h1, h2⟩
    | some u =>
      have e' : its[i]? = some u := by simpa using e
      cases ex : xs[i]? with
      | none =>
        have := r.none_of ex
        rw [e'] at this
        cases this
      | some x =>
        obtain ⟨u', hu, ru⟩ := r.get ex
        rw [e'] at hu
        cases hu
        refine ⟨x :: ys, by rw [List.filterMap_cons, e]; exact .cons ru h1, fun y hy => ?_⟩
        rcases List.mem_cons.mp hy with rfl | hy
        · exact List.mem_of_getElem? ex
        · exact h2 y hy
def tSlS (K : PySem.W.Frag) (te : TE) (tl th ts : TO) : TE := fun σ H Q => te σ H fun x H1 => tl σ H1 fun l H2 => th σ H2 fun u H3 => ts σ H3 fun st H4 => ∃ a xs, x = .ref a ∧ SqL K H4 a xs ∧ st ≠ some 0 ∧
  ∀ p ys, H4 p = none → (∀ y ∈ ys, y ∈ xs) → ys.length ≤ xs.length → Q (.ref p) (upd H4 p (.lst ys))
theorem pe_sliceS {X : Cx} {e st : Expr} {lo hi : Option Expr} {p2 pos : Pos} {te : TE} {tl th ts : TO} (he : PE X e te) (hl : PO X lo tl) (hu : PO X hi th) (hst : PO X (some st) ts) : PE X (.Subscript e (.Slice lo hi (some st) p2) pos) (tSlS X.K te tl th ts) := by
  constructor
  intro pins s σ H Q I h
  apply Subscript_ (thn (he.run pins s σ H _ I h) _)
  rintro v s1 ⟨x, H1, I1, r1, q1⟩
  refine wpAny_Slice (thn (hl.run pins s1 σ H1 _ I1 q1) fun vl s2 ⟨l, H2, I2, pl, q2⟩ => thn (hu.run pins s2 σ H2 _ I2 q2) fun vu s3 ⟨u, H3, I3, pu, q3⟩ => thn (hst.run pins s3 σ H3 _ I3 q3) fun vs s4 ⟨sv, H4, I4, ps, q4⟩ => ?_)
  obtain ⟨a, xs, rfl, hx, h0, q⟩ := q4
  cases r1
  have J5 : Inv X pins σ H4 { s4 with heap := s4.heap.push { cls := .type "slice", data := .fields #[vl, vu, vs] } } := I4.kept (t' := s4.toks) fun b ob q => Heap.get?_push_of_some _ q
  obtain ⟨its, r, ht, hz⟩ := (J5.list hx)
  have hlen := r.length
  show wpAny (model X.prog X.w) X.A (subscriptTail e (.Slice lo hi (some st) p2) (.ref a) (.ref s4.heap.objs.size)) (EP X pins σ Q) X.xe { s4 with heap := s4.heap.push { cls := .type "slice", data := .fields #[vl, vu, vs] } }
  refine tail_any (ops := [.ref a, .ref s4.heap.objs.size]) (id := "list.__getitem__") ht.isList.typeIs slot_list_getitem.lookup ?_ (by with_unfolding_all rfl)
  refine wpAny_getItem_list_slice ht.isList (Heap.IsSliceOf.new ..) pl pu ps h0 ?_ (by rw [List.size_toArray] <;> omega)
  obtain ⟨ys, y1, y2⟩ := picked_vals r (sliceRange (sliceBounds l u sv its.toArray.size).1 (sliceBounds l u sv its.toArray.size).2.1 (sliceBounds l u sv its.toArray.size).2.2)
  have y3 : ys.length ≤ xs.length := by
    rw [y1.length, hlen]
    have := slicePick_size_le its.toArray l u sv
    unfold slicePick at this
    rw [List.size_toArray, List.size_toArray] at this
    exact this
  refine ⟨.ref _, _, J5.laid (t' := s4.toks) (o := .lst ys) (fun b ob q => Heap.get?_push_of_some _ q) (Nat.le_refl _) ?_, rfl, q _ ys (J5.hok.fresh (Nat.le_refl _)) y2 y3⟩
  exact ⟨Nat.le_trans y3 hz, _, 0, y1, Heap.get?_push_size _ rfl⟩
section
variable {c : Cd} {σ : L2.St} {H : Hp} {Q : VK} {pos : Pos} {x y : V}
theorem e_sliceS {e st : Expr} {lo hi : Option Expr} {p2 : Pos} (q : RE c e σ H fun x H1 => RPo c lo σ H1 fun l H2 => RPo c hi σ H2 fun u H3 => RPo c (some st) σ H3 fun sv H4 => ∃ a xs, x = .ref a ∧ SqL c.K H4 a xs ∧ sv ≠ some 0 ∧
    ∀ p ys H5, Same H4 H5 → H4 p = none → H5 p = some (.lst ys) → (∀ y ∈ ys, y ∈ xs) → ys.length ≤ xs.length → Q (.ref p) H5) : RE c (.Subscript e (.Slice lo hi (some st) p2) pos) σ H Q := by
  refine re_of (t := tSlS c.K (RE c e) (RPo c lo) (RPo c hi) (RPo c (some st))) (fun X h => by rw [← h.K]; exact pe_sliceS (pe_re h) (po_rp h) (po_rp h) (po_rp h)) ?_
  refine RE.mono (fun x H1 z => ?_) q
  obtain ⟨⟨t1, Q1, h1, q1, w1⟩⟩ := z
  refine ⟨⟨t1, Q1, h1, q1, fun l H2 z => ?_⟩⟩
  obtain ⟨⟨t2, Q2, h2, q2, w2⟩⟩ := w1 _ _ z
  refine ⟨⟨t2, Q2, h2, q2, fun u H3 z => ?_⟩⟩
  obtain ⟨⟨t3, Q3, h3, q3, w3⟩⟩ := w2 _ _ z
  refine ⟨⟨t3, Q3, h3, q3, fun sv H4 z => ?_⟩⟩
  obtain ⟨a, xs, e1, e2, e3, k⟩ := w3 _ _ z
  exact ⟨a, xs, e1, e2, e3, fun p ys hp m l => k p ys _ (same_new hp) hp upd_same m l⟩
theorem rsl_list {a : Addr} {xs : List V} {lo hi : Option Int} (hx : SqL c.K H a xs) (q : ∀ p H2, Same H H2 → H p = none → H2 p = some (.lst (cutV xs lo hi)) → Q (.ref p) H2) : RSl c (.ref a) lo hi H Q :=
  rsl_of (r := rSlL c.K) (fun X h => by rw [← h.K]; exact sl_list) ⟨a, xs, rfl, hx, fun p hp => q _ _ (same_new hp) hp upd_same⟩
/-- xs + ys of lists -/
theorem ro_cat {a b : Addr} {xs ys : List V} (h1 : H a = some (.lst xs)) (h2 : H b = some (.lst ys)) (hl : xs.length + ys.length ≤ 100000) (q : ∀ p H2, Same H H2 → H p = none → H2 p = some (.lst (xs ++ ys)) → Q (.ref p) H2) : RO c .Add (.ref a) (.ref b) H Q :=
  ro_of (fun X h => op_cat) ⟨a, b, xs, ys, rfl, rfl, h1, h2, Nat.le_trans hl (by decide), fun p hp => q _ _ (same_new hp) hp upd_same⟩
/-- xs * n of a list -/
theorem ro_rep {a : Addr} {xs : List V} {k : Int} (h1 : H a = some (.lst xs)) (h2 : -1000 ≤ k ∧ k ≤ 1000) (hl : xs.length ≤ 1000) (q : ∀ p H2, Same H H2 → H p = none → H2 p = some (.lst (List.replicate k.toNat xs).flatten) → Q (.ref p) H2) : RO c .Mult (.ref a) (.int k) H Q := by
  refine ro_of (fun X h => op_rep) ⟨a, k, xs, rfl, rfl, h1, by omega, by omega, ?_, fun p hp => q _ _ (same_new hp) hp upd_same⟩
  have : xs.length * k.toNat ≤ 1000 * 1000 := Nat.mul_le_mul hl (by omega)
  exact Nat.le_trans this (by decide)
end
end G

namespace G
open PySem PySem.Spec PyProof.Rows L2
theorem same_none {H H1 : Hp} (s : Same H H1) {l : Addr} (h : H1 l = none) : H l = none := by
  cases e : H l with
  | none => rfl
  | some o => rw [s _ _ e] at h; cases h
theorem ift {A B : Prop} (a : A) : if true = true then A else B := a
theorem ne_feed {K : PySem.W.Frag} {H H1 : Hp} {fd cl l : Addr} (h : Feed K H fd cl) (g : Same H H1) (n : H1 l = none) : l ≠ fd := by
  rintro rfl
  obtain ⟨ns, b, d, e, h1, _⟩ := h
  rw [g _ _ h1] at n
  cases n
theorem ne_cl {K : PySem.W.Frag} {H H1 : Hp} {fd cl l : Addr} (h : Feed K H fd cl) (g : Same H H1) (n : H1 l = none) : l ≠ cl := by
  rintro rfl
  obtain ⟨ns, b, d, e, _, h1, _⟩ := h
  rw [g _ _ h1] at n
  cases n
theorem fresh_ne {H H1 : Hp} {a l : Addr} {o : HO} (h : H a = some o) (g : Same H H1) (n : H1 l = none) : l ≠ a := by
  rintro rfl
  rw [g _ _ h] at n
  cases n
section
variable {c : Cd} {σ : L2.St} {H : Hp} {Q : VK} {pos : Pos} {x y : V}
/-- t + u of data -/
theorem ro_catT {ds es : List PyData} (h1 : Dt c.K H x (.tuple ds)) (h2 : Dt c.K H y (.tuple es)) (hl : ds.length + es.length ≤ 100000) (q : ∀ v H2, Same H H2 → Dt c.K H2 v (.tuple (ds ++ es)) → Q v H2) : RO c .Add x y H Q := by
  obtain ⟨a, xs, rfl, t1, d1⟩ := h1.tupE
  obtain ⟨b, ys, rfl, t2, d2⟩ := h2.tupE
  have l1 := d1.len
  have l2 := d2.len
  refine ro_of (r := rCatA c.K) (fun X h => by rw [← h.K]; exact op_catA) ⟨a, b, xs, ys, rfl, rfl, t1, t2, Nat.le_trans (by omega : xs.length + ys.length ≤ 100000) (by decide), ?_, ?_, ?_⟩
  · rintro rfl
    cases d1
    exact q _ _ (Same.refl _) h2
  · rintro _ rfl
    cases d2
    rw [List.append_nil] at q
    exact q _ _ (Same.refl _) h1
  · intro _ _ p hp
    exact q _ _ (same_new hp) (.tup (.of upd_same) ((d1.app d2).mono (tp_same (same_new hp))))
/-- a def that answers with a new list of data -/
def spL (R : List PyData → List PyData → Prop) (K : PySem.W.Frag) : Sp := fun vs H Q _ => ∃ ds es, DtAll K H vs ds ∧ R ds es ∧ ∀ l us H', Same H H' → H l = none → H' l = some (.lst us) → DtAll K H' us es → Q (.ref l) H'
theorem e_callL {x : Str} {p : Pos} {e : Expr} {es : List Expr} {ps : List Str} {k : Nat} {R : List PyData → List PyData → Prop} (D : Dc c.toMd x ps k (spL R c.K)) (q : RA c (e :: es) σ H fun vs H1 => ∃ ds es, DtAll c.K H1 vs ds ∧ R ds es ∧ ∀ l us H', Same H1 H' → H1 l = none → H' l = some (.lst us) → DtAll c.K H' us es → Q (.ref l) H') (hk : k ≤ c.k := by exact Nat.le_of_ble_eq_true rfl) (hg : c.sc.names.lookup x = some .globalImplicit := by rfl)
    (hdb : (x == ("__debug__" : Str)) = false := by decide) (he : ∀ env, starEach (e :: es) env = (false, eval e env) :: starEach es env := by intro _; rfl) (hpl : ∀ env, (backTo pos (starEach es env)).any (·.1) = false := by intro _; rfl) :
    RE c (.Call (.Name x p) (e :: es) [] pos) σ H Q := e_call D q hk hg hdb he hpl
/-- a def that is given a list of data (and data behind it) and answers with a new list of data -/
def spLL (R : List PyData → List PyData → List PyData → Prop) (K : PySem.W.Frag) : Sp := fun vs H Q _ => ∃ a xs rest ds cs es, vs = .ref a :: rest ∧ SqL K H a xs ∧ DtAll K H xs ds ∧ DtAll K H rest cs ∧ R ds cs es ∧ ∀ l us H', Same H H' → H l = none → H' l = some (.lst us) → DtAll K H' us es → Q (.ref l) H'
theorem rx_pick {p : Addr} {xs : List V} {ds : List PyData} {i : Int} (hx : SqL c.K H p xs) (hd : DtAll c.K H xs ds) (h0 : 0 ≤ i) (h1 : i < ds.length) (q : ∀ v d, ds[i.toNat]? = some d → Dt c.K H v d → Q v H) : RX c (.ref p) (.int i) H Q := by
  have hlt : i.toNat < ds.length := by omega
  obtain ⟨v, hv, h⟩ := hd.get (List.getElem?_eq_getElem hlt)
  exact rx_list hx (pl_at (j := i.toNat) (by omega) hv) (q v _ (List.getElem?_eq_getElem hlt) h)
theorem rx_pickT {ds : List PyData} {i : Int} (hx : Dt c.K H x (.tuple ds)) (h0 : 0 ≤ i) (h1 : i < ds.length) (q : ∀ v d, ds[i.toNat]? = some d → Dt c.K H v d → Q v H) : RX c x (.int i) H Q := by
  have hlt : i.toNat < ds.length := by omega
  exact rx_tup hx (pl_at (j := i.toNat) (by omega) (List.getElem?_eq_getElem hlt)) fun v h => q v _ (List.getElem?_eq_getElem hlt) h
/-- a drawing call -/
theorem e_callD {x : Str} {p : Pos} {e : Expr} {es : List Expr} {ps : List Str} {k : Nat} {Pre : List PyData → Prop} {R : List PyData → PyData → Prop} (D : Dc c.toMd x ps k (spD Pre R c.K)) (q : RA c (e :: es) σ H fun vs H1 => ∃ fd cl rest ds, vs = .ref fd :: rest ∧ Feed c.K H1 fd cl ∧ DtAll c.K H1 rest ds ∧ Pre ds ∧ ∀ d v H', R ds d → Kp fd H1 H' → Feed c.K H' fd cl → Dt c.K H' v d → Q v H') (hk : k ≤ c.k := by exact Nat.le_of_ble_eq_true rfl) (hg : c.sc.names.lookup x = some .globalImplicit := by rfl)
    (hdb : (x == ("__debug__" : Str)) = false := by decide) (he : ∀ env, starEach (e :: es) env = (false, eval e env) :: starEach es env := by intro _; rfl) (hpl : ∀ env, (backTo pos (starEach es env)).any (·.1) = false := by intro _; rfl) :
    RE c (.Call (.Name x p) (e :: es) [] pos) σ H Q := e_call D q hk hg hdb he hpl

section
variable {elt tg iter : Expr} {ifs : List Expr} {scope : Scope} {vs : List Nat}
theorem rng_step {g : Int → Option PyData} {i : Int} (t : Nat) : (List.range t).filterMap (fun t : Nat => g (i + (t : Int))) ++ (g (i + (t : Int))).toList = (List.range (t + 1)).filterMap (fun t : Nat => g (i + (t : Int))) := by
  rw [List.range_succ, List.filterMap_append]
  congr 1
theorem lcR2_F (g : Int → Option PyData) {a b : Expr} {p ppos : Pos} (hm : c.mg "range" = none) (q : RE c a σ H fun x H1 => RE c b σ H1 fun y H2 => ∃ i j : Int, x = .int i ∧ y = .int j ∧ (-1000 ≤ i ∧ i ≤ 1000) ∧ (-1000 ≤ j ∧ j ≤ 1000) ∧ (∀ (t : Nat) H', t < (j - i).toNat → Same H2 H' → TurnF (blkCd c scope) tg ifs elt vs σ c.K (.int (i + t)) H' (g (i + t))) ∧
      ∀ p us H3, Same H2 H3 → H2 p = none → H3 p = some (.lst us) → DtAll c.K H3 us ((List.range (j - i).toNat).filterMap fun t : Nat => g (i + (t : Int))) → Q (.ref p) H3)
    (hg : c.sc.names.lookup ("range" : Str) = some .globalImplicit := by rfl) (hs : ∀ env, starEach [a, b] env = [(false, eval a env), (false, eval b env)] := by intro _; rfl) (hs2 : ∀ env, starEach [b] env = [(false, eval b env)] := by intro _; rfl) :
    tLc (RI c tg (.Call (.Name "range" p) [a, b] [] ppos)) (RG (blkCd c scope) tg) (RTs (blkCd c scope) ifs) (RE (blkCd c scope) elt) vs σ H Q := by
  refine lc_R2 hm (RE.mono (fun x H1 z => RE.mono (fun y H2 z => ?_) z) q) hg hs hs2
  obtain ⟨i, j, rfl, rfl, h1, h2, tn, k⟩ := z
  refine ⟨i, j, rfl, rfl, h1, h2, fun D hD => ⟨fun t acc H' => acc.length ≤ t ∧ H' D = some (.lst acc) ∧ Same H2 H' ∧ DtAll c.K H' acc ((List.range t).filterMap fun t : Nat => g (i + (t : Int))), ⟨Nat.le_refl _, upd_same, same_new hD, .nil⟩, fun _ _ _ h => h.1, ?_, ?_⟩⟩
  · rintro t acc H' ht ⟨l, h1, s, h2⟩
    have T := TurnF.one hD s h1 h2 (tn t H' ht s)
    refine RG.mono (fun σ2 H2 z => ⟨z.1, RTs.mono (fun b H3 z => ?_) z.2⟩) T
    cases b with
    | true => exact RE.mono (fun y H4 z => ⟨z.1, by rw [List.length_append, List.length_singleton]; omega, z.2.1, z.2.2.1, by rw [← rng_step]; exact z.2.2.2⟩) z
    | false => exact ⟨by omega, z.1, z.2.1, by rw [← rng_step]; exact z.2.2⟩
  · rintro acc H' ⟨l, h1, s, h2⟩
    exact k D acc H' s hD h1 h2
theorem lcR1_F (g : Int → Option PyData) {a : Expr} {p ppos : Pos} (hm : c.mg "range" = none) (q : RE c a σ H fun y H2 => ∃ j : Int, y = .int j ∧ (-1000 ≤ j ∧ j ≤ 1000) ∧ (∀ (t : Nat) H', t < j.toNat → Same H2 H' → TurnF (blkCd c scope) tg ifs elt vs σ c.K (.int t) H' (g t)) ∧
      ∀ p us H3, Same H2 H3 → H2 p = none → H3 p = some (.lst us) → DtAll c.K H3 us ((List.range j.toNat).filterMap fun t : Nat => g (t : Int)) → Q (.ref p) H3)
    (hg : c.sc.names.lookup ("range" : Str) = some .globalImplicit := by rfl) (hs : ∀ env, starEach [a] env = [(false, eval a env)] := by intro _; rfl) :
    tLc (RI c tg (.Call (.Name "range" p) [a] [] ppos)) (RG (blkCd c scope) tg) (RTs (blkCd c scope) ifs) (RE (blkCd c scope) elt) vs σ H Q := by
  refine lc_R1 hm (RE.mono (fun y H2 z => ?_) q) hg hs
  obtain ⟨j, rfl, h2, tn, k⟩ := z
  refine ⟨j, rfl, h2, fun D hD => ⟨fun t acc H' => acc.length ≤ t ∧ H' D = some (.lst acc) ∧ Same H2 H' ∧ DtAll c.K H' acc ((List.range t).filterMap fun t : Nat => g (t : Int)), ⟨Nat.le_refl _, upd_same, same_new hD, .nil⟩, fun _ _ _ h => h.1, ?_, ?_⟩⟩
  · rintro t acc H' ht ⟨l, h1, s, h2⟩
    have T := TurnF.one hD s h1 h2 (tn t H' ht s)
    have e := rng_step (g := g) (i := 0) t
    simp only [Int.zero_add] at e
    refine RG.mono (fun σ2 H2 z => ⟨z.1, RTs.mono (fun b H3 z => ?_) z.2⟩) T
    cases b with
    | true => exact RE.mono (fun y H4 z => ⟨z.1, by rw [List.length_append, List.length_singleton]; omega, z.2.1, z.2.2.1, by rw [← e]; exact z.2.2.2⟩) z
    | false => exact ⟨by omega, z.1, z.2.1, by rw [← e]; exact z.2.2⟩
  · rintro acc H' ⟨l, h1, s, h2⟩
    exact k D acc H' s hD h1 h2
end
end
end G

namespace G
open PySem PySem.Spec PyProof.Rows L2
def isStar : Expr → Bool
  | .Starred .. => true
  | _ => false
theorem any_star (vs : List Expr) : (vs.any fun | .Starred .. => true | _ => false) = vs.any isStar := by
  congr 1
theorem sw2 {x y : Str} {px py pt : Pos} {kt k2 pt2} {a b : Expr} {env : Env} (hk : env.scope.kind = .function) (hx : env.scope.names.lookup x = some .local) (hy : env.scope.names.lookup y = some .local) (hxy : [x, y].eraseDups.length = 2) (hl : (py.line == px.line) = true)
    (h1 : [a, b].any isStar = false) (h2 : [a, b].all (foldedForSure 8) = false) (h3 : [a, b].all (constantsAlone 8) = false) :
    swappedStores [.Tuple [.Name x px, .Name y py] kt pt] (.Tuple [a, b] k2 pt2) env = pure (some [x, y]) := by
  have kx : env.kindOf x = some .local := hx
  have ky : env.kindOf y = some .local := hy
  have hb : env.blockKind = .function := by unfold Env.blockKind; rw [hk]; rfl
  have hn : ([Expr.Name x px, Expr.Name y py].filterMap fun
    | .Name id pos => if env.kindOf id == some .local && pos.line == px.line then some id else none
    | _ => none) = [x, y] := by
    simp only [List.filterMap_cons, List.filterMap_nil, kx, ky, hl, beq_self_eq_true, Bool.and_self, if_true]
  unfold swappedStores
  simp only [hb]
  show (if _ = true then _ else if ([a, b].any fun | .Starred .. => true | _ => false) = true then _ else _) = _
  rw [any_star, h1]
  generalize hz : List.filterMap _ [Expr.Name x px, Expr.Name y py] = z
  have hz' : z = [x, y] := by rw [← hz]; exact hn
  subst hz'
  rw [if_neg (by show ¬ (false = true); decide), if_neg (by decide), if_neg (by rw [hxy]; show ¬ (false = true); decide), h2, if_neg (by decide), h3, if_neg (by decide)]
theorem sw3 {x y z : Str} {px py pz pt : Pos} {kt k2 pt2} {a b d : Expr} {env : Env} (hk : env.scope.kind = .function) (hx : env.scope.names.lookup x = some .local) (hy : env.scope.names.lookup y = some .local) (hz0 : env.scope.names.lookup z = some .local) (hxy : [x, y, z].eraseDups.length = 3) (hl : (py.line == px.line) = true) (hl2 : (pz.line == px.line) = true)
    (h1 : [a, b, d].any isStar = false) (h2 : [a, b, d].all (foldedForSure 8) = false) (h3 : [a, b, d].all (constantsAlone 8) = false) :
    swappedStores [.Tuple [.Name x px, .Name y py, .Name z pz] kt pt] (.Tuple [a, b, d] k2 pt2) env = pure (some [x, y, z]) := by
  have kx : env.kindOf x = some .local := hx
  have ky : env.kindOf y = some .local := hy
  have kz : env.kindOf z = some .local := hz0
  have hb : env.blockKind = .function := by unfold Env.blockKind; rw [hk]; rfl
  have hn : ([Expr.Name x px, Expr.Name y py, Expr.Name z pz].filterMap fun
    | .Name id pos => if env.kindOf id == some .local && pos.line == px.line then some id else none
    | _ => none) = [x, y, z] := by
    simp only [List.filterMap_cons, List.filterMap_nil, kx, ky, kz, hl, hl2, beq_self_eq_true, Bool.and_self, if_true]
  unfold swappedStores
  simp only [hb]
  show (if _ = true then _ else if ([a, b, d].any fun | .Starred .. => true | _ => false) = true then _ else _) = _
  rw [any_star, h1]
  generalize hz : List.filterMap _ [Expr.Name x px, Expr.Name y py, Expr.Name z pz] = w
  have hz' : w = [x, y, z] := by rw [← hz]; exact hn
  subst hz'
  rw [if_neg (by show ¬ (false = true); decide), if_neg (by decide), if_neg (by rw [hxy]; show ¬ (false = true); decide), h2, if_neg (by decide), h3, if_neg (by decide)]
section
variable {c : Cd} {σ : L2.St} {H : Hp} {D : Ends} {pos : Pos}
theorem s_par2 {i j : Nat} {x y : Str} {a b : Expr} {px py pt : Pos} {kt k2 pt2} (hi : At c.N i x) (hj : At c.N j y) (q : RE c a σ H fun v H1 => RE c b σ H1 fun w H2 => D.nx ((σ.set i (some v)).set j (some w)) H2) (hij : i ≠ j := by decide)
    (hx : c.sc.names.lookup x = some .local := by rfl) (hy : c.sc.names.lookup y = some .local := by rfl) (hk : c.sc.kind = .function := by rfl) (hxy : [x, y].eraseDups.length = 2 := by decide +kernel) (hl : (py.line == px.line) = true := by rfl)
    (e1 : [a, b].any isStar = false := by rfl) (e2 : [a, b].all (foldedForSure 8) = false := by rfl) (e3 : [a, b].all (constantsAlone 8) = false := by rfl)
    (hs : ∀ env, swapsWithSole [.Tuple [.Name x px, .Name y py] kt pt] (.Tuple [a, b] k2 pt2) pos.line env = pure false := by intro _; rfl)
    (h1 : ∀ env, starEach [a, b] env = (false, eval a env) :: starEach [b] env := by intro _; rfl) (h2 : ∀ env, starEach [b] env = (false, eval b env) :: starEach [] env := by intro _; rfl) :
    RS c (.Assign [.Tuple [.Name x px, .Name y py] kt pt] (.Tuple [a, b] k2 pt2) pos) D σ H :=
  s_par hi hj q hij hx hy (fun env he => sw2 (by rw [he]; exact hk) (by rw [he]; exact hx) (by rw [he]; exact hy) hxy hl e1 e2 e3) hs h1 h2
theorem s_par3 {i j l : Nat} {x y z : Str} {a b d : Expr} {px py pz pt : Pos} {kt k2 pt2} (hi : At c.N i x) (hj : At c.N j y) (hl0 : At c.N l z) (q : RE c a σ H fun v H1 => RE c b σ H1 fun w H2 => RE c d σ H2 fun u H3 => D.nx (((σ.set i (some v)).set j (some w)).set l (some u)) H3) (hij : i ≠ j := by decide) (hil : i ≠ l := by decide) (hjl : j ≠ l := by decide)
    (hx : c.sc.names.lookup x = some .local := by rfl) (hy : c.sc.names.lookup y = some .local := by rfl) (hz : c.sc.names.lookup z = some .local := by rfl) (hk : c.sc.kind = .function := by rfl) (hxy : [x, y, z].eraseDups.length = 3 := by decide +kernel) (hl : (py.line == px.line) = true := by rfl) (hl2 : (pz.line == px.line) = true := by rfl)
    (e1 : [a, b, d].any isStar = false := by rfl) (e2 : [a, b, d].all (foldedForSure 8) = false := by rfl) (e3 : [a, b, d].all (constantsAlone 8) = false := by rfl)
    (hs : ∀ env, swapsWithSole [.Tuple [.Name x px, .Name y py, .Name z pz] kt pt] (.Tuple [a, b, d] k2 pt2) pos.line env = pure false := by intro _; rfl)
    (h0 : ∀ env, starEach [a, b, d] env = (false, eval a env) :: starEach [b, d] env := by intro _; rfl) (h1 : ∀ env, starEach [b, d] env = (false, eval b env) :: starEach [d] env := by intro _; rfl) (h2 : ∀ env, starEach [d] env = (false, eval d env) :: starEach [] env := by intro _; rfl) :
    RS c (.Assign [.Tuple [.Name x px, .Name y py, .Name z pz] kt pt] (.Tuple [a, b, d] k2 pt2) pos) D σ H := by
  refine rs_of (t := tPar3 i j l (RA c [a, b, d])) (fun X h => ps_par3 h.calm (by rw [h.N]; exact h.nd) (by rw [h.N]; exact hi.get) (by rw [h.N]; exact hj.get) (by rw [h.N]; exact hl0.get) hij hil hjl (by rw [h.sc]; exact hx) (by rw [h.sc]; exact hy) (by rw [h.sc]; exact hz) (pa_ra h) (sw3 (by rw [h.sc]; exact hk) (by rw [h.sc]; exact hx) (by rw [h.sc]; exact hy) (by rw [h.sc]; exact hz) hxy hl hl2 e1 e2 e3) (hs _)) ?_
  exact a_cons (RE.mono (fun v H1 z => a_cons (RE.mono (fun w H2 z => a_cons (RE.mono (fun u H3 z => a_nil ⟨v, w, u, rfl, z⟩) z) h2) z) h1) q) h0
theorem e_bo1 {Q : VK} {op : BoolOp} {a : Expr} (q : RE c a σ H Q) : RE c (.BoolOp op [a] pos) σ H Q := re_of (fun X h => pe_one (pe_re h)) q
theorem e_disp {Q : VK} {keys : List (Option Expr)} {values : List Expr} {trs : List (TE × TE)} (hp : ∀ X, Is c X → PPs X pos keys values trs) (hall : keys.all (·.isSome) = true) (hl : keys.length = values.length) (h0 : keys ≠ []) (h15 : keys.length ≤ 15) (q : tDisp trs σ H Q) : RE c (.Dict keys values pos) σ H Q :=
  re_of (fun X h => pe_disp (hp X h) hall hl h0 h15) q
theorem e_dnew {Q : VK} (q : ∀ p, H p = none → Q (.ref p) (upd H p (.dK []))) : RE c (.Dict [] [] pos) σ H Q := re_of (fun X h => pe_dnewK) q
theorem kp_none {fp l : Addr} {H H1 : Hp} (k : Kp fp H H1) (h : H1 l = none) (n : l ≠ fp) : H l = none := by
  cases e : H l with
  | none => rfl
  | some o => rw [k.k _ _ n e] at h; cases h
theorem ty_tup {K : PySem.W.Frag} {a : Addr} {xs : List V} (h : SqT K H a xs) : TyX K H (.ref a) (.type "tuple") := by
  rcases h with (h | ⟨o, h⟩) | ⟨o, its, n, h1, h2, _⟩
  · exact .base (.tup h)
  · exact .fTuple h
  · exact .kTuple h1 h2
theorem rc_isi {Q : VK} {x : V} {t T : String} {b : Bool} (ty : TyX c.K H x (.type t)) (e : PySem.W.kitOne c.K (.type t) (.type T) = some b) (q : Q (.bl b) H) : RC c (.builtin "isinstance") [x, .ty T] H Q :=
  rc_of (r := rIsi c.K) (fun X h => by rw [← h.K]; exact call_isi) ⟨x, _, _, _, b, rfl, .ty T, ty, e, q⟩
/-- a def with defaults -/
structure DcV (c : Md) (x : Str) (ps : List Str) (dvs : List V) (k : Nat) (sp : Sp) : Prop where
  ex : ∃ (f : Addr) (fd : FuncData) (ds : List Value), FnG c.prog c.w c.K c.mg c.base noX k f fd ps sp ∧ c.mg x = some (.ref f) ∧ PySem.W.keepIn c.K (.ref f) = true ∧ Binds c.K fd ps ds ∧ Vals dvs ds
theorem e_callV {Q : VK} {x : Str} {p : Pos} {e : Expr} {es : List Expr} {ps : List Str} {dvs : List V} {k : Nat} {sp : Sp} (D : DcV c.toMd x ps dvs k sp) (q : RA c (e :: es) σ H fun vs H1 => sp (vs ++ dvs) H1 Q fun _ _ _ => False) (hk : k ≤ c.k := by exact Nat.le_of_ble_eq_true rfl) (hg : c.sc.names.lookup x = some .globalImplicit := by rfl)
    (hdb : (x == ("__debug__" : Str)) = false := by decide) (he : ∀ env, starEach (e :: es) env = (false, eval e env) :: starEach es env := by intro _; rfl) (hpl : ∀ env, (backTo pos (starEach es env)).any (·.1) = false := by intro _; rfl) :
    RE c (.Call (.Name x p) (e :: es) [] pos) σ H Q := by
  obtain ⟨f, fd, ds, F, hm, hkp, hb, hv⟩ := D.ex
  refine re_of (t := tCall sp dvs (fun _ _ _ => False) (RA c (e :: es))) (fun X h => ?_) q
  refine pe_call (CX := fun _ _ _ _ _ _ => False) (k := k) (f := f) (fd := fd) (ps := ps) (ds := ds) ?_ (h.room.mono hk) (gl_of h hg) (by rw [h.mg]; exact hm) (by rw [h.K]; exact hkp) (by rw [h.K]; exact hb) hv (fun _ _ _ _ _ _ _ z => z.elim) (pa_ra h) hdb (he _) (hpl _)
  rw [h.prog, h.w, h.K, h.mg, h.base]; exact F
/-- x, y = e with a pair of data -/
theorem g_unp2 {R : L2.St → Hp → Prop} {i j : Nat} {x y : Str} {px py pt : Pos} {kt : Nat} {v : V} {d1 d2 : PyData} (hi : At c.N i x) (hj : At c.N j y) (hv : Dt c.K H v (.tuple [d1, d2])) (q : ∀ v1 v2, Dt c.K H v1 d1 → Dt c.K H v2 d2 → R ((σ.set i (some v1)).set j (some v2)) H)
    (hx : c.sc.names.lookup x = some .local ∨ (c.sc.names.lookup x = some .cell ∧ c.top = true) := by first | exact Or.inl rfl | exact Or.inr ⟨rfl, rfl⟩) (hy : c.sc.names.lookup y = some .local ∨ (c.sc.names.lookup y = some .cell ∧ c.top = true) := by first | exact Or.inl rfl | exact Or.inr ⟨rfl, rfl⟩)
    (hst : ∀ env, (assignEach [.Name x px, .Name y py] env).findIdx? (·.1) = none := by intro _; rfl) : RG c (.Tuple [.Name x px, .Name y py] kt pt) v σ H R := by
  obtain ⟨a, xs, rfl, ht, hd⟩ := hv.tupE
  obtain _ | ⟨h1, hd⟩ := hd
  obtain _ | ⟨h2, hd⟩ := hd
  cases hd
  exact g_tup ht (gs_cons (g_name hi (gs_cons (g_name hj (gs_nil (q _ _ h1 h2)) hy)) hx)) rfl (fun _ => rfl) hst
theorem g_unp3 {R : L2.St → Hp → Prop} {i j l : Nat} {x y z : Str} {px py pz pt : Pos} {kt : Nat} {v : V} {d1 d2 d3 : PyData} (hi : At c.N i x) (hj : At c.N j y) (hl : At c.N l z) (hv : Dt c.K H v (.tuple [d1, d2, d3])) (q : ∀ v1 v2 v3, Dt c.K H v1 d1 → Dt c.K H v2 d2 → Dt c.K H v3 d3 → R (((σ.set i (some v1)).set j (some v2)).set l (some v3)) H)
    (hx : c.sc.names.lookup x = some .local ∨ (c.sc.names.lookup x = some .cell ∧ c.top = true) := by first | exact Or.inl rfl | exact Or.inr ⟨rfl, rfl⟩) (hy : c.sc.names.lookup y = some .local ∨ (c.sc.names.lookup y = some .cell ∧ c.top = true) := by first | exact Or.inl rfl | exact Or.inr ⟨rfl, rfl⟩) (hz : c.sc.names.lookup z = some .local ∨ (c.sc.names.lookup z = some .cell ∧ c.top = true) := by first | exact Or.inl rfl | exact Or.inr ⟨rfl, rfl⟩)
    (hst : ∀ env, (assignEach [.Name x px, .Name y py, .Name z pz] env).findIdx? (·.1) = none := by intro _; rfl) : RG c (.Tuple [.Name x px, .Name y py, .Name z pz] kt pt) v σ H R := by
  obtain ⟨a, xs, rfl, ht, hd⟩ := hv.tupE
  obtain _ | ⟨h1, hd⟩ := hd
  obtain _ | ⟨h2, hd⟩ := hd
  obtain _ | ⟨h3, hd⟩ := hd
  cases hd
  exact g_tup ht (gs_cons (g_name hi (gs_cons (g_name hj (gs_cons (g_name hl (gs_nil (q _ _ _ h1 h2 h3)) hz)) hy)) hx)) rfl (fun _ => rfl) hst
end
end G

namespace G
open PySem PySem.Spec PyProof.Rows L2
/-- a tuple's object as the built-in makes it -/
def BareT (ob : Obj) : Prop := ob.cls = .type "tuple" ∧ ob.dict = none
/-- none, or a tuple of data whose object is known to be bare -/
def Fz (K : PySem.W.Frag) (H : Hp) (v : V) (d : PyData) : Prop := (v = .non ∧ d = .none) ∨ ∃ a ob us ds, v = .ref a ∧ d = .tuple ds ∧ H a = some (.frz ob (.tup us)) ∧ BareT ob ∧ DtAll K H us ds
theorem Fz.mono {K : PySem.W.Frag} {H H' : Hp} {v : V} {d : PyData} (e : Tp H H') (h : Fz K H v d) : Fz K H' v d := by
  rcases h with h | ⟨a, ob, us, ds, h1, h2, h3, h4, h5⟩
  · exact .inl h
  · exact .inr ⟨a, ob, us, ds, h1, h2, e.f _ _ _ h3, h4, h5.mono e⟩
theorem Fz.dt {K : PySem.W.Frag} {H : Hp} {v : V} {d : PyData} (h : Fz K H v d) : Dt K H v d := by
  rcases h with ⟨rfl, rfl⟩ | ⟨a, ob, us, ds, rfl, rfl, h3, h4, h5⟩
  · exact .non
  · exact .tup (.inl (.inr ⟨ob, h3⟩)) h5
theorem Fz.tup {K : PySem.W.Frag} {H : Hp} {v : V} {ds : List PyData} (h : Fz K H v (.tuple ds)) : ∃ a ob us, v = .ref a ∧ H a = some (.frz ob (.tup us)) ∧ BareT ob ∧ DtAll K H us ds := by
  rcases h with ⟨_, h⟩ | ⟨a, ob, us, es, h1, h2, h3⟩
  · cases h
  · cases h2
    exact ⟨a, ob, us, h1, h3⟩
section
variable {X : Cx}
theorem cr_tupF : CallR X (.type "tuple") (fun vs H Q => ∃ l zs, vs = [.ref l] ∧ SqL X.K H l zs ∧ ∀ t ob, H t = none → BareT ob → Q (.ref t) (upd H t (.frz ob (.tup zs)))) := by
  rintro pins s σ H vs us Q I rv ⟨l, zs, rfl, hl, k⟩
  obtain ⟨w, rfl, rw0⟩ := vals1 rv
  cases rw0
  obtain ⟨ws, rz, plain, short⟩ := I.list hl
  have same := rz.length
  refine call_tuple_list plain.isList (fun hp kept => ?_) (by rw [List.size_toArray] <;> omega)
  have J : Inv X pins σ H { s with heap := hp } := I.kept (t' := s.toks) kept
  refine ⟨.ref hp.objs.size, _, J.laid (o := .frz { cls := .type "tuple", data := .seq ws.toArray } (.tup zs)) (t' := s.toks) (h' := hp.push { cls := .type "tuple", data := .seq ws.toArray }) (fun b o e => Heap.get?_push_of_some _ e) (Nat.le_refl _) ?_, rfl, k _ _ (J.hok.fresh (Nat.le_refl _)) ⟨rfl, rfl⟩⟩
  exact ⟨Heap.get?_push_size _ rfl, short, ws, rz, IsTup.new _ _⟩
end
section
variable {c : Cd} {σ : L2.St} {H : Hp} {Q : VK} {pos : Pos}
theorem rc_tupF {l : Addr} {ys : List V} {ds : List PyData} (hl : SqL c.K H l ys) (hd : DtAll c.K H ys ds) (q : ∀ v H2, Same H H2 → Dt c.K H2 v (.tuple ds) → Fz c.K H2 v (.tuple ds) → Q v H2) : RC c (.type "tuple") [.ref l] H Q :=
  rc_of (r := fun vs H Q => ∃ l zs, vs = [.ref l] ∧ SqL c.K H l zs ∧ ∀ t ob, H t = none → BareT ob → Q (.ref t) (upd H t (.frz ob (.tup zs)))) (fun X h => by rw [← h.K]; exact cr_tupF) ⟨l, ys, rfl, hl, fun t ob hn hb => q _ _ (same_new hn) (.tup (.inl (.inr ⟨ob, upd_same⟩)) (hd.mono (tp_same (same_new hn)))) (.inr ⟨t, ob, ys, ds, rfl, rfl, upd_same, hb, hd.mono (tp_same (same_new hn))⟩)⟩
/-- a def that changes nothing and answers with none or a bare tuple -/
def spZ (R : List PyData → PyData → Prop) (K : PySem.W.Frag) : Sp := fun vs H Q _ => ∃ ds d, DtAll K H vs ds ∧ R ds d ∧ ∀ v H', Same H H' → Dt K H' v d → Fz K H' v d → Q v H'
theorem e_callZ {x : Str} {p : Pos} {e : Expr} {es : List Expr} {ps : List Str} {k : Nat} {R : List PyData → PyData → Prop} (D : Dc c.toMd x ps k (spZ R c.K)) (q : RA c (e :: es) σ H fun vs H1 => ∃ ds d, DtAll c.K H1 vs ds ∧ R ds d ∧ ∀ v H', Same H1 H' → Dt c.K H' v d → Fz c.K H' v d → Q v H') (hk : k ≤ c.k := by exact Nat.le_of_ble_eq_true rfl) (hg : c.sc.names.lookup x = some .globalImplicit := by rfl)
    (hdb : (x == ("__debug__" : Str)) = false := by decide) (he : ∀ env, starEach (e :: es) env = (false, eval e env) :: starEach es env := by intro _; rfl) (hpl : ∀ env, (backTo pos (starEach es env)).any (·.1) = false := by intro _; rfl) :
    RE c (.Call (.Name x p) (e :: es) [] pos) σ H Q := e_call D q hk hg hdb he hpl
end
end G

/-! what sleeps and is not woken stays as it is -/
namespace GT
open PySem
open Sem (wp)
def cut : GenState → GenState
  | .suspended _ l c p fs cl => .suspended (fun _ => .unsupported "cut") l c p fs cl
  | .fresh c => .fresh c
  | .running => .running
  | .finished => .finished
def asleep : GenState → Bool
  | .suspended .. => true
  | _ => false
theorem cut_awake : ∀ {y : GenState}, asleep y = false → cut y = y
  | .suspended .., h => nomatch h
  | .fresh _, _ => rfl
  | .running, _ => rfl
  | .finished, _ => rfl
theorem cut_seen : ∀ y : GenState, (cut y).seen = y.seen
  | .suspended .. => rfl
  | .fresh _ => rfl
  | .running => rfl
  | .finished => rfl
theorem cut_bare : ∀ y : GenState, (cut y).bare = y.bare
  | .suspended .. => rfl
  | .fresh _ => rfl
  | .running => rfl
  | .finished => rfl
/-- R tells what stands there in truth -/
def mend (R : Nat → Option GenState) (G : Array GenState) : Array GenState := G.mapIdx fun i y => (R i).getD y
def mendS (R : Nat → Option GenState) (s : Shared) : Shared := { s with gens := mend R s.gens }
structure Held (R : Nat → Option GenState) (G : Array GenState) : Prop where
  cut : ∀ i y, R i = some y → asleep y = true ∧ G[i]? = some (cut y)
  free : ∀ i k l c p fs cl, R i = none → G[i]? = some (.suspended k l c p fs cl) → splitAtGen fs = none
def EndOk : End → Prop
  | .susp _ _ _ _ _ _ fs => splitAtGen fs = none
  | .ret _ => True
section
variable {R : Nat → Option GenState} {G : Array GenState} {i g : Nat} {y x : GenState}
theorem mend_get : (mend R G)[i]? = G[i]?.map fun y => (R i).getD y := by
  unfold mend
  rw [Array.getElem?_mapIdx]
theorem mend_size : (mend R G).size = G.size := by simp [mend]
theorem arr_ext {A B : Array GenState} (h : ∀ i : Nat, A[i]? = B[i]?) : A = B := by
  apply Array.ext_getElem?
  exact h
theorem Held.top (h : Held R G) : R G.size = none := by
  cases e : R G.size with
  | none => rfl
  | some y =>
    have := (h.cut _ _ e).2
    simp at this
theorem mend_push (h : Held R G) : mend R (G.push x) = (mend R G).push x := by
  refine arr_ext fun i => ?_
  have sz : (mend R G).size = G.size := by simp [mend]
  rw [mend_get, Array.getElem?_push, Array.getElem?_push, sz]
  by_cases e : i = G.size
  · subst e
    rw [if_pos rfl, if_pos rfl, h.top]
    rfl
  · rw [if_neg e, if_neg e, mend_get]
theorem mend_set (h : R g = none) : mend R (G.setIfInBounds g x) = (mend R G).setIfInBounds g x := by
  refine arr_ext fun i => ?_
  have sz : (mend R G).size = G.size := by simp [mend]
  by_cases e : i = g
  · subst e
    rw [mend_get]
    by_cases l : i < G.size
    · simp [l, h, sz]
    · have l2 : ¬ i < (mend R G).size := by rw [sz]; exact l
      simp only [Array.getElem?_setIfInBounds_self, l, l2, if_false]
      rfl
  · rw [mend_get, Array.getElem?_setIfInBounds_ne (Ne.symm e), Array.getElem?_setIfInBounds_ne (Ne.symm e), mend_get]
def frOk : GenState → Prop
  | .suspended _ _ _ _ fs _ => splitAtGen fs = none
  | _ => True
theorem Held.push (h : Held R G) (hx : frOk x) : Held R (G.push x) where
  cut := fun i y e => by
    obtain ⟨a, b⟩ := h.cut i y e
    refine ⟨a, ?_⟩
    have l : i < G.size := (Array.getElem?_eq_some_iff.mp b).1
    rw [Array.getElem?_push, if_neg (Nat.ne_of_lt l), b]
  free := fun i k l c p fs cl e q => by
    rw [Array.getElem?_push] at q
    split at q
    · cases q
      exact hx
    · exact h.free i k l c p fs cl e q
theorem Held.set (h : Held R G) (hg : R g = none) (hx : frOk x) : Held R (G.setIfInBounds g x) where
  cut := fun i y e => by
    obtain ⟨a, b⟩ := h.cut i y e
    have ne : g ≠ i := fun z => by rw [z, e] at hg; cases hg
    exact ⟨a, by rw [Array.getElem?_setIfInBounds_ne ne, b]⟩
  free := fun i k l c p fs cl e q => by
    by_cases z : g = i
    · subst z
      by_cases lt : g < G.size
      · simp only [Array.getElem?_setIfInBounds_self, lt, if_true] at q
        cases q
        exact hx
      · simp only [Array.getElem?_setIfInBounds_self, lt, if_false] at q
        cases q
    · rw [Array.getElem?_setIfInBounds_ne z] at q
      exact h.free i k l c p fs cl e q
theorem Held.awake (h : Held R G) (e : G[g]? = some y) (ha : asleep y = false) : R g = none := by
  cases q : R g with
  | none => rfl
  | some z =>
    obtain ⟨a, b⟩ := h.cut g z q
    rw [e] at b
    cases b
    cases z <;> first | (cases a; done) | (simp [GT.cut, asleep] at ha; done)
theorem mend_at (e : G[g]? = some y) (q : R g = none) : (mend R G)[g]? = some y := by
  rw [mend_get, e, q]
  rfl
theorem Held.looks (h : Held R G) (e : G[g]? = some y) : ∃ z, (mend R G)[g]? = some z ∧ z.seen = y.seen := by
  refine ⟨(R g).getD y, by rw [mend_get, e]; rfl, ?_⟩
  cases q : R g with
  | none => rfl
  | some z =>
    obtain ⟨_, r⟩ := h.cut g z q
    rw [e] at r
    cases r
    exact (cut_seen z).symm
theorem EndOk.fr : ∀ {e : End}, EndOk e → frOk e.genState
  | .susp .., h => h
  | .ret _, _ => trivial
end
theorem no_unsup {M : Model} {Γ : Ctx} {p : Pos} {w : String} {t : Sem PySem.Fin} {fs : List Frame} {s s' : Shared} {e : End} (h : Runs M Γ p t fs s e s') : t = .unsupported w → False := by
  induction h <;> intro ht <;> first
    | (cases ht; done)
    | (rename_i ih _; exact ih ht)
    | (rename_i ih; exact ih ht)
section
variable {M : Model}
theorem setGen_mend {R : Nat → Option GenState} {s : Shared} {g : Nat} {x : GenState} (h : R g = none) : mendS R (s.setGen g x) = (mendS R s).setGen g x := by
  unfold mendS Shared.setGen
  dsimp only
  rw [mend_set h]
theorem runs_mend {Γ : Ctx} {p : Pos} {t : Sem PySem.Fin} {fs : List Frame} {s s' : Shared} {e : End} (h : Runs M Γ p t fs s e s') : ∀ R, Held R s.gens → splitAtGen fs = none →
    Held R s'.gens ∧ EndOk e ∧ Runs M Γ p t fs (mendS R s) e (mendS R s') := by
  induction h with
  | done => intro R hR hf; exact ⟨hR, trivial, .done⟩
  | raise => intro R hR hf; exact ⟨hR, trivial, .raise⟩
  | again hq _ ih => intro R hR hf; obtain ⟨a, b, c⟩ := ih R hR hf; exact ⟨a, b, .again hq c⟩
  | rule _ ih => intro R hR hf; obtain ⟨a, b, c⟩ := ih R hR hf; exact ⟨a, b, .rule c⟩
  | «at» _ ih => intro R hR hf; obtain ⟨a, b, c⟩ := ih R hR hf; exact ⟨a, b, .at c⟩
  | load ho _ ih => intro R hR hf; obtain ⟨a, b, c⟩ := ih R hR hf; exact ⟨a, b, .load ho c⟩
  | update ho _ ih => intro R hR hf; obtain ⟨a, b, c⟩ := ih R hR hf; exact ⟨a, b, .update ho c⟩
  | loadIfAlive _ ih => intro R hR hf; obtain ⟨a, b, c⟩ := ih R hR hf; exact ⟨a, b, .loadIfAlive c⟩
  | point _ ih => intro R hR hf; obtain ⟨a, b, c⟩ := ih R hR hf; exact ⟨a, b, .point c⟩
  | alloc _ ih => intro R hR hf; obtain ⟨a, b, c⟩ := ih R hR hf; exact ⟨a, b, .alloc c⟩
  | fresh _ ih => intro R hR hf; obtain ⟨a, b, c⟩ := ih R hR hf; exact ⟨a, b, .fresh c⟩
  | ask _ ih => intro R hR hf; obtain ⟨a, b, c⟩ := ih R hR hf; exact ⟨a, b, .ask c⟩
  | choose hn _ ih => intro R hR hf; obtain ⟨a, b, c⟩ := ih R hR hf; exact ⟨a, b, .choose hn c⟩
  | os _ ih => intro R hR hf; obtain ⟨a, b, c⟩ := ih R hR hf; exact ⟨a, b, .os c⟩
  | handled _ ih => intro R hR hf; obtain ⟨a, b, c⟩ := ih R hR hf; exact ⟨a, b, .handled c⟩
  | genState hg _ ih =>
    intro R hR hf
    obtain ⟨a, b, c⟩ := ih R hR hf
    obtain ⟨st2, e, es⟩ := hR.looks hg
    refine ⟨a, b, .genState (st := st2) e ?_⟩
    rw [es]
    exact c
  | stack _ ih => intro R hR hf; obtain ⟨a, b, c⟩ := ih R hR hf; exact ⟨a, b, .stack c⟩
  | thread _ ih => intro R hR hf; obtain ⟨a, b, c⟩ := ih R hR hf; exact ⟨a, b, .thread c⟩
  | newGen _ ih =>
    intro R hR hf
    obtain ⟨a, b, c⟩ := ih R (hR.push trivial) hf
    refine ⟨a, b, .newGen ?_⟩
    unfold mendS at c ⊢
    dsimp only at c ⊢
    rw [mend_push hR] at c
    rw [mend_size]
    exact c
  | call _ _ ih1 ih2 =>
    intro R hR hf
    obtain ⟨a, _, c⟩ := ih1 R hR rfl
    obtain ⟨a2, b2, c2⟩ := ih2 R a rfl
    exact ⟨a2, b2, .call c c2⟩
  | callSusp _ ih1 =>
    intro R hR hf
    obtain ⟨a, b, c⟩ := ih1 R hR rfl
    refine ⟨a, ?_, .callSusp c⟩
    have b' : splitAtGen _ = none := b
    show splitAtGen (_ ++ _) = none
    rw [splitAtGen_append_none _ b']
    rfl
  | yield => intro R hR hf; exact ⟨hR, rfl, .yield⟩
  | resumeFresh hg _ hq _ ih1 ih2 =>
    intro R hR hf
    have n := hR.awake hg rfl
    obtain ⟨a, b, c⟩ := ih1 R (hR.set n trivial) rfl
    rw [setGen_mend n] at c
    obtain ⟨a2, b2, c2⟩ := ih2 R (a.set n b.fr) rfl
    rw [setGen_mend n] at c2
    exact ⟨a2, b2, .resumeFresh (mend_at hg n) c hq c2⟩
  | @resumeSuspended _ _ g _ _ _ _ _ _ _ _ _ _ _ _ _ _ hg h1 hq _ ih1 ih2 =>
    intro R hR hf
    cases n : R g with
    | some y =>
      obtain ⟨z, q⟩ := hR.cut g y n
      rw [hg] at q
      cases y with
      | suspended =>
        simp only [cut, Option.some.injEq, GenState.suspended.injEq] at q
        rw [q.1] at h1
        exact (no_unsup h1 rfl).elim
      | _ => cases z
    | none =>
      have f := hR.free g _ _ _ _ _ _ n hg
      obtain ⟨a, b, c⟩ := ih1 R (hR.set n trivial) f
      rw [setGen_mend n] at c
      obtain ⟨a2, b2, c2⟩ := ih2 R (a.set n b.fr) rfl
      rw [setGen_mend n] at c2
      exact ⟨a2, b2, .resumeSuspended (mend_at hg n) c hq c2⟩
  | resumeJustStarted hg hv _ ih =>
    intro R hR hf
    obtain ⟨a, b, c⟩ := ih R hR rfl
    exact ⟨a, b, .resumeJustStarted (mend_at hg (hR.awake hg rfl)) hv c⟩
  | resumeThrowFresh hg _ ih =>
    intro R hR hf
    have n := hR.awake hg rfl
    obtain ⟨a, b, c⟩ := ih R (hR.set n trivial) rfl
    rw [setGen_mend n] at c
    exact ⟨a, b, .resumeThrowFresh (mend_at hg n) c⟩
  | resumeRunning hg _ ih =>
    intro R hR hf
    obtain ⟨a, b, c⟩ := ih R hR rfl
    exact ⟨a, b, .resumeRunning (mend_at hg (hR.awake hg rfl)) c⟩
  | resumeFinished hg _ ih =>
    intro R hR hf
    obtain ⟨a, b, c⟩ := ih R hR rfl
    exact ⟨a, b, .resumeFinished (mend_at hg (hR.awake hg rfl)) c⟩
  | segRet _ _ ih1 ih2 =>
    intro R hR hf
    rw [splitAtGen_ret] at hf
    obtain ⟨a, _, c⟩ := ih1 R hR rfl
    obtain ⟨a2, b2, c2⟩ := ih2 R a (Option.map_eq_none_iff.mp hf)
    exact ⟨a2, b2, .segRet c c2⟩
  | segGen _ _ ih1 ih2 =>
    intro R hR hf
    rw [splitAtGen_gen] at hf
    cases hf
  | segSuspOut hs _ ih1 =>
    intro R hR hf
    obtain ⟨a, b, c⟩ := ih1 R hR rfl
    refine ⟨a, ?_, .segSuspOut hs c⟩
    have b' : splitAtGen _ = none := b
    show splitAtGen (_ ++ _) = none
    rw [splitAtGen_append_none _ b', hs]
    rfl
  | segSuspGen hs _ _ _ ih1 ih2 =>
    intro R hR hf
    rw [hf] at hs
    cases hs
end
section
variable {M : Model} {α : Type}
theorem wakes_mend {Γ : Ctx} {p : Pos} {g : Nat} {r : Resume} {s s' : Shared} {res : GenResult} {R : Nat → Option GenState} (hR : Held R s.gens) (h : Wakes M Γ p g r s res s') : Held R s'.gens ∧ Wakes M Γ p g r (mendS R s) res (mendS R s') := by
  unfold Wakes at h ⊢
  split at h
  · exact h.elim
  · rename_i c hg
    have n := hR.awake hg rfl
    have hg2 : (mendS R s).gens[g]? = some (.fresh c) := mend_at hg n
    rw [hg2]
    dsimp only
    split at h
    · obtain ⟨e1, s1, hr, hq, rfl, rfl⟩ := h
      obtain ⟨a, b, q⟩ := runs_mend hr R (hR.set n trivial) rfl
      rw [setGen_mend n] at q
      exact ⟨a.set n b.fr, e1, mendS R s1, q, hq, rfl, setGen_mend n⟩
    · obtain ⟨rfl, rfl⟩ := h
      exact ⟨hR, rfl, rfl⟩
    · obtain ⟨rfl, rfl⟩ := h
      exact ⟨hR.set n trivial, rfl, setGen_mend n⟩
  · rename_i k0 l0 c0 p0 fs cl hg
    cases n : R g with
    | some y =>
      obtain ⟨z, q⟩ := hR.cut g y n
      rw [hg] at q
      cases y with
      | suspended =>
        simp only [GT.cut, Option.some.injEq, GenState.suspended.injEq] at q
        obtain ⟨e1, s1, hr, _⟩ := h
        rw [q.1] at hr
        exact (no_unsup hr rfl).elim
      | _ => cases z
    | none =>
      have hg2 : (mendS R s).gens[g]? = some (.suspended k0 l0 c0 p0 fs cl) := mend_at hg n
      rw [hg2]
      obtain ⟨e1, s1, hr, hq, rfl, rfl⟩ := h
      obtain ⟨a, b, q⟩ := runs_mend hr R (hR.set n trivial) (hR.free g _ _ _ _ _ _ n hg)
      rw [setGen_mend n] at q
      exact ⟨a.set n b.fr, e1, mendS R s1, q, hq, rfl, setGen_mend n⟩
  · rename_i hg
    obtain ⟨rfl, rfl⟩ := h
    have hg2 : (mendS R s').gens[g]? = some .running := mend_at hg (hR.awake hg rfl)
    rw [hg2]
    exact ⟨hR, rfl, rfl⟩
  · rename_i hg
    obtain ⟨rfl, rfl⟩ := h
    have hg2 : (mendS R s').gens[g]? = some .finished := mend_at hg (hR.awake hg rfl)
    rw [hg2]
    exact ⟨hR, rfl, rfl⟩
def After (R : Nat → Option GenState) (Q : α → Pos → Shared → Prop) (a : α) (p : Pos) (s : Shared) : Prop := ∃ z, Held R z.gens ∧ s = mendS R z ∧ Q a p z
theorem wp_mend {Γ : Ctx} {R : Nat → Option GenState} (t : Sem α) : ∀ (Q : α → Pos → Shared → Prop) (E : Value → Pos → Shared → Prop) (p : Pos) (s : Shared), Held R s.gens → wp M Γ t Q E p s →
    wp M Γ t (After R Q) (After R E) p (mendS R s) := by
  induction t with
  | pure a => intro Q E p s hR h; exact ⟨s, hR, rfl, h⟩
  | raise e => intro Q E p s hR h; exact ⟨s, hR, rfl, h⟩
  | unsupported _ => intro Q E p s _ h; exact h
  | finish _ => intro Q E p s _ h; exact h
  | rule _ k ih => intro Q E p s hR h; exact ih () Q E p s hR h
  | «at» p' k ih => intro Q E p s hR h; exact ih () Q E p' s hR h
  | load a _ k ih => intro Q E p s hR h; obtain ⟨o, ho, h⟩ := h; exact ⟨o, ho, ih o Q E p s hR h⟩
  | update a _ f k ih => intro Q E p s hR h; exact ⟨h.1, ih () Q E p { s with heap := s.heap.update a f } hR h.2⟩
  | loadIfAlive a k ih => intro Q E p s hR h; exact ih _ Q E p s hR h
  | point _ k ih => intro Q E p s hR h; exact ih () Q E p s hR h
  | register _ _ => intro Q E p s _ h; exact h
  | alloc o k ih => intro Q E p s hR h; exact ih _ Q E p { s with heap := s.heap.push o } hR h
  | fresh k ih => intro Q E p s hR h; exact ih _ Q E p { s with toks := s.toks + 1 } hR h
  | ask k ih => intro Q E p s hR h; exact ih _ Q E p s hR h
  | choose src m k ih => intro Q E p s hR h; exact ⟨h.1, ih _ Q E p { s with drawn := s.drawn.bump src } hR h.2⟩
  | os q _ k ih => intro Q E p s hR h; exact ih _ Q E p { s with os := (Os.step s.os q).1 } hR h
  | call c hd _ _ k ih =>
    intro Q E p s hR h
    obtain ⟨r, s', hr, h⟩ := h
    obtain ⟨a, _, c⟩ := runs_mend hr R hR rfl
    exact ⟨r, mendS R s', c, ih r Q E p s' a h⟩
  | handled own k ih => intro Q E p s hR h; exact ih _ Q E p s hR h
  | genState g k ih =>
    intro Q E p s hR h
    obtain ⟨st, hs, h⟩ := h
    obtain ⟨st2, e, es⟩ := hR.looks hs
    refine ⟨st2, e, ?_⟩
    rw [es]
    exact ih _ Q E p s hR h
  | newGen c k ih =>
    intro Q E p s hR h
    have h2 := ih _ Q E p { s with gens := s.gens.push (.fresh c) } (hR.push trivial) h
    have sz : (mend R s.gens).size = s.gens.size := mend_size
    unfold mendS at h2 ⊢
    dsimp only at h2 ⊢
    rw [mend_push hR] at h2
    rw [Sem.wp_newGen]
    dsimp only
    rw [sz]
    exact h2
  | resume g r _ k ih =>
    intro Q E p s hR h
    obtain ⟨res, s', hw, h⟩ := h
    obtain ⟨a, c⟩ := wakes_mend hR hw
    exact ⟨res, mendS R s', c, ih res Q E p s' a h⟩
  | yield _ _ _ _ => intro Q E p s _ h; exact h
  | stack k ih => intro Q E p s hR h; exact ih _ Q E p s hR h
  | fork _ _ => intro Q E p s _ h; exact h
  | thread k ih => intro Q E p s hR h; exact ih _ Q E p s hR h
  | await _ _ _ _ _ => intro Q E p s _ h; exact h
/-- all that sleeps, cut off -/
def cutS (s : Shared) : Shared := { s with gens := s.gens.map cut }
def sleepers (s : Shared) (i : Nat) : Option GenState := (s.gens[i]?).filter asleep
theorem sleepers_some {s : Shared} {i : Nat} {y : GenState} (h : sleepers s i = some y) : asleep y = true ∧ s.gens[i]? = some y := by
  unfold sleepers at h
  obtain ⟨a, b⟩ := Option.filter_eq_some_iff.mp h
  exact ⟨b, a⟩
theorem held_cut (s : Shared) : Held (sleepers s) (cutS s).gens where
  cut := fun i y e => by
    obtain ⟨a, b⟩ := sleepers_some e
    refine ⟨a, ?_⟩
    show (s.gens.map GT.cut)[i]? = _
    rw [Array.getElem?_map, b]
    rfl
  free := fun i k l c p fs cl e q => by
    have q2 : (s.gens.map GT.cut)[i]? = some (.suspended k l c p fs cl) := q
    rw [Array.getElem?_map] at q2
    cases z : s.gens[i]? with
    | none => rw [z] at q2; cases q2
    | some y =>
      rw [z] at q2
      cases y with
      | suspended => simp [sleepers, z, asleep] at e
      | _ => simp [GT.cut] at q2
theorem mend_cut (s : Shared) : mendS (sleepers s) (cutS s) = s := by
  unfold mendS cutS
  have e : mend (sleepers s) (s.gens.map cut) = s.gens := by
    refine arr_ext fun i => ?_
    rw [mend_get, Array.getElem?_map]
    cases z : s.gens[i]? with
    | none => rfl
    | some y =>
      cases a : asleep y with
      | true =>
        rw [show sleepers s i = some y by simp [sleepers, z, a]]
        rfl
      | false =>
        rw [show sleepers s i = none by simp [sleepers, z, a]]
        simp [cut_awake a]
  dsimp only
  rw [e]
/-- what slept ahead of it sleeps behind it -/
structure Kept (s s' : Shared) (G : Array GenState) : Prop where
  at' : ∀ (i : Nat) (y : GenState), s.gens[i]? = some y → asleep y = true → s'.gens[i]? = some y
  bare : (∀ y ∈ s.gens, y.bare = true) → (∀ y ∈ G, y.bare = true) → ∀ y ∈ s'.gens, y.bare = true
theorem kept_mend {s z : Shared} (h : Held (sleepers s) z.gens) : Kept s (mendS (sleepers s) z) z.gens where
  at' := fun i y e a => by
    have q : sleepers s i = some y := by simp [sleepers, e, a]
    obtain ⟨_, b⟩ := h.cut i y q
    show (mend _ _)[i]? = _
    rw [mend_get, b, q]
    rfl
  bare := fun hs hG y hy => by
    obtain ⟨i, hi, e⟩ := Array.mem_iff_getElem.mp hy
    have e2 : (mend (sleepers s) z.gens)[i]? = some y := by
      rw [← e]
      exact Array.getElem?_eq_getElem hi
    rw [mend_get] at e2
    cases w : z.gens[i]? with
    | none => rw [w] at e2; cases e2
    | some x =>
      rw [w] at e2
      cases q : sleepers s i with
      | none =>
        rw [q] at e2
        have : x = y := Option.some.inj e2
        exact this ▸ hG x (Array.mem_of_getElem? w)
      | some v =>
        rw [q] at e2
        have : v = y := Option.some.inj e2
        exact this ▸ hs v (Array.mem_of_getElem? (sleepers_some q).2)
theorem wpAny_sleep {A : Around} {t : Sem α} {Q : α → Shared → Prop} {E : Value → Shared → Prop} {s : Shared} (h : wpAny M A t Q E (cutS s)) :
    wpAny M A t (fun a s' => ∃ G, Kept s s' G ∧ Q a { s' with gens := G }) (fun e s' => ∃ G, Kept s s' G ∧ E e { s' with gens := G }) s := by
  intro Γ p hΓ
  have q := wp_mend (R := sleepers s) t _ _ p (cutS s) (held_cut s) (h Γ p hΓ)
  rw [mend_cut] at q
  refine Sem.wp_mono M Γ t ?_ ?_ p s q
  · rintro a p' s' ⟨z, hz, rfl, hq⟩
    exact ⟨z.gens, kept_mend hz, hq⟩
  · rintro a p' s' ⟨z, hz, rfl, hq⟩
    exact ⟨z.gens, kept_mend hz, hq⟩
end
end GT

/-! what is gone stays gone -/
namespace GT
open PySem
open Sem (wp)
structure Dead (s z : Shared) : Prop where
  le : s.heap.objs.size ≤ z.heap.objs.size
  at' : ∀ b, b < s.heap.objs.size → s.heap.get? b = none → z.heap.get? b = none
theorem Dead.refl (s : Shared) : Dead s s := ⟨Nat.le_refl _, fun _ _ e => e⟩
theorem Dead.trans {a b c : Shared} (h : Dead a b) (k : Dead b c) : Dead a c := ⟨Nat.le_trans h.le k.le, fun d l e => k.at' d (Nat.lt_of_lt_of_le l h.le) (h.at' d l e)⟩
theorem dead_heap {s z : Shared} (e : z.heap = s.heap) : Dead s z := ⟨by rw [e]; exact Nat.le_refl _, fun b _ q => by rw [e]; exact q⟩
theorem dead_push {s : Shared} {o : Obj} {z : Shared} (e : z.heap = s.heap.push o) : Dead s z := by
  refine ⟨by rw [e, Heap.size_push]; exact Nat.le_succ _, fun b l q => ?_⟩
  rw [e]
  cases r : (s.heap.push o).get? b with
  | none => rfl
  | some x =>
    rcases Heap.get?_push_cases r with ⟨q1, _⟩ | q1
    · exact absurd l (by rw [q1]; exact Nat.lt_irrefl _)
    · rw [q] at q1; cases q1
theorem dead_update {s : Shared} {a : Addr} {f : Obj → Obj} {z : Shared} (h : (s.heap.get? a).isSome = true) (e : z.heap = s.heap.update a f) : Dead s z := by
  refine ⟨by rw [e]; simp [Heap.update], fun b l q => ?_⟩
  rw [e]
  by_cases hb : b = a
  · subst hb; rw [q] at h; cases h
  · rw [Heap.get?_update_other _ _ (Ne.symm hb)]; exact q
theorem dead_of {s s1 z : Shared} (h : Dead s1 z) (e : s1.heap = s.heap := by rfl) : Dead s z := ⟨by rw [← e]; exact h.le, fun b l q => h.at' b (by rw [e]; exact l) (by rw [e]; exact q)⟩
section
variable {M : Model}
theorem runs_dead {Γ : Ctx} {p : Pos} {t : Sem PySem.Fin} {fs : List Frame} {s s' : Shared} {e : End} (h : Runs M Γ p t fs s e s') : Dead s s' := by
  induction h with
  | done => exact .refl _
  | raise => exact .refl _
  | again _ _ ih => exact ih
  | rule _ ih => exact ih
  | «at» _ ih => exact ih
  | load _ _ ih => exact ih
  | update ha _ ih => exact (dead_update ha rfl).trans ih
  | loadIfAlive _ ih => exact ih
  | point _ ih => exact ih
  | alloc _ ih => exact (dead_push rfl).trans ih
  | fresh _ ih => exact dead_of ih
  | ask _ ih => exact ih
  | choose _ _ ih => exact dead_of ih
  | os _ ih => exact dead_of ih
  | handled _ ih => exact ih
  | genState _ _ ih => exact ih
  | stack _ ih => exact ih
  | thread _ ih => exact ih
  | newGen _ ih => exact dead_of ih
  | call _ _ ih1 ih2 => exact ih1.trans ih2
  | callSusp _ ih1 => exact ih1
  | yield => exact .refl _
  | resumeFresh _ _ _ _ ih1 ih2 => exact dead_of (ih1.trans (dead_of ih2))
  | resumeSuspended _ _ _ _ ih1 ih2 => exact dead_of (ih1.trans (dead_of ih2))
  | resumeJustStarted _ _ _ ih => exact ih
  | resumeThrowFresh _ _ ih => exact dead_of ih
  | resumeRunning _ _ ih => exact ih
  | resumeFinished _ _ ih => exact ih
  | segRet _ _ ih1 ih2 => exact ih1.trans ih2
  | segGen _ _ ih1 ih2 => exact ih1.trans (dead_of ih2)
  | segSuspOut _ _ ih1 => exact ih1
  | segSuspGen _ _ _ _ ih1 ih2 => exact ih1.trans (dead_of ih2)
theorem codeAny_dead {A : Around} {c : Code} {R : Result → Shared → Prop} {s : Shared} (h : codeAny M A c R s) : codeAny M A c (fun r z => Dead s z ∧ R r z) s := by
  intro Γ p hc hΓ
  obtain ⟨r, z, hr, hq⟩ := h Γ p hc hΓ
  exact ⟨r, z, hr, runs_dead hr, hq⟩
end
end GT

/-! a generator whose body is «for x in e: yield x», walked lazily -/
namespace GW
open PySem PySem.Spec PyProof.Rows L2 GenW GT
abbrev PhiT := Code → (Resume → Sem PySem.Fin) → List Frame → Value → Shared → Prop
abbrev PsiT := Result → Shared → Prop
def Ends (Φ : PhiT) (Ψ : PsiT) : End → Shared → Prop
  | .ret r, s => Ψ r s
  | .susp v g l k c p fs, s => (End.susp v g l k c p fs).quiet = true ∧ Φ c k fs v s
/-- one stretch of a generator's run: to its next item, or to its end -/
def Sg (M : Model) (A : Around) (Φ : PhiT) (Ψ : PsiT) (c : Code) (t : Sem PySem.Fin) (fs : List Frame) (s : Shared) : Prop :=
  ∀ (Γ : PySem.Ctx) (p : Pos), Γ.code = c → Γ.Woken A → ∃ e z, Runs M Γ p t fs s e z ∧ Ends Φ Ψ e z
section
variable {M : Model} {A : Around} {Φ : PhiT} {Ψ : PsiT} {c : Code} {fs : List Frame} {s : Shared}
theorem sg_wrap {α : Type} {m : Sem α} {K : α → Sem PySem.Fin} {J : Value → Sem PySem.Fin} {gd : Bool → Bool} {lv : List Value → List Value}
    (h : wpAny M (A.over c fs) m (fun a z => Sg M A Φ Ψ c (K a) fs z) (fun x z => Sg M A Φ Ψ c (J x) fs z) s) : Sg M A Φ Ψ c (m.wrap K J gd lv) fs s := by
  rintro Γ p rfl hΓ
  exact runs_wrap_of_wp K J gd lv m (h (Γ.over fs) p (hΓ.over fs)) (fun _ p1 _ q => q Γ p1 rfl hΓ) (fun _ p1 _ q => q Γ p1 rfl hΓ)
theorem sg_at {p1 : Pos} {k : Unit → Sem PySem.Fin} (h : Sg M A Φ Ψ c (k ()) fs s) : Sg M A Φ Ψ c (.at p1 k) fs s :=
  sg_wrap (m := standAt p1) (K := k) (J := .raise) (gd := id) (lv := id) (wpAny_standAt h)
theorem sg_point {l : List Value} {k : Unit → Sem PySem.Fin} (h : Sg M A Φ Ψ c (k ()) fs s) : Sg M A Φ Ψ c (.point l k) fs s :=
  sg_wrap (m := point) (K := k) (J := .raise) (gd := id) (lv := fun _ => l) (wpAny_point h)
theorem sg_call {c1 : Code} {hd : Option Value} {g : Bool} {l : List Value} {k : Result → Sem PySem.Fin} (h : ∀ p, Sg M A Φ Ψ c1 (M.den c1) (.ret k hd g l c p [] :: fs) s) : Sg M A Φ Ψ c (.call c1 hd g l k) fs s := by
  rintro Γ p rfl hΓ
  obtain ⟨e, z, a, b⟩ := h p (Γ.goto c1) p rfl (hΓ.goto c1)
  exact ⟨e, z, runs_call_seg a, b⟩
theorem sg_leaf {k : Result → Sem PySem.Fin} {hd : Option Value} {g : Bool} {l kp : List Value} {c1 : Code} {p1 : Pos} (r : Result) (h : Sg M A Φ Ψ c1 (k r) fs s) : Sg M A Φ Ψ c (leafOf r) (.ret k hd g l c1 p1 kp :: fs) s := by
  rintro Γ p rfl hΓ
  obtain ⟨e, z, a, b⟩ := h (Γ.goto c1) p1 rfl (hΓ.goto c1)
  exact ⟨e, z, Runs.pop r a, b⟩
theorem sg_again {c1 : Code} (q : c1.quiet = true) (h : Sg M A Φ Ψ c1 (M.den c1) fs s) : Sg M A Φ Ψ c (.pure (.again c1)) fs s := by
  rintro Γ p rfl hΓ
  obtain ⟨e, z, a, b⟩ := h (Γ.goto c1) p rfl (hΓ.goto c1)
  exact ⟨e, z, Runs.head (c₁ := c1) (fun _ _ x => .again q x) a, b⟩
theorem sg_end (r : Result) (h : Ψ r s) : Sg M A Φ Ψ c (leafOf r) [] s := by
  rintro Γ p rfl _
  exact ⟨.ret r, s, Runs.leaf r, h⟩
theorem sg_yield {v : Value} {g : Bool} {l : List Value} {k : Resume → Sem PySem.Fin} (h1 : splitAtGen fs = none) (h2 : g = false) (h3 : fs.any Frame.guarded = false) (h : Φ c k fs v s) : Sg M A Φ Ψ c (.yield v g l k) fs s := by
  rintro Γ p rfl _
  refine ⟨_, s, Runs.yield' fs h1, ?_, h⟩
  simp [End.quiet, h2, h3]
theorem sg_Yield {e : Expr} {env : Env} {K : Flow → Sem PySem.Fin} {J : Value → Sem PySem.Fin} {gd : Bool → Bool} {lv : List Value → List Value} {yp pos : Pos} (h1 : splitAtGen fs = none) (h2 : gd false = false) (h3 : fs.any Frame.guarded = false)
    (hco : env.scope.isCoroutine = false) (hi : interactive env = false)
    (h : wpAny M (A.over c fs) (eval e env) (fun v z => ∀ k : Resume → Sem PySem.Fin, (∀ (Φ1 : PhiT) (Ψ1 : PsiT) (z1 : Shared), Sg M A Φ1 Ψ1 c (K .next) fs z1 → Sg M A Φ1 Ψ1 c (k (.send .none)) fs z1) → Φ c k fs v z) (fun _ _ => False) s) :
    Sg M A Φ Ψ c ((exec (.Expr (.Yield (some e) yp) pos) env).wrap K J gd lv) fs s := by
  rw [exec_Expr env _ pos hi rfl]
  show Sg M A Φ Ψ c (.at pos fun _ => ((eval e env >>= fun v => (standAt yp >>= fun _ => yieldOut env v)) >>= fun x => dropValue (.Yield (some e) yp) pos x).wrap K J gd lv) fs s
  have hy : ∀ v, yieldOut env v = yieldValue v := fun v => by simp only [yieldOut, hco, Bool.false_eq_true, if_false]
  simp only [hy]
  refine sg_at ?_
  rw [Sem.bind_eq_wrap', Sem.bind_eq_wrap', Sem.wrap_wrap, Sem.wrap_wrap]
  refine sg_wrap (wpAny_mono h (fun v z q => ?_) fun _ _ w => w.elim)
  refine sg_at (sg_yield h1 h2 h3 (q _ fun Φ1 Ψ1 z1 w => ?_))
  exact w
end
section
variable {prog : Program} {w : World} {A : Around} {Φ : PhiT} {Ψ : PsiT} {fs : List Frame} {s : Shared} {env : Env}
abbrev LK (tg : Expr) (it : Value) (body : List Stmt) (env : Env) : Flow → Sem PySem.Fin := fun f => match f with
  | .next | .cont => .pure (.again (.forLoop tg it body [] env))
  | .brk => .pure (.done .next)
  | .ret v => .pure (.done (.ret v))
abbrev LJ (env : Env) : Value → Sem PySem.Fin := fun e => (do noteFrame e env; theTreesLotGoes e : Sem Unit).wrap (fun _ => .raise e) .raise id id
theorem sg_forLoop {tg : Expr} {it : Value} {body : List Stmt}
    (h : wpAny (model prog w) (A.over (.forLoop tg it body [] env) fs) (pyNext it) (fun r z => match r with
      | none => Sg (model prog w) A Φ Ψ (.block [] env) ((model prog w).den (.block [] env)) fs z
      | some v => wpAny (model prog w) (A.over (.forLoop tg it body [] env) fs) (letOwnedTupleGo tg it v) (fun _ z1 => wpAny (model prog w) (A.over (.forLoop tg it body [] env) fs) (assign tg env v) (fun _ z2 =>
          Sg (model prog w) A Φ Ψ (.forLoop tg it body [] env) ((execs body env).wrap (LK tg it body env) (LJ env) id id) fs z2) (fun _ _ => False) z1) (fun _ _ => False) z) (fun _ _ => False) s) :
    Sg (model prog w) A Φ Ψ (.forLoop tg it body [] env) ((model prog w).den (.forLoop tg it body [] env)) fs s := by
  show Sg _ A Φ Ψ _ ((forTurn tg it body [] env).onRaise (fun x => do noteFrame x env; theTreesLotGoes x)) fs s
  unfold forTurn
  rw [Sem.onRaise_eq_wrap]
  refine sg_at ?_
  show Sg _ A Φ Ψ _ (((pyNext it).onRaise (fun _ => standAt { tg.pos with line := 0 }) >>= fun r => (match r with
    | none => again (.block [] env)
    | some v => (letOwnedTupleGo tg it v >>= fun _ => (assign tg env v >>= fun _ => (execs body env >>= fun f => (match f with
      | .next => again (.forLoop tg it body [] env)
      | .cont => again (.forLoop tg it body [] env)
      | .brk => pure (.done .next)
      | .ret v => pure (.done (.ret v)) : Sem PySem.Fin)))) : Sem PySem.Fin)).wrap .pure (fun e => (do noteFrame e env; theTreesLotGoes e : Sem Unit).bind fun _ => .raise e) id id) fs s
  rw [Sem.bind_eq_wrap', Sem.wrap_wrap]
  refine sg_wrap (wpAny_onRaise (wpAny_mono h (fun r z q => ?_) fun _ _ q => q.elim))
  cases r with
  | none => exact sg_again rfl q
  | some v =>
    show Sg _ A Φ Ψ _ ((letOwnedTupleGo tg it v >>= fun _ => (assign tg env v >>= fun _ => (execs body env >>= fun f => (match f with
      | .next => again (.forLoop tg it body [] env)
      | .cont => again (.forLoop tg it body [] env)
      | .brk => pure (.done .next)
      | .ret v => pure (.done (.ret v)) : Sem PySem.Fin)))).wrap .pure (fun e => (do noteFrame e env; theTreesLotGoes e : Sem Unit).bind fun _ => .raise e) id id) fs z
    rw [Sem.bind_eq_wrap', Sem.wrap_wrap]
    refine sg_wrap (wpAny_mono q (fun _ z1 q1 => ?_) fun _ _ q1 => q1.elim)
    rw [Sem.bind_eq_wrap', Sem.wrap_wrap]
    refine sg_wrap (wpAny_mono q1 (fun _ z2 q2 => ?_) fun _ _ q2 => q2.elim)
    rw [Sem.bind_eq_wrap', Sem.wrap_wrap]
    rw [Sem.wrap_congr (execs body env) _ _ (K' := LK tg it body env) (H' := LJ env) (fun f => by cases f <;> rfl)
      (fun e => by first | exact Sem.bind_eq_wrap _ _ | (show (do noteFrame e env; theTreesLotGoes e : Sem Unit).bind (fun _ => .raise e) = _; rw [Sem.bind_eq_wrap]))]
    exact q2
/-- the frame that a for's code stands over -/
abbrev FrK (env : Env) (K : Flow → Sem PySem.Fin) (J : Value → Sem PySem.Fin) (gd : Bool → Bool) (lv : List Value → List Value) : Result → Sem PySem.Fin := fun r => ((match r with | .ok f => (.pure f : Sem Flow) | .error e => .raise e).onRaise fun (x : Value) => do
        if (← field x 1) == Value.none then unsupported "frame.own-activation:exception-without-traceback"
        setFlight x env.frame).wrap K J gd lv
theorem sg_For {M : Model} {c : Code} {K : Flow → Sem PySem.Fin} {J : Value → Sem PySem.Fin} {gd : Bool → Bool} {lv : List Value → List Value} {tg iter : Expr} {body : List Stmt} {pos : Pos}
    (h : wpAny M (A.over c fs) (eval iter env) (fun x z => wpAny M (A.over c fs) (pyIter x) (fun it z1 => ∀ p,
      Sg M A Φ Ψ (.forLoop tg it body [] env) (M.den (.forLoop tg it body [] env)) (.ret (FrK env K J gd lv) none (gd false) (lv []) c p [] :: fs) z1) (fun _ _ => False) z) (fun _ _ => False) s)
    (hs : ∀ x, foldedSetIterable iter env x = pure x) :
    Sg M A Φ Ψ c ((exec (.For tg iter body [] pos) env).wrap K J gd lv) fs s := by
  rw [exec_For]
  refine sg_at ?_
  show Sg M A Φ Ψ c ((eval iter env >>= fun v => (foldedSetIterable iter env v >>= fun x => (standAt iter.pos >>= fun _ => (holding [x] (pyIter x) >>= fun it => runOwn (.forLoop tg it body [] env) env)))).wrap K J gd lv) fs s
  rw [Sem.bind_eq_wrap', Sem.wrap_wrap]
  refine sg_wrap (wpAny_mono h (fun x z q => ?_) fun _ _ q => q.elim)
  rw [hs x]
  refine sg_at ?_
  show Sg M A Φ Ψ c ((holding [x] (pyIter x) >>= fun it => runOwn (.forLoop tg it body [] env) env).wrap K J gd lv) fs z
  rw [Sem.bind_eq_wrap', Sem.wrap_wrap]
  refine sg_wrap (wpAny_holding (wpAny_mono q (fun it z1 q1 => ?_) fun _ _ q1 => q1.elim))
  exact sg_call q1
theorem sg_func {body : List Stmt}
    (h : Sg (model prog w) A Φ Ψ (.func body env) ((execs body env).wrap (fun f => .pure (.done (.ret (match f with | .ret v => v | _ => .none)))) (fun e => (leaving env e).wrap (fun _ => .raise e) .raise id id) id id) fs s) :
    Sg (model prog w) A Φ Ψ (.func body env) ((model prog w).den (.func body env)) fs s := by
  show Sg _ A Φ Ψ _ (.point [] fun _ => ((execs body env).onRaise (leaving env)) >>= _) fs s
  refine sg_point ?_
  rw [Sem.onRaise_eq_wrap, Sem.bind_eq_wrap', Sem.wrap_wrap]
  rw [Sem.wrap_congr (execs body env) _ _ (K' := fun f => .pure (.done (.ret (match f with | .ret v => v | _ => .none)))) (H' := fun e => (leaving env e).wrap (fun _ => .raise e) .raise id id) (fun f => by cases f <;> rfl)
    (fun e => by rw [Sem.bind_eq_wrap, Sem.wrap_wrap]; rfl)]
  exact h
theorem sg_cons {M : Model} {c : Code} {K : Flow → Sem PySem.Fin} {J : Value → Sem PySem.Fin} {gd : Bool → Bool} {lv : List Value → List Value} {st : Stmt} {rest : List Stmt}
    (h : Sg M A Φ Ψ c ((exec st env).wrap (fun f => match f with | .next => (execs rest env).wrap K J gd lv | f => K f) J gd lv) fs s) : Sg M A Φ Ψ c ((execs (st :: rest) env).wrap K J gd lv) fs s := by
  rw [execs_cons_wrap]
  exact h
end
end GW

namespace GW
open PySem PySem.Spec PyProof.Rows L2 GenW GT
/-- the generator's own surroundings -/
structure Eg (env : Env) (x : Str) : Prop where
  kind : env.scope.kind = .function
  loc : env.kindOf x = some .local
  co : env.scope.isCoroutine = false
  inter : interactive env = false
  dbg : (x == ("__debug__" : Str)) = false
/-- between two rests only the generator's own things change -/
structure Chg (it L : Addr) (s z : Shared) : Prop where
  os : z.os = s.os
  gens : z.gens = s.gens
  keep : ∀ b o, b ≠ it → b ≠ L → s.heap.get? b = some o → z.heap.get? b = some o
theorem Chg.trans {it L : Addr} {a b c : Shared} (h : Chg it L a b) (k : Chg it L b c) : Chg it L a c := ⟨k.os.trans h.os, k.gens.trans h.gens, fun d o n1 n2 e => k.keep d o n1 n2 (h.keep d o n1 n2 e)⟩
/-- the generator's things, as they stand -/
structure Own (it l L : Addr) (j : Nat) (items : Array Value) (h : Heap) : Prop where
  it : h.IsListIter it l j
  l : h.IsList l items
  L : ∃ m, h.Ns L m
def Same3 (it l L : Addr) (h h' : Heap) : Prop := ∀ b, b = it ∨ b = l ∨ b = L → ∀ o, h.get? b = some o → h'.get? b = some o
theorem Own.same {it l L : Addr} {j : Nat} {items : Array Value} {h h' : Heap} (o : Own it l L j items h) (k : Same3 it l L h h') : Own it l L j items h' := by
  obtain ⟨⟨a, a1, a2⟩, ⟨b, b1, b2⟩, ⟨m, q⟩⟩ := o
  exact ⟨⟨a, k _ (.inl rfl) _ a1, a2⟩, ⟨b, k _ (.inr (.inl rfl)) _ b1, b2⟩, m, q.at' fun o e => k _ (.inr (.inr rfl)) o e⟩
theorem Own.there {it l L : Addr} {j : Nat} {items : Array Value} {h : Heap} (q : Own it l L j items h) : ∀ b, b = it ∨ b = l ∨ b = L → ∃ o, h.get? b = some o ∧ ∀ v, o.data ≠ .cell v := by
  obtain ⟨⟨a, a1, a2, a3⟩, ⟨b, b1, b2, n, b3⟩, ⟨m, ⟨c, es, ep, c1, c2, _⟩⟩⟩ := q
  rintro d (rfl | rfl | rfl)
  · exact ⟨a, a1, fun v z => by rw [a3] at z; cases z⟩
  · exact ⟨b, b1, fun v z => by rw [b3] at z; cases z⟩
  · exact ⟨c, c1, fun v z => by rw [c2] at z; cases z⟩
abbrev gBody (x : Str) (yp p1 p2 : Pos) : List Stmt := [.Expr (.Yield (some (.Name x yp)) p1) p2]
abbrev gLoop (x : Str) (xp yp p1 p2 : Pos) (it : Addr) (env : Env) : Code := .forLoop (.Name x xp) (.ref it) (gBody x yp p1 p2) [] env
/-- where the loop's code stands -/
structure Fs (prog : Program) (w : World) (A : Around) (c : Code) (env : Env) (fs : List Frame) : Prop where
  sp : splitAtGen fs = none
  gd : fs.any Frame.guarded = false
  hd : (A.over c fs).handled = none
  fin : ∀ (Φ : PhiT) (Ψ : PsiT) (z : Shared), Ψ (.ok (.ret .none)) z → Sg (model prog w) A Φ Ψ (.block [] env) ((model prog w).den (.block [] env)) fs z
section
variable {prog : Program} {w : World} {A : Around} {Φ : PhiT} {Ψ : PsiT} {fs : List Frame} {s : Shared} {env : Env} {x : Str} {xp yp p1 p2 : Pos} {it l : Addr} {j : Nat} {items : Array Value}
theorem turn_end (F : Fs prog w A (gLoop x xp yp p1 p2 it env) env fs) (o : Own it l env.locals j items s.heap) (hx : items[j]? = none) (hQ : ∀ z, Chg it env.locals s z → Ψ (.ok (.ret .none)) z) :
    Sg (model prog w) A Φ Ψ (gLoop x xp yp p1 p2 it env) ((model prog w).den (gLoop x xp yp p1 p2 it env)) fs s := by
  refine sg_forLoop (wpAny_pyNext_list_end F.hd o.it o.l hx fun h' eb => F.fin _ _ _ (hQ _ ⟨rfl, rfl, fun b ob n _ e => eb b ob n e⟩))
theorem turn_item {u : Value} (G : Eg env x) (F : Fs prog w A (gLoop x xp yp p1 p2 it env) env fs) (n1 : it ≠ l) (n2 : it ≠ env.locals) (n3 : l ≠ env.locals) (o : Own it l env.locals j items s.heap) (hx : items[j]? = some u)
    (hQ : ∀ z k, Chg it env.locals s z → Own it l env.locals (j + 1) items z.heap → (∀ (Φ1 : PhiT) (Ψ1 : PsiT) (z1 : Shared), Sg (model prog w) A Φ1 Ψ1 (gLoop x xp yp p1 p2 it env) ((model prog w).den (gLoop x xp yp p1 p2 it env)) fs z1 →
      Sg (model prog w) A Φ1 Ψ1 (gLoop x xp yp p1 p2 it env) (k (.send .none)) fs z1) → Φ (gLoop x xp yp p1 p2 it env) k fs u z) :
    Sg (model prog w) A Φ Ψ (gLoop x xp yp p1 p2 it env) ((model prog w).den (gLoop x xp yp p1 p2 it env)) fs s := by
  refine sg_forLoop (wpAny_pyNext_list_item o.it o.l hx fun h1 i1 sb => ?_)
  obtain ⟨oi, e1, e2, e3⟩ := id i1
  refine go_of (s := { s with heap := h1 }) (n := "list_iterator") e1 e2 e3 (by decide) ?_
  refine wpAny_assign_Name ?_
  obtain ⟨m, hm⟩ := o.L
  have hm1 : h1.Ns env.locals m := hm.sameBut sb (Ne.symm n2)
  have hcls : (env.scope.kind == .class || (env.scope.kind == .module && env.locals != env.globals)) = false := by rw [G.kind]; rfl
  refine wpAny_storeName_local (s := { s with heap := h1 }) G.loc hm1 (fun h2 hm2 sb2 => ?_) hcls
  refine sg_cons (sg_Yield F.sp rfl F.gd G.co G.inter ?_)
  refine wpAny_Name (wpAny_loadName_local G.kind G.loc hm2 (v := u) (by simp) ?_) G.dbg
  intro k hk
  refine hQ _ k ⟨rfl, rfl, fun b ob a1 a2 e => ?_⟩ ⟨?_, ?_, _, hm2⟩ fun Φ1 Ψ1 z1 q => hk Φ1 Ψ1 z1 (sg_again rfl q)
  · exact (sb2.2 b a2).trans ((sb.2 b a1).trans e)
  · exact ⟨oi, (sb2.2 it n2).trans e1, e2, e3⟩
  · obtain ⟨ol, f1, f2⟩ := o.l
    exact ⟨ol, (sb2.2 l n3).trans ((sb.2 l (Ne.symm n1)).trans f1), f2⟩
/-- asleep: what it will hand out -/
def Asl (M : Model) (A : Around) (it l L : Addr) (items : Array Value) : List Value → Nat → Heap → Code → (Resume → Sem PySem.Fin) → List Frame → Prop
  | [], j, h, c, k, fs => Own it l L j items h ∧ ∀ z : Shared, Same3 it l L h z.heap → Sg M A (fun _ _ _ _ _ => False) (fun r z' => r = .ok (.ret .none) ∧ Chg it L z z') c (k (.send .none)) fs z
  | u :: us, j, h, c, k, fs => Own it l L j items h ∧ ∀ z : Shared, Same3 it l L h z.heap → Sg M A (fun c' k' fs' v z' => v = u ∧ Chg it L z z' ∧ Asl M A it l L items us (j + 1) z'.heap c' k' fs') (fun _ _ => False) c (k (.send .none)) fs z
theorem Asl.own {M : Model} {L : Addr} : ∀ {us : List Value} {h : Heap} {c : Code} {k : Resume → Sem PySem.Fin}, Asl M A it l L items us j h c k fs → Own it l L j items h
  | [], _, _, _, h => h.1
  | _ :: _, _, _, _, h => h.1
theorem asl_of (G : Eg env x) (F : Fs prog w A (gLoop x xp yp p1 p2 it env) env fs) (n1 : it ≠ l) (n2 : it ≠ env.locals) (n3 : l ≠ env.locals) : ∀ (us : List Value) (j : Nat) (h : Heap) (k : Resume → Sem PySem.Fin), items.toList.drop j = us → Own it l env.locals j items h →
    (∀ (Φ1 : PhiT) (Ψ1 : PsiT) (z1 : Shared), Sg (model prog w) A Φ1 Ψ1 (gLoop x xp yp p1 p2 it env) ((model prog w).den (gLoop x xp yp p1 p2 it env)) fs z1 → Sg (model prog w) A Φ1 Ψ1 (gLoop x xp yp p1 p2 it env) (k (.send .none)) fs z1) →
    Asl (model prog w) A it l env.locals items us j h (gLoop x xp yp p1 p2 it env) k fs := by
  intro us
  induction us with
  | nil =>
    intro j h k hd o hk
    refine ⟨o, fun z sm => hk _ _ z (turn_end F (o.same sm) ?_ fun z' c => ⟨rfl, c⟩)⟩
    have : items.toList.length ≤ j := List.drop_eq_nil_iff.mp hd
    exact Array.getElem?_eq_none (by simpa using this)
  | cons u us ih =>
    intro j h k hd o hk
    have hx : items[j]? = some u := by
      have e : items.toList[j]? = some u := by
        have := congrArg List.head? hd
        rw [List.head?_drop] at this
        simpa using this
      simpa using e
    have hd2 : items.toList.drop (j + 1) = us := by
      have := congrArg List.tail hd
      rw [List.tail_drop] at this
      simpa using this
    refine ⟨o, fun z sm => hk _ _ z (turn_item G F n1 n2 n3 (o.same sm) hx fun z' k' c o' hk' => ⟨rfl, c, ih (j + 1) z'.heap k' hd2 o' hk'⟩)⟩
end
end GW

namespace GW
open PySem PySem.Spec PyProof.Rows L2 GenW GT
/-- the heap without the thing at l -/
def hide (H : Hp) (l : Addr) : Hp := fun b => if b = l then none else H b
theorem hide_at {H : Hp} {l : Addr} : hide H l l = none := by unfold hide; rw [if_pos rfl]
theorem hide_ne {H : Hp} {l b : Addr} (h : b ≠ l) : hide H l b = H b := by unfold hide; rw [if_neg h]
theorem hide_of {H : Hp} {l b : Addr} (h : H b = none) : hide H l b = none := by
  unfold hide
  split
  · rfl
  · exact h
section
variable {X : Cx} {pins : List (Addr × Obj)} {σ : L2.St} {H : Hp} {s : Shared}
theorem inv_hide {l : Addr} {xs : List V} (I : Inv X pins σ H s) (e : H l = some (.lst xs)) : Inv X pins σ (hide H l) s := by
  have ne : ∀ {b : Addr} {u : HO}, H b = some u → u ≠ .lst xs → b ≠ l := fun {b u} q d z => by
    rw [z, e] at q
    exact d (Option.some.inj q).symm
  refine ⟨I.ok, I.os, I.bare, ⟨I.base.keep, I.base.slot, fun b o a n c => hide_of (I.base.free b o a n c), I.base.there, fun b ys q => ?_, fun b o u q => ?_, fun b ps q => ?_⟩, I.loc, I.cell, hide_of I.free, fun y c q => hide_of (I.freeC y c q), fun p hp => ?_, fun b u q => ?_, I.len⟩
  · have q2 := I.base.tups b ys q
    rw [hide_ne (ne q2 (fun z => nomatch z))]
    exact q2
  · have q2 := I.base.frzs b o u q
    rw [hide_ne (ne q2 (fun z => nomatch z))]
    exact q2
  · obtain ⟨more, q2⟩ := I.base.tbls b ps q
    exact ⟨more, by rw [hide_ne (ne q2 (fun z => nomatch z))]; exact q2⟩
  · obtain ⟨a1, a2, a3⟩ := I.pin p hp
    exact ⟨a1, hide_of a2, a3⟩
  · by_cases hb : b = l
    · rw [hb, hide_at] at q; cases q
    rw [hide_ne hb] at q
    exact (I.hok b u q).stay (fun _ _ _ z => z) (fun d z => by rw [hide_ne (ne z (fun z => nomatch z))]; exact z) fun d ys z => by rw [hide_ne (ne z (fun z => nomatch z))]; exact z
theorem inv_xe {xe' : Value → Shared → Prop} (I : Inv X pins σ H s) : Inv { X with xe := xe' } pins σ H s :=
  ⟨⟨I.ok.mod, I.ok.kind, I.ok.glob, I.ok.blt, I.ok.above, I.ok.inj, I.ok.has, I.ok.cab, I.ok.hd, I.ok.frames, I.ok.stk, I.ok.exf, I.ok.bs, I.ok.bsz, I.ok.noex, I.ok.exfs, I.ok.funs, I.ok.frf⟩,
    I.os, I.bare, I.base, I.loc, I.cell, I.free, I.freeC, I.pin, I.hok, I.len⟩
theorem inv_ex {xe' : Value → Shared → Prop} (I : Inv { X with xe := xe' } pins σ H s) : Inv X pins σ H s :=
  ⟨⟨I.ok.mod, I.ok.kind, I.ok.glob, I.ok.blt, I.ok.above, I.ok.inj, I.ok.has, I.ok.cab, I.ok.hd, I.ok.frames, I.ok.stk, I.ok.exf, I.ok.bs, I.ok.bsz, I.ok.noex, I.ok.exfs, I.ok.funs, I.ok.frf⟩,
    I.os, I.bare, I.base, I.loc, I.cell, I.free, I.freeC, I.pin, I.hok, I.len⟩
/-- the table of generators is another -/
theorem inv_gens {G : Array GenState} (I : Inv X pins σ H s) (h : AllBare G) : Inv X pins σ H { s with gens := G } :=
  ⟨I.ok, I.os, h, I.base, I.loc, I.cell, I.free, I.freeC, I.pin, I.hok, I.len⟩
end
/-- the first item, seen from the call on -/
structure FirstY (P : Program) (w : World) (A : Around) (outer : List Env) (H : Hp) (s : Shared) (L a : Addr) (go : Obj) (pl : List (Addr × Obj)) (Q : List V → Hp → Prop) (c : Code) (k : Resume → Sem PySem.Fin) (fs : List Frame) (v : Value) (z : Shared) : Prop where
  os : z.os = s.os
  bare : AllBare z.gens
  lim : z.heap.NoLimit
  gen : z.heap.get? a = some go
  plk : ∀ p ∈ pl, z.heap.get? p.1 = some p.2
  ex : ∃ H' x xs u us it l items, Un (frs outer) [] H H' s.heap z.heap ∧ HOk P w H' z.heap ∧ (H' it = none ∧ H' l = none ∧ H' L = none ∧ H' a = none) ∧ s.heap.objs.size ≤ it ∧ (it ≠ l ∧ it ≠ L ∧ l ≠ L ∧ it ≠ a ∧ l ≠ a) ∧ (∀ b o, s.heap.get? b = some o → H b = none → b ≠ l) ∧
    Vals (x :: xs) (u :: us) ∧ v = u ∧ Q (x :: xs) H' ∧ (x :: xs).length ≤ sizeLine ∧ Asl (model P w) A it l L items us 1 z.heap c k fs ∧ ∀ p ∈ pl, H' p.1 = none ∧ p.1 < it ∧ p.1 ≠ l
/-- there was none -/
structure FirstE (P : Program) (w : World) (outer : List Env) (H : Hp) (s : Shared) (pl : List (Addr × Obj)) (Q : List V → Hp → Prop) (r : Result) (z : Shared) : Prop where
  res : r = .ok (.ret .none)
  os : z.os = s.os
  bare : AllBare z.gens
  plk : ∀ p ∈ pl, z.heap.get? p.1 = some p.2
  ex : ∃ H', Un (frs outer) [] H H' s.heap z.heap ∧ HOk P w H' z.heap ∧ Q [] H' ∧ ∀ p ∈ pl, H' p.1 = none
section
variable {X : Cx} {A : Around} {s : Shared} {σ : L2.St} {H : Hp} {x : Str} {xp yp p1 p2 p3 : Pos} {e : Expr} {te : TE} {Q : List V → Hp → Prop} {a : Addr} {go : Obj} {pl : List (Addr × Obj)}
theorem first_sg (hxe : ∀ e z, X.xe e z → False) (hA : A.over (.func [.For (.Name x xp) e (gBody x yp p1 p2) [] p3] X.env) [] = X.A) (hcalm : X.calm = true) (hex : X.ex = []) (hpn : X.pn = []) (G : Eg X.env x) (hs : ∀ v, foldedSetIterable e X.env v = pure v) (ha : ∀ v, go.data ≠ .cell v)
    (hLa : X.env.locals ≠ a)
    (I : Inv X ((a, go) :: pl) σ H s) (he : PE X e te) (q : te σ H fun y H1 => ∃ l xs, y = .ref l ∧ H1 l = some (.lst xs) ∧ Q xs (hide H1 l)) :
    Sg (model X.prog X.w) A (FirstY X.prog X.w A X.outer X.H_0 X.s_0 X.env.locals a go pl Q) (FirstE X.prog X.w X.outer X.H_0 X.s_0 pl Q) (.func [.For (.Name x xp) e (gBody x yp p1 p2) [] p3] X.env) ((model X.prog X.w).den (.func [.For (.Name x xp) e (gBody x yp p1 p2) [] p3] X.env)) [] s := by
  have hh : X.A.handled = none := I.ok.hd hcalm
  refine sg_func (sg_cons (sg_For ?_ hs))
  rw [hA]
  refine wpAny_mono (he.run ((a, go) :: pl) s σ H _ I q) (fun v z q1 => ?_) fun x' z hx => (hxe _ _ hx).elim
  obtain ⟨y, H1, I1, r1, l, xs, rfl, el, hQ⟩ := q1
  obtain rfl : v = Value.ref l := r1
  obtain ⟨lenl, its, cn, rv, ol⟩ := I1.hok l _ el
  have isl : z.heap.IsList l its.toArray := ⟨_, ol, rfl, cn, rfl⟩
  refine wpAny_pyIter_list isl ?_
  intro p
  have I2 := inv_hide I1 el
  have kp : ∀ b o, z.heap.get? b = some o → (z.heap.push { cls := .type "list_iterator", data := .fields #[.ref l, .int 0 0] }).get? b = some o := fun b o e => Heap.get?_push_of_some _ e
  have I3 : Inv X ((a, go) :: pl) σ (hide H1 l) { z with heap := z.heap.push { cls := .type "list_iterator", data := .fields #[.ref l, .int 0 0] } } := I2.kept (t' := z.toks) kp
  have litn : z.heap.objs.size ≠ l := Nat.ne_of_gt (Heap.lt_size ol)
  have litL : z.heap.objs.size ≠ X.env.locals := Nat.ne_of_gt I1.lt
  have lL : l ≠ X.env.locals := fun h => by
    have := I1.free
    rw [← h, el] at this
    cases this
  obtain ⟨pg, pn, _⟩ := I1.pin (a, go) (by simp)
  have plf : ∀ p ∈ pl, z.heap.get? p.1 = some p.2 ∧ H1 p.1 = none ∧ p.1 ≠ X.env.locals := fun p hp => by
    obtain ⟨r1, r2, r3, _⟩ := I1.pin p (by simp [hp])
    exact ⟨r1, r2, r3⟩
  have lita : z.heap.objs.size ≠ a := Nat.ne_of_gt (Heap.lt_size pg)
  have la : l ≠ a := fun h => by
    have pn : H1 a = none := pn
    rw [← h, el] at pn
    cases pn
  have hitn : hide H1 l z.heap.objs.size = none := I2.hok.fresh (Nat.le_refl _)
  have hpa : hide H1 l a = none := hide_of pn
  have old : ∀ b o, X.s_0.heap.get? b = some o → X.H_0 b = none → b ≠ l := fun b o eb nb h => by
    have q0 := I1.base.free b o eb nb (by rw [hex]; simp)
    rw [h, el] at q0
    cases q0
  obtain ⟨m, hm, _⟩ := I3.loc
  have own : Own z.heap.objs.size l X.env.locals 0 its.toArray (z.heap.push { cls := .type "list_iterator", data := .fields #[.ref l, .int 0 0] }) := ⟨⟨_, Heap.get?_push_size _ rfl, rfl, rfl⟩, isl.push _, m, hm⟩
  have hun : Un X.fs [] X.H_0 (hide H1 l) X.s_0.heap (z.heap.push { cls := .type "list_iterator", data := .fields #[.ref l, .int 0 0] }) := by
    have := I3.base
    rw [hex] at this
    exact this
  have F : Fs X.prog X.w A (gLoop x xp yp p1 p2 z.heap.objs.size X.env) X.env [.ret (FrK X.env (fun f => match f with | .next => (execs [] X.env).wrap (fun f => .pure (.done (.ret (match f with | .ret v => v | _ => .none)))) (fun e => (leaving X.env e).wrap (fun _ => .raise e) .raise id id) id id | f => .pure (.done (.ret (match f with | .ret v => v | _ => .none))))
      (fun e => (leaving X.env e).wrap (fun _ => .raise e) .raise id id) id id) none (id false) (id []) (.func [.For (.Name x xp) e (gBody x yp p1 p2) [] p3] X.env) p []] := by
    refine ⟨rfl, rfl, ?_, fun Φ Ψ z1 q => sg_leaf (.ok .next) (sg_end (.ok (.ret .none)) q)⟩
    have : (A.over (gLoop x xp yp p1 p2 z.heap.objs.size X.env) [.ret (FrK X.env (fun f => match f with | .next => (execs [] X.env).wrap (fun f => .pure (.done (.ret (match f with | .ret v => v | _ => .none)))) (fun e => (leaving X.env e).wrap (fun _ => .raise e) .raise id id) id id | f => .pure (.done (.ret (match f with | .ret v => v | _ => .none))))
      (fun e => (leaving X.env e).wrap (fun _ => .raise e) .raise id id) id id) none (id false) (id []) (.func [.For (.Name x xp) e (gBody x yp p1 p2) [] p3] X.env) p []]) = A.over (.func [.For (.Name x xp) e (gBody x yp p1 p2) [] p3] X.env) [] := over_loop rfl rfl
    rw [this, hA]
    exact hh
  -- after a change of its own things
  have after : ∀ {zz : Shared}, Chg z.heap.objs.size X.env.locals { z with heap := z.heap.push { cls := .type "list_iterator", data := .fields #[.ref l, .int 0 0] } } zz →
      Un X.fs [] X.H_0 (hide H1 l) X.s_0.heap zz.heap ∧ HOk X.prog X.w (hide H1 l) zz.heap ∧ zz.heap.NoLimit ∧ zz.heap.get? a = some go ∧ zz.os = X.s_0.os ∧ AllBare zz.gens ∧ (∀ p ∈ pl, zz.heap.get? p.1 = some p.2) := fun {zz} ch => by
    have oldne : ∀ b o, X.s_0.heap.get? b = some o → b ≠ z.heap.objs.size ∧ b ≠ X.env.locals := fun b o eb => ⟨Nat.ne_of_lt (Nat.lt_of_lt_of_le (Heap.lt_size eb) I1.sz), Nat.ne_of_lt (Nat.lt_of_lt_of_le (Heap.lt_size eb) I1.ok.above)⟩
    have kk : ∀ b o, b ≠ z.heap.objs.size → b ≠ X.env.locals → z.heap.get? b = some o → zz.heap.get? b = some o := fun b o n1 n2 eb => ch.keep b o n1 n2 (kp b o eb)
    refine ⟨⟨fun b o eb nb hb hx => ?_, fun b o eb nb hb hx => ?_, hun.free, fun b o eb hx => ?_, hun.tups, hun.frzs, hun.tbls⟩, fun b u eb => ?_, ?_, ch.keep a go (Ne.symm lita) (Ne.symm hLa) (kp a go pg), ch.os.trans I1.os, by rw [ch.gens]; exact I1.bare, fun p hp => kk p.1 p.2 (Nat.ne_of_lt (Heap.lt_size (plf p hp).1)) (plf p hp).2.2 (plf p hp).1⟩
    · obtain ⟨n1, n2⟩ := oldne b o eb
      exact ch.keep b o n1 n2 (hun.keep b o eb nb hb hx)
    · obtain ⟨n1, n2⟩ := oldne b o eb
      obtain ⟨sl, e1⟩ := hun.slot b o eb nb hb hx
      exact ⟨sl, ch.keep b _ n1 n2 e1⟩
    · obtain ⟨n1, n2⟩ := oldne b o eb
      obtain ⟨o', e1⟩ := hun.there b o eb hx
      exact ⟨o', ch.keep b _ n1 n2 e1⟩
    · have trk : ∀ {c : Addr} {u' : HO}, hide H1 l c = some u' → c ≠ z.heap.objs.size ∧ c ≠ X.env.locals := fun {c u'} ec => ⟨fun h => (by rw [h, hitn] at ec; cases ec), fun h => (by rw [h, I3.free] at ec; cases ec)⟩
      refine (I3.hok b u eb).stay (fun d v hd eo => ?_) (fun _ q => q) fun _ _ q => q
      rcases hd with hd | hd
      · subst hd
        obtain ⟨n1, n2⟩ := trk eb
        exact ch.keep _ _ n1 n2 eo
      · obtain ⟨n1, n2⟩ := trk hd
        exact ch.keep _ _ n1 n2 eo
    · obtain ⟨mc, hns, hnn⟩ := I3.nolimit
      obtain ⟨oc, es, ep, hoc, rest⟩ := id hns
      refine ⟨mc, hns.at' fun o eo => ?_, hnn⟩
      -- the statics stand in the base
      have bsc : ∃ o, X.base.get? cStatics = some o := by
        obtain ⟨_, ⟨o, _, _, h, _⟩, _⟩ := I3.ok.mod.nolimit
        exact ⟨o, h⟩
      obtain ⟨o0, h0⟩ := bsc
      obtain ⟨n1, n2⟩ := oldne _ _ (I3.ok.bs _ _ h0).1
      exact ch.keep _ _ n1 n2 eo
  cases xs with
  | nil =>
    cases rv
    refine turn_end F own rfl fun zz ch => ?_
    obtain ⟨q1, q2, q3, q4, q5, q6, q7⟩ := after ch
    exact ⟨rfl, q5, q6, q7, hide H1 l, q1, q2, hQ, fun p hp => hide_of (plf p hp).2.1⟩
  | cons y ys =>
    cases rv with
    | cons ry rys =>
      rename_i u us
      refine turn_item G F litn litL lL own rfl fun zz k ch own' hk => ?_
      obtain ⟨q1, q2, q3, q4, q5, q6, q7⟩ := after ch
      refine ⟨q5, q6, q3, q4, q7, hide H1 l, y, ys, u, us, _, l, _, q1, q2, ⟨hitn, hide_at, I3.free, hpa⟩, I1.sz, ⟨litn, litL, lL, lita, la⟩, old, .cons ry rys, rfl, hQ, lenl, asl_of G F litn litL lL us 1 zz.heap k rfl own' hk, fun p hp => ⟨hide_of (plf p hp).2.1, Heap.lt_size (plf p hp).1, fun h => ?_⟩⟩
      have q := (plf p hp).2.1
      rw [h, el] at q
      cases q
end
end GW

namespace GW
open PySem PySem.Spec PyProof.Rows L2 GenW GT
/-- what a call of such a def gives: it has not begun -/
structure MadeAt (P : Program) (w : World) (k : Nat) (outer : List Env) (H : Hp) (s : Shared) (Q : List V → Hp → Prop) (a g : Nat) (go : Obj) (c : Code) (z : Shared) : Prop where
  big : s.heap.objs.size < a
  lt : a < z.heap.objs.size
  at' : z.heap.get? a = some go
  isG : ∀ h : Heap, h.get? a = some go → h.IsGen a g
  nc : ∀ v, go.data ≠ .cell v
  cls : go.cls = .type "generator"
  fld : ∃ vs, go.data = .fields vs
  gs : z.gens[g]? = some (.fresh c)
  os : z.os = s.os
  bare : AllBare z.gens
  lim : z.heap.NoLimit
  keep : ∀ b o, s.heap.get? b = some o → z.heap.get? b = some o
  run : ∀ (A : Around) (z1 : Shared) (pl : List (Addr × Obj)), Room k A → A.frames = some outer → (∀ b o, z.heap.get? b = some o → z1.heap.get? b = some o) → z1.os = s.os → AllBare z1.gens → (∀ p ∈ pl, z.heap.objs.size ≤ p.1 ∧ z1.heap.get? p.1 = some p.2 ∧ ∀ v, p.2.data ≠ .cell v) →
    Sg (model P w) A (FirstY P w A outer H s s.heap.objs.size a go pl Q) (FirstE P w outer H s pl Q) c ((model P w).den c) [] z1
def Made (P : Program) (w : World) (k : Nat) (outer : List Env) (H : Hp) (s : Shared) (Q : List V → Hp → Prop) (u : Value) (z : Shared) : Prop := ∃ a g go c, u = .ref a ∧ MadeAt P w k outer H s Q a g go c z ∧ Dead s z
/-- the promise of a def that walks a list: the arguments, the heap, what is wanted of its items and of the heap behind the first turn -/
abbrev SpW := List V → Hp → (List V → Hp → Prop) → Prop
structure WFn (P : Program) (w : World) (K : PySem.W.Frag) (mg : Str → Option Value) (base : Heap) (k : Nat) (f : Addr) (fd : FuncData) (ps : List Str) (sp : SpW) : Prop where
  len : ∀ vs H Q, sp vs H Q → vs.length = ps.length
  run : ∀ (A : Around) (outer : List Env) (s : Shared) (H : Hp) (args : Args) (us : List Value) (vs : List V) (Q : List V → Hp → Prop), Room k A → Env0 P w K mg base A outer s H → BindsTo s fd args (ps.zip us) → Vals vs us → sp vs H Q →
    codeAny (model P w) A (.call (.ref f) args) (fun r z => match r with | .ok (.ret u) => Made P w k outer H s Q u z | _ => False) s
/-- the surroundings of its body -/
abbrev xW (P : Program) (w : World) (K : PySem.W.Frag) (mg : Str → Option Value) (base : Heap) (N : List Str) (qual : Str) (scope : Scope) (f : Addr) (cd : Value) (A : Around) (outer : List Env) (s : Shared) (H : Hp) : Cx :=
  { gcxOf P w K mg base N qual scope f cd A outer s H (fun _ _ _ => False) [] with xe := fun _ _ => False }
theorem wfn_of {P : Program} {w : World} {K : PySem.W.Frag} {mg : Str → Option Value} {base : Heap} {k : Nat} {f : Addr} {name qual : Str} {params : Arguments} {scope : Scope} {dV kV doc pm cdv ct oc : Value} {an od : Option Addr}
    {osl : Array (Option Value)} {N ps : List Str} {sp : SpW} {x : Str} {xp yp p1 p2 p3 : Pos} {e : Expr} (lk : K.lookup f = some ⟨oc, od, .func (PySem.W.fnOf name qual params [.For (.Name x xp) e (gBody x yp p1 p2) [] p3] scope dV kV doc pm an cdv ct), osl⟩) (hcd : PySem.W.codeIn K cdv qual = true) (S : GScope N ps scope)
    (len : ∀ vs H Q, sp vs H Q → vs.length = ps.length) (hx : scope.names.lookup x = some .local) (hxd : (x == ("__debug__" : Str)) = false) (hi : ∀ env : Env, env.scope = scope → interactive env = false) (hs : ∀ (env : Env) (v : Value), foldedSetIterable e env v = pure v)
    (hbody : ∀ (A : Around) (outer : List Env) (s : Shared) (H : Hp) (vs : List V) (Q : List V → Hp → Prop), Room k (A.deeper (envOfC qual scope s.heap.objs.size f cdv)) → sp vs H Q →
      ∃ t, PE (xW P w K mg base N qual scope f cdv A outer s H) e t ∧ t (start N vs) H fun y H1 => ∃ l xs, y = .ref l ∧ H1 l = some (.lst xs) ∧ Q xs (hide H1 l)) :
    WFn P w K mg base (k + 1) f (PySem.W.fnOf name qual params [.For (.Name x xp) e (gBody x yp p1 p2) [] p3] scope dV kV doc pm an cdv ct) ps sp := by
  refine ⟨len, fun A outer s H args us vs Q hr e0 hb r hsp => ?_⟩
  refine codeAny_mono (codeAny_dead (R := fun r z => match r with | .ok (.ret u) => ∃ a g go c, u = .ref a ∧ MadeAt P w (k + 1) outer H s Q a g go c z | _ => False) ?_) fun r z hq => ?_
  rotate_left
  · obtain ⟨hd, hq⟩ := hq
    cases r with
    | error e => exact hq
    | ok fl =>
      cases fl with
      | ret u =>
        obtain ⟨a, g, go, c, e, q⟩ := hq
        exact ⟨a, g, go, c, e, q, hd⟩
      | next => exact hq
      | brk => exact hq
      | cont => exact hq
  have hl := len _ _ _ hsp
  have KX : K.In s.heap := e0.mod.kin.keeps fun b o e => (e0.bs b o e).1
  have lim0 : s.heap.NoLimit := e0.mod.nolimit.keeps fun b o e => (e0.bs b o e).1
  have kinds : ∀ y ∈ ps.zip us, scope.names.lookup y.1 = some .local ∨ (scope.names.lookup y.1 = some .cell ∧ ((cellsFrom (s.heap.objs.size + 1) scope.names []).lookup y.1).isSome = true) := by
    rintro ⟨n, v⟩ hy
    rcases S.par n (List.of_mem_zip hy).1 with q | q
    · exact .inl q
    · exact .inr ⟨q, PySem.W.cellsFrom_some _ _ _ (.inl q)⟩
  refine codeAny_call_generator hr.depth (KX _ _ lk) rfl S.co S.gen rfl (PySem.W.codeRec_of KX hcd) (hb _ _ _ _ ?_)
  refine wpAny_newFunctionEnv_cells S.kind kinds fun env he s1 y => ?_
  subst he
  have lim1 : s1.heap.NoLimit := lim0.keeps y.toInCall.keep
  refine ⟨lim1, ?_⟩
  obtain ⟨h1, tk, es1, hk1⟩ := y.done
  have os1 : s1.os = s.os := by rw [es1]
  have gen1 : s1.gens = s.gens := by rw [es1]
  have lt1 : s.heap.objs.size < s1.heap.objs.size := y.toInCall.ns.lt
  have kp1 : ∀ b o, s.heap.get? b = some o → s1.heap.get? b = some o := y.toInCall.keep
  have main : ∀ (go : Obj) (nm qn : Value) (tk2 : Nat), go.cls = .type "generator" → go.data = .fields #[.int s1.gens.size 0, nm, qn] → go.slots = #[] → (∀ h : Heap, (h.push go).get? h.objs.size = some go) →
      ∃ a2 g2 go2 c2, Value.ref s1.heap.objs.size = .ref a2 ∧ MadeAt P w (k + 1) outer H s Q a2 g2 go2 c2 { s1 with gens := s1.gens.push (.fresh (.func [.For (.Name x xp) e (gBody x yp p1 p2) [] p3] (envOfC qual scope s.heap.objs.size f cdv))), toks := tk2, heap := s1.heap.push go } := by
    intro go nm qn tk2 hc hd hsl hp
    have hd2 : ∀ v, go.data ≠ .cell v := fun v q => by rw [hd] at q; cases q
    have up : ∀ b o, s1.heap.get? b = some o → (s1.heap.push go).get? b = some o := fun b o e => Heap.get?_push_of_some _ e
    refine ⟨s1.heap.objs.size, s1.gens.size, go, _, rfl, lt1, ?_, hp _, fun h e => ⟨go, nm, qn, e, hc, hd, hsl⟩, hd2, hc, ⟨_, hd⟩, Array.getElem?_push_size .., os1, ?_, lim1.keeps up, fun b o e => up b o (kp1 b o e), ?_⟩
    · show _ < (s1.heap.push _).objs.size
      rw [Heap.size_push]; exact Nat.lt_succ_self _
    · exact AllBare.push (by rw [gen1]; exact e0.bare) rfl
    intro Aw z pl hrw hfr hk2 hos hba hpl
    have e0w : Env0 P w K mg base Aw outer s H := ⟨hfr, e0.mod, e0.bs, e0.bsz, e0.funs, e0.frf, e0.hok, e0.bare⟩
    obtain ⟨t, ht, hq⟩ := hbody Aw outer s H vs Q (hrw.deeper _) hsp
    have I1 : Inv (gcxOf P w K mg base N qual scope f cdv Aw outer s H (fun _ _ _ => False) []) [] (start N vs) H s1 := inv_startG S hrw.hd e0w hl r y
    have kp2 : ∀ b o, s1.heap.get? b = some o → z.heap.get? b = some o := fun b o e => hk2 b o (up b o e)
    have I2 : Inv (gcxOf P w K mg base N qual scope f cdv Aw outer s H (fun _ _ _ => False) []) [] (start N vs) H z :=
      I1.call' (ch := []) (hos.trans os1.symm) (Un.kept kp2) (I1.hok.kept kp2) hba fun b q => by simp at q
    have ne : (envOfC qual scope s.heap.objs.size f cdv).locals ≠ s1.heap.objs.size := Nat.ne_of_lt lt1
    have I3 : Inv (xW P w K mg base N qual scope f cdv Aw outer s H) ((s1.heap.objs.size, go) :: pl) (start N vs) H z := by
      refine (inv_xe I2).pins_of fun p hp2 => ?_
      rcases List.mem_cons.mp hp2 with rfl | hp2
      · exact ⟨hk2 _ go (hp _), I1.hok.fresh (Nat.le_refl _), Ne.symm ne, I1.nofs (Nat.le_refl _), hd2⟩
      · obtain ⟨g1, g2, g3⟩ := hpl p hp2
        have g1 : (s1.heap.push go).objs.size ≤ p.1 := g1
        rw [Heap.size_push] at g1
        have g4 : s1.heap.objs.size ≤ p.1 := Nat.le_of_succ_le g1
        exact ⟨g2, I1.hok.fresh g4, Nat.ne_of_gt (Nat.lt_of_lt_of_le lt1 g4), I1.nofs g4, g3⟩
    exact first_sg (X := xW P w K mg base N qual scope f cdv Aw outer s H) (fun _ _ q => q) over_func rfl rfl rfl ⟨S.kind, hx, S.co, hi _ rfl, hxd⟩ (hs _) hd2 ne I3 ht hq
  dsimp only
  exact main _ _ _ _ rfl rfl rfl fun h => Heap.get?_push_size _ rfl
end GW

namespace GW
open PySem PySem.Spec PyProof.Rows L2 GenW GT
def Go (M : Model) (A : Around) (Φ : PhiT) (Ψ : PsiT) : GenState → Shared → Prop
  | .fresh c, s => Sg M A Φ Ψ c (M.den c) [] s
  | .suspended k _ c _ fs _, s => Sg M A Φ Ψ c (k (.send .none)) fs s
  | _, _ => False
theorem ends_quiet {Φ : PhiT} {Ψ : PsiT} : ∀ {e : End} {z : Shared}, Ends Φ Ψ e z → e.quiet = true
  | .ret _, _, _ => rfl
  | .susp .., _, h => h.1
section
variable {α : Type} {M : Model} {A : Around} {Φ : PhiT} {Ψ : PsiT} {E : Value → Shared → Prop} {s : Shared} {g : Nat} {gs : GenState}
theorem resume_sg {l : List Value} {k : GenResult → Sem α} {Q : α → Shared → Prop} (hg : s.gens[g]? = some gs) (go : Go M A Φ Ψ gs (s.setGen g .running)) (hR : ∀ r z, Ψ r z → wpAny M A (k (End.ret r).result) Q E (z.setGen g .finished))
    (hY : ∀ v z kk l c p fs, Φ c kk fs v z → wpAny M A (k (.yielded v)) Q E (z.setGen g (.suspended kk l c p fs false))) : wpAny M A (.resume g (.send .none) l k) Q E s := by
  intro Γ p hΓ
  rw [Sem.wp_resume]
  have fin : ∀ e z, Ends Φ Ψ e z → Sem.wp M Γ (k e.result) (fun a _ s' => Q a s') (fun e _ s' => E e s') p (z.setGen g e.genState) := by
    intro e z he
    cases e with
    | ret r => exact hR r z he Γ p hΓ
    | susp v g0 l0 k0 c0 p0 fs0 =>
      have q : (g0 || fs0.any Frame.guarded) = false := by
        have := he.1
        simpa [End.quiet] using this
      show Sem.wp M Γ (k (.yielded v)) _ _ p (z.setGen g (.suspended k0 l0 c0 p0 fs0 (g0 || fs0.any Frame.guarded)))
      rw [q]
      exact hY v z k0 l0 c0 p0 fs0 he.2 Γ p hΓ
  cases gs with
  | fresh c =>
    obtain ⟨e, z, a, b⟩ := go (Γ.wake c p) p rfl (hΓ.wake c p)
    exact ⟨_, _, by unfold Wakes; rw [hg]; exact ⟨e, z, a, ends_quiet b, rfl, rfl⟩, fin e z b⟩
  | suspended k0 l0 c0 p0 fs0 cl =>
    obtain ⟨e, z, a, b⟩ := go (Γ.wake c0 p) p0 rfl (hΓ.wake c0 p)
    exact ⟨_, _, by unfold Wakes; rw [hg]; exact ⟨e, z, a, ends_quiet b, rfl, rfl⟩, fin e z b⟩
  | running => exact go.elim
  | finished => exact go.elim
end
section
variable {P : Program} {w : World} {A : Around} {Φ : PhiT} {Ψ : PsiT} {E : Value → Shared → Prop} {s : Shared}
/-- this is a StopIteration -/
def IsStop (e : Value) (z : Shared) : Prop := ∃ a o, e = .ref a ∧ z.heap.get? a = some o ∧ o.cls = .type "StopIteration"
theorem special_sg {a g : Nat} {gs : GenState} {Q : Option Value → Shared → Prop} (hh : A.handled = none) (hl : s.heap.NoLimit) (hroom : A.depth < recursionLimit) (hg : s.heap.IsGen a g) (hgs : s.gens[g]? = some gs) (hgo : Go (model P w) A.in1 Φ Ψ gs (s.setGen g .running))
    (hY : ∀ v z kk l c p fs, Φ c kk fs v z → Q (some v) (z.setGen g (.suspended kk l c p fs false)))
    (hP : ∀ r z, Ψ r z → r = .ok (.ret .none) ∧ ∀ h', (∀ b o, z.heap.get? b = some o → h'.get? b = some o) → Q none { z.setGen g .finished with heap := h' }) :
    wpAny (model P w) A (callSpecial? (.ref a) "__next__") (fun r z => ∃ v, r = some v ∧ Q (some v) z) (fun e z => IsStop e z ∧ Q none z) s := by
  refine wpAny_callSpecial?_slot (name := Str.ofString "__next__") hg.typeIs slot_gen_next (wpAny_call_entry slot_gen_next hg.typeIs entry_gen_next ?_ (args_gen_next _))
  show wpAny _ A.in1 (Builtin.Generator.genWake (.ref a) (.send .none)) _ _ s
  unfold Builtin.Generator.genWake
  refine (wpAny_bind (wpAny_holding (wpAny_genNumber hg (wpAny_bind (wpAny_genState hgs ?_)))))
  cases gs with
  | running => exact hgo.elim
  | finished => exact hgo.elim
  | _ =>
    refine wpAny_bind (wpAny_roomToWake hl hroom (resume_sg (k := _) hgs hgo (fun r z hr => ?_) (fun v z kk l c p fs hv => ?_)))
    · obtain ⟨er, hq⟩ := hP r z hr
      subst er
      show wpAny _ A.in1 (newExc (.type "StopIteration") [] >>= _) _ _ (z.setGen g .finished)
      refine (wpAny_bind ?_)
      simp only [newExc, newTuple]
      refine (wpAny_bind (wpAny_newObj_type ?_ (by size_fits)))
      refine (wpAny_bind (m := firstArgMember _ _) (wpAny_of_eq (a := Value.none) (by first | rfl | (simp only [firstArgMember]; rfl)) ?_))
      refine (wpAny_newObj_type ?_ (by size_fits))
      simp only [raiseNew]
      refine (wpAny_bind (wpAny_bind (wpAny_handled ?_)))
      rw [show A.in1.handled = none from hh]
      refine (wpAny_throw ?_)
      exact ⟨⟨_, _, rfl, Heap.get?_push_size _ rfl, rfl⟩, hq _ fun b o hb => Heap.get?_push_of_some _ (Heap.get?_push_of_some _ hb)⟩
    · exact wpAny_pure ⟨v, rfl, v, rfl, hY v z kk l c p fs hv⟩
theorem next_of {a : Addr} {Q : Option Value → Shared → Prop} (h : wpAny (model P w) A (callSpecial? (.ref a) "__next__") (fun r z => ∃ v, r = some v ∧ Q (some v) z) (fun e z => IsStop e z ∧ Q none z) s) : wpAny (model P w) A (pyNext (.ref a)) Q E s := by
  unfold pyNext
  refine wpAny_bind (wpAny_attempt (wpAny_mono h (fun r z q => ?_) fun e z q => ?_))
  · obtain ⟨v, rfl, q⟩ := q
    exact wpAny_pure q
  · obtain ⟨⟨b, o, rfl, ho, hc⟩, q⟩ := q
    refine wpAny_bind (wpAny_isInstance (T := "StopIteration") (b := true) ⟨o, ho, hc⟩ isSubtype_stop ?_)
    exact wpAny_pure q
theorem nextOf_of {a : Addr} {Q : Option Value → Shared → Prop} (h : wpAny (model P w) A (callSpecial? (.ref a) "__next__") (fun r z => ∃ v, r = some v ∧ Q (some v) z) (fun e z => IsStop e z ∧ Q none z) s) : wpAny (model P w) A (Builtin.SmallTypes.nextOf (.ref a)) (fun v z => Q (some v) z) (fun e z => IsStop e z ∧ Q none z) s := by
  unfold Builtin.SmallTypes.nextOf
  refine wpAny_bind (wpAny_mono h (fun r z q => ?_) fun e z q => q)
  obtain ⟨v, rfl, q⟩ := q
  exact wpAny_pure q
end
end GW

namespace GW
open PySem PySem.Spec PyProof.Rows L2 GenW GT
section
variable {X : Cx} {pins : List (Addr × Obj)} {σ : L2.St} {H : Hp} {s z : Shared}
theorem inv_chg {G : Array GenState} {it L : Addr} (I : Inv X pins σ H s) (os : z.os = s.os) (keep : ∀ b o, b ≠ it → b ≠ L → s.heap.get? b = some o → z.heap.get? b = some o) (f1 : FpOk X pins H it) (f2 : FpOk X pins H L) (bg : AllBare G) : Inv X pins σ H { z with gens := G } := by
  obtain ⟨hh, gg, d, t, o⟩ := z
  have ho : o = s.os := os
  subst ho
  have keep' : ∀ b ob, b ∉ [it, L] → s.heap.get? b = some ob → hh.get? b = some ob := fun b ob hb e => keep b ob (fun q => hb (by simp [q])) (fun q => hb (by simp [q])) e
  have trk : ∀ {b : Addr} {u : HO}, H b = some u → b ∉ [it, L] := fun {b u} e hb => by
    rcases List.mem_cons.mp hb with q | q
    · rw [q, f1.1] at e; cases e
    · rw [List.mem_singleton.mp q, f2.1] at e; cases e
  show Inv X pins σ H { s with heap := hh, gens := G, drawn := d, toks := t }
  refine I.step (g' := G) (t' := t) (d' := d) (ch := [it, L]) (fun b hb => ?_) (fun b ob _ _ hc e _ => keep' b ob hc e) (fun b ob _ _ hc e _ => ⟨ob.slots, keep' b ob hc e⟩) (fun _ _ _ _ n => n)
    (fun b ob hc e => ⟨ob, keep' b ob hc e⟩) (fun _ _ q => q) (fun _ _ _ q => q) (fun b ps q => ⟨#[], by rw [q]; simp⟩) (fun m hm => ?_) (fun b u e => ?_) bg
  · rcases List.mem_cons.mp hb with q | q
    · subst q
      exact ⟨f1.2.2.2.1, f1.2.1, f1.2.2.2.2.1, f1.2.2.2.2.2⟩
    · rw [List.mem_singleton.mp q]
      exact ⟨f2.2.2.2.1, f2.2.1, f2.2.2.2.2.1, f2.2.2.2.2.2⟩
  · obtain ⟨ob, es, ep, ho, r⟩ := hm
    exact ⟨ob, es, ep, keep _ ob (Ne.symm f1.2.1) (Ne.symm f2.2.1) ho, r⟩
  · refine (I.hok b u e).stay (fun c v hc q => keep' c v ?_ q) (fun _ q => q) fun _ _ q => q
    rcases hc with y | y
    · rw [y]; exact trk e
    · exact trk y
/-- it sleeps: i items are out, rest is to come -/
structure Slp (X : Cx) (pins : List (Addr × Obj)) (B : Around) (a g L : Nat) (go : Obj) (i : Nat) (rest : List V) (H : Hp) (s : Shared) : Prop where
  at' : s.heap.get? a = some go
  isG : ∀ h : Heap, h.get? a = some go → h.IsGen a g
  nc : ∀ v, go.data ≠ .cell v
  cls : go.cls = .type "generator"
  fld : ∃ vs, go.data = .fields vs
  fa : FpOk X pins H a
  fL : FpOk X pins H L
  ex : ∃ it l items us kk lv c p fs, s.gens[g]? = some (.suspended kk lv c p fs false) ∧ Asl (model X.prog X.w) B it l L items us i s.heap c kk fs ∧ Vals rest us ∧ FpOk X pins H it ∧ (H l = none ∧ l ≠ X.env.locals ∧ l ∉ X.fs ∧ ∀ p ∈ X.pn ++ pins, p.1 ≠ l) ∧ it ≠ a ∧ L ≠ a
/-- what must stay while it sleeps -/
theorem Slp.pinned {B : Around} {a g L i : Nat} {go : Obj} {rest : List V} (S : Slp X pins B a g L go i rest H s) (I : Inv X pins σ H s) : ∃ pl, Inv X (pins ++ pl) σ H s ∧
    ∀ {σ' : L2.St} {H' : Hp} {s' : Shared}, Inv X (pins ++ pl) σ' H' s' → (∀ (i : Nat) (y : GenState), s.gens[i]? = some y → asleep y = true → s'.gens[i]? = some y) → Slp X pins B a g L go i rest H' s' := by
  obtain ⟨s1, s2, s3, s4, s5, s6, s7, it, l, items, us, kk, lv, c, p, fs, e1, e2, e3, e4, e5, e6, e7⟩ := S
  have th := e2.own.there
  refine ⟨(a, go) :: pinsAt [it, l, L] s.heap, I.pins_of fun q hq => ?_, fun {σ' H' s'} J hg => ?_⟩
  · rcases List.mem_append.mp hq with hq | hq
    · exact I.pin q (List.mem_append_right _ hq)
    rcases List.mem_cons.mp hq with hq | hq
    · subst hq
      exact ⟨s1, s6.1, s6.2.1, s6.2.2.1, s3⟩
    · obtain ⟨hm, e⟩ := of_pinsAt hq
      have hm' : q.1 = it ∨ q.1 = l ∨ q.1 = L := by simpa using hm
      obtain ⟨o, f1, f2⟩ := th q.1 hm'
      rw [e] at f1
      cases f1
      rcases hm' with z | z | z <;> rw [z] <;> refine ⟨by rw [← z]; exact e, ?_⟩
      · exact ⟨e4.1, e4.2.1, e4.2.2.1, f2⟩
      · exact ⟨e5.1, e5.2.1, e5.2.2.1, f2⟩
      · exact ⟨s7.1, s7.2.1, s7.2.2.1, f2⟩
  · have pp : ∀ b, b = it ∨ b = l ∨ b = L → ∀ o, s.heap.get? b = some o → s'.heap.get? b = some o ∧ H' b = none := fun b hb o e => by
      obtain ⟨q1, q2, _⟩ := J.pin (b, o) (List.mem_append_right _ (List.mem_append_right _ (List.mem_cons_of_mem _ (mem_pinsAt (by simpa using hb) e))))
      exact ⟨q1, q2⟩
    have nn : ∀ b, b = it ∨ b = l ∨ b = L → H' b = none := fun b hb => by
      obtain ⟨o, f1, _⟩ := th b hb
      exact (pp b hb o f1).2
    obtain ⟨qa, qn, _⟩ := J.pin (a, go) (List.mem_append_right _ (List.mem_append_right _ (List.mem_cons_self ..)))
    refine ⟨qa, s2, s3, s4, s5, ⟨qn, s6.2⟩, ⟨nn _ (.inr (.inr rfl)), s7.2⟩, it, l, items, us, kk, lv, c, p, fs, hg _ _ e1 rfl, ?_, e3, ⟨nn _ (.inl rfl), e4.2⟩, ⟨nn _ (.inr (.inl rfl)), e5.2⟩, e6, e7⟩
    have sm : Same3 it l L s.heap s'.heap := fun b hb o e => (pp b hb o e).1
    cases us with
    | nil => exact ⟨e2.1.same sm, fun zz q => e2.2 zz fun b hb o e => q b hb o (sm b hb o e)⟩
    | cons u us => exact ⟨e2.1.same sm, fun zz q => e2.2 zz fun b hb o e => q b hb o (sm b hb o e)⟩
theorem setGen_here {s : Shared} {g : Nat} {y : GenState} (h : g < s.gens.size) : (s.setGen g y).gens[g]? = some y := setGen_at h
def NextIs (X : Cx) (pins : List (Addr × Obj)) (B : Around) (σ : L2.St) (a g L : Nat) (go : Obj) (i : Nat) (H : Hp) : List V → Option Value → Shared → Prop
  | [], r, z => r = none ∧ Inv X pins σ H z
  | x :: xs, r, z => ∃ u, r = some u ∧ RelV x u ∧ Inv X pins σ H z ∧ Slp X pins B a g L go (i + 1) xs H z
/-- the next item of one that sleeps -/
theorem slp_special {A0 : Around} {a g L i : Nat} {go : Obj} {rest : List V} (I : Inv X pins σ H s) (S : Slp X pins A0.in1 a g L go i rest H s) (hh : A0.handled = none) (hroom : A0.depth < recursionLimit) :
    wpAny (model X.prog X.w) A0 (callSpecial? (.ref a) "__next__") (fun r z => ∃ v, r = some v ∧ NextIs X pins A0.in1 σ a g L go i H rest (some v) z) (fun e z => IsStop e z ∧ NextIs X pins A0.in1 σ a g L go i H rest none z) s := by
  obtain ⟨s1, s2, s3, s4, s5, s6, s7, it, l, items, us, kk, lv, c, p, fs, e1, e2, e3, e4, e5, e6, e7⟩ := S
  have lt : g < s.gens.size := (Array.getElem?_eq_some_iff.mp e1).1
  have bare1 : AllBare (s.setGen g .running).gens := allBare_setGen I.bare rfl
  cases e3 with
  | nil =>
    refine special_sg (Φ := fun _ _ _ _ _ => False) (Ψ := fun r z' => r = .ok (.ret .none) ∧ Chg it L (s.setGen g .running) z') hh I.nolimit hroom (s2 _ s1) e1 (e2.2 (s.setGen g .running) fun _ _ _ e => e) (fun _ _ _ _ _ _ _ q => q.elim) fun r z q => ⟨q.1, fun h' hk => ⟨rfl, ?_⟩⟩
    have b2 : AllBare (z.setGen g .finished).gens := allBare_setGen (by rw [q.2.gens]; exact bare1) rfl
    exact inv_chg (z := { z with heap := h' }) I q.2.os (fun b o n1 n2 e => hk b o (q.2.keep b o n1 n2 e)) e4 s7 b2
  | cons rv rvs =>
    rename_i x u xs us
    refine special_sg (Φ := fun c' k' fs' v z' => v = u ∧ Chg it L (s.setGen g .running) z' ∧ Asl (model X.prog X.w) A0.in1 it l L items us (i + 1) z'.heap c' k' fs') (Ψ := fun _ _ => False) hh I.nolimit hroom (s2 _ s1) e1 (e2.2 (s.setGen g .running) fun _ _ _ e => e)
      (fun v z kk2 l2 c2 p2 fs2 q => ?_) fun _ _ q => q.elim
    obtain ⟨rfl, ch, asl⟩ := q
    have lt2 : g < z.gens.size := by
      rw [ch.gens]
      show g < (s.setGen g .running).gens.size
      rw [setGen_size]
      exact lt
    have b2 : AllBare (z.setGen g (.suspended kk2 l2 c2 p2 fs2 false)).gens := allBare_setGen (by rw [ch.gens]; exact bare1) rfl
    refine ⟨v, rfl, rv, inv_chg I ch.os ch.keep e4 s7 b2, ch.keep a go (Ne.symm e6) (Ne.symm e7) s1, s2, s3, s4, s5, s6, s7, it, l, items, us, kk2, l2, c2, p2, fs2, setGen_at lt2, asl, rvs, e4, e5, e6, e7⟩
theorem slp_next {a g L i : Nat} {go : Obj} {rest : List V} {E : Value → Shared → Prop} (I : Inv X pins σ H s) (S : Slp X pins X.A.in1 a g L go i rest H s) (hh : X.A.handled = none) (hroom : X.A.depth < recursionLimit) :
    wpAny (model X.prog X.w) X.A (pyNext (.ref a)) (NextIs X pins X.A.in1 σ a g L go i H rest) E s := next_of (slp_special I S hh hroom)
/-- the first item -/
def FirstIs (X : Cx) (pins : List (Addr × Obj)) (B : Around) (σ : L2.St) (a g L : Nat) (go : Obj) (Q : List V → Hp → Prop) (r : Option Value) (z : Shared) : Prop :=
  (r = none ∧ ∃ H', Inv X pins σ H' z ∧ Q [] H') ∨ ∃ u x xs H', r = some u ∧ RelV x u ∧ Inv X pins σ H' z ∧ Slp X pins B a g L go 1 xs H' z ∧ Q (x :: xs) H' ∧ (x :: xs).length ≤ sizeLine
theorem gsz_special {M : Model} {A : Around} {t : Sem (Option Value)} {Q : Option Value → Shared → Prop} {n : Nat} (hn : n ≤ s.gens.size) (h : wpAny M A t (fun r z => ∃ v, r = some v ∧ (n ≤ z.gens.size → Q (some v) z)) (fun e z => IsStop e z ∧ (n ≤ z.gens.size → Q none z)) s) :
    wpAny M A t (fun r z => ∃ v, r = some v ∧ Q (some v) z) (fun e z => IsStop e z ∧ Q none z) s :=
  wpAny_gsz (n := n) hn (wpAny_mono h (fun _ _ ⟨v, e, q⟩ l => ⟨v, e, q l⟩) fun _ _ ⟨e, q⟩ l => ⟨e, q l⟩)
theorem made_special {A0 : Around} {k a g : Nat} {go : Obj} {c : Code} {sc : Shared} {H1 : Hp} {Q : List V → Hp → Prop} (I : Inv X pins σ H1 sc) (m : MadeAt X.prog X.w k X.stack H1 sc Q a g go c s) (hr : Room (k + 1) A0) (hfr : A0.frames = some X.stack) :
    wpAny (model X.prog X.w) A0 (callSpecial? (.ref a) "__next__") (fun r z => ∃ v, r = some v ∧ FirstIs X pins A0.in1 σ a g sc.heap.objs.size go Q (some v) z) (fun e z => IsStop e z ∧ FirstIs X pins A0.in1 σ a g sc.heap.objs.size go Q none z) s := by
  have lt : g < s.gens.size := (Array.getElem?_eq_some_iff.mp m.gs).1
  have sg := m.run A0.in1 (s.setGen g .running) [] hr.in1 hfr (fun _ _ e => e) m.os (allBare_setGen m.bare rfl) (fun _ hp => by simp at hp)
  refine gsz_special (n := g + 1) lt (special_sg (Q := fun r z => g + 1 ≤ z.gens.size → FirstIs X pins A0.in1 σ a g sc.heap.objs.size go Q r z) (Φ := FirstY X.prog X.w A0.in1 X.stack H1 sc sc.heap.objs.size a go [] Q) (Ψ := FirstE X.prog X.w X.stack H1 sc [] Q) hr.hd m.lim (by have := hr.dp; omega) (m.isG _ m.at') m.gs sg (fun v z kk l0 c0 p0 fs0 q => ?_) fun r z q => ⟨q.res, fun h' hk => ?_⟩)
  · intro hsz
    have lt2 : g < z.gens.size := by
      have h2 : g + 1 ≤ (z.setGen g (.suspended kk l0 c0 p0 fs0 false)).gens.size := hsz
      rw [setGen_size] at h2
      omega
    obtain ⟨q1, q2, q3, q4, _, H', x, xs, u, us, it, l, items, un, hok, ⟨n1, n2, n3, n4⟩, big, ⟨d1, d2, d3, d4, d5⟩, old, vals, rfl, hQ, len, asl, _⟩ := q
    have b2 : AllBare (z.setGen g (.suspended kk l0 c0 p0 fs0 false)).gens := allBare_setGen q2 rfl
    have J : Inv X pins σ H' (z.setGen g (.suspended kk l0 c0 p0 fs0 false)) := I.call' (ch := []) q1 un hok b2 fun b q => by simp at q
    cases vals with
    | cons rv rvs =>
      refine .inr ⟨v, x, xs, H', rfl, rv, J, ⟨q4, m.isG, m.nc, m.cls, m.fld, I.fpOk (Nat.le_of_lt m.big) n4, I.fpOk (Nat.le_refl _) n3, it, l, items, us, kk, l0, c0, p0, fs0, setGen_at lt2, asl, rvs, I.fpOk big n1, ⟨n2, ?_, ?_, fun p hp => old p.1 p.2 (I.pin p hp).1 (I.pin p hp).2.1⟩, d4, ?_⟩, hQ, len⟩
      · intro h
        obtain ⟨mm, ⟨o, _, _, ho, _⟩, _⟩ := I.loc
        exact old _ o ho I.free h.symm
      · intro h
        obtain ⟨_, o, ho, _⟩ := I.ok.funs.mem h
        obtain ⟨sl, e1⟩ := I.base.slot l o ho (I.ok.frf l h) h (fun hx => I.ok.exfs l hx h)
        exact old l _ e1 (I.base.free l o ho (I.ok.frf l h) (fun hx => I.ok.exfs l hx h)) rfl
      · exact Nat.ne_of_lt m.big
  · intro _
    obtain ⟨H', un, hok, hQ, _⟩ := q.ex
    have b2 : AllBare (z.setGen g .finished).gens := allBare_setGen q.bare rfl
    exact .inl ⟨rfl, H', I.call' (s' := { z.setGen g .finished with heap := h' }) (ch := []) q.os (un.trans (Un.kept hk)) (hok.kept hk) b2 (fun b q => by simp at q), hQ⟩
theorem made_next {k a g : Nat} {go : Obj} {c : Code} {sc : Shared} {H1 : Hp} {Q : List V → Hp → Prop} {E : Value → Shared → Prop} (I : Inv X pins σ H1 sc) (m : MadeAt X.prog X.w k X.stack H1 sc Q a g go c s) (hr : Room (k + 1) X.A) :
    wpAny (model X.prog X.w) X.A (pyNext (.ref a)) (FirstIs X pins X.A.in1 σ a g sc.heap.objs.size go Q) E s := next_of (made_special I m hr I.ok.frames)
end
end GW

namespace GW
open PySem PySem.Spec PyProof.Rows L2 GenW GT
abbrev TMade := L2.St → Hp → (List V → Hp → Prop) → Prop
/-- an expression whose value is such a generator, not begun -/
structure PMade (X : Cx) (k : Nat) (e : Expr) (t : TMade) : Prop where
  run : ∀ (pins : List (Addr × Obj)) (s : Shared) (σ : L2.St) (H : Hp) (cont : List V → Hp → Prop), Inv X pins σ H s → t σ H cont → wpAny (model X.prog X.w) X.A (eval e X.env) (fun u z => ∃ H1 sc, Inv X pins σ H1 sc ∧ Made X.prog X.w k X.stack H1 sc cont u z) X.xe s
def tCallW (sp : SpW) (t : TA) : TMade := fun σ H cont => t σ H fun vs H1 => sp vs H1 cont
def quietX (X : Cx) : Cx := { X with xe := fun _ _ => False }
theorem bare_cut {s : Shared} (h : AllBare s.gens) : AllBare (cutS s).gens := fun y hy => by
  obtain ⟨x, hx, rfl⟩ := Array.mem_map.mp hy
  rw [cut_bare]
  exact h x hx
section
variable {X : Cx} {pins : List (Addr × Obj)} {σ : L2.St} {H : Hp} {s z : Shared}
theorem inv_cut (I : Inv X pins σ H s) : Inv (quietX X) pins σ H (cutS s) := inv_gens (inv_xe I) (bare_cut I.bare)
theorem inv_wake {G : Array GenState} (I : Inv (quietX X) pins σ H { z with gens := G }) (hb : AllBare s.gens) (k : Kept s z G) : Inv X pins σ H z := by
  have J : Inv X pins σ H { z with gens := G } := inv_ex I
  have J2 : Inv X pins σ H { ({ z with gens := G } : Shared) with gens := z.gens } := inv_gens J (k.bare hb I.bare)
  exact J2
variable {k : Nat} {e : Expr} {es : List Expr} {f : Addr} {fd : FuncData} {ps : List Str} {sp : SpW} {x : Str} {p pos pos' : Pos} {t : TA}
theorem pmade_call (F : WFn X.prog X.w X.K X.mg X.base k f fd ps sp) (hr : Room k X.A) (hg : Gl X x) (hm : X.mg x = some (.ref f)) (hk : PySem.W.keepIn X.K (.ref f) = true) (hb : Binds X.K fd ps []) (ha : PA X (e :: es) t)
    (hdb : (x == ("__debug__" : Str)) = false := by decide) (he : starEach (e :: es) X.env = (false, eval e X.env) :: starEach es X.env := by rfl) (hpl : (backTo pos' (starEach es X.env)).any (·.1) = false := by rfl) : PMade X k (.Call (.Name x p) (e :: es) [] pos') (tCallW sp t) := by
  refine ⟨fun pins s σ H cont I h => wpAny_Call_Name_kw (ld_glob I hg hm ?_ hdb)⟩
  refine PySem.W.callWith_K (h₀ := X.base) I.ok.mod.kin hk (thn (ha.run pos' pins s σ H _ I h) fun us z ⟨vs, H1, I1, r, q⟩ => ⟨I1.kIn, ?_⟩) he hpl
  have len : (us ++ []).length = ps.length := by rw [List.append_nil, ← r.length]; exact F.len _ _ _ q
  refine wpAny_call (codeAny_mono (F.run X.A X.stack z H1 ⟨us, []⟩ (us ++ []) vs cont hr I1.env0 (hb z us I1.kIn len) (by rw [List.append_nil]; exact r) q) fun r y hq => ?_)
  cases r with
  | error e => exact hq.elim
  | ok fl =>
    cases fl with
    | ret u => exact ⟨H1, z, I1, hq⟩
    | next => exact hq.elim
    | brk => exact hq.elim
    | cont => exact hq.elim
def tForW (t : TMade) (g : TG) (tb : TS) : TS := fun D σ H => t σ H fun xs H1 => ∃ W : Nat → L2.St → Hp → Prop, W 0 σ H1 ∧
  (∀ i σ H x, W i σ H → xs[i]? = some x → g x σ H fun σ2 H2 => tb { D with nx := W (i + 1), ct := W (i + 1), bk := D.nx } σ2 H2) ∧ ∀ σ H, W xs.length σ H → D.nx σ H
/-- a for over such a generator -/
theorem ps_forW {tg iter : Expr} {body : List Stmt} {tm : TMade} {g : TG} {tb : TS} (hp : PassesOwn (model X.prog X.w) X.A X.env X.xe) (hr : Room (k + 1) X.A) (hi : PMade X k iter tm) (hg : PG (quietX X) tg g) (hb : PSs (quietX X) body tb)
    (hs : ∀ x, foldedSetIterable iter X.env x = pure x := by intro _; rfl) : PS X (.For tg iter body [] pos) (tForW tm g tb) := by
  refine ⟨fun pins s σ H D I h => wpAny_For (thn (hi.run pins s σ H _ I h) fun v z ⟨H1, sc, I1, a, g0, go, c, ev, m, dead0⟩ => ?_) hs⟩
  subst ev
  refine wpAny_pyIter_gen (m.isG _ m.at') ?_
  have hroom : X.A.depth < recursionLimit := by have := hr.dp; omega
  refine codeAny_forLoop_any (fun n s' => (n = sizeLine + 2 ∧ s' = z) ∨ ∃ (xs : List V) (W : Nat → L2.St → Hp → Prop) (i : Nat) (σ' : L2.St) (H' : Hp),
    ((∀ i σ H x, W i σ H → xs[i]? = some x → g x σ H fun σ2 H2 => tb { D with nx := W (i + 1), ct := W (i + 1), bk := D.nx } σ2 H2) ∧ ∀ σ H, W xs.length σ H → D.nx σ H) ∧ i ≤ xs.length ∧ n = xs.length - i + 1 ∧
    Inv X pins σ' H' s' ∧ W i σ' H' ∧ Slp X pins X.A.in1 a g0 sc.heap.objs.size go i (xs.drop i) H' s') ?_ (sizeLine + 2) (.inl ⟨rfl, rfl⟩)
  -- an item has come
  have common : ∀ (n : Nat) (xs : List V) (W : Nat → L2.St → Hp → Prop) (i : Nat) (x : V) (u : Value) (σ' : L2.St) (H' : Hp) (s5 : Shared), (∀ i σ H x, W i σ H → xs[i]? = some x → g x σ H fun σ2 H2 => tb { D with nx := W (i + 1), ct := W (i + 1), bk := D.nx } σ2 H2) →
      (∀ σ H, W xs.length σ H → D.nx σ H) → xs[i]? = some x → xs.length - (i + 1) + 1 < n → RelV x u → Inv X pins σ' H' s5 → W i σ' H' → Slp X pins X.A.in1 a g0 sc.heap.objs.size go (i + 1) (xs.drop (i + 1)) H' s5 →
      wpAny (model X.prog X.w) X.A (letOwnedTupleGo tg (.ref a) u) (fun _ z1 => wpAny (model X.prog X.w) X.A (assign tg X.env u) (fun _ z2 => wpAny (model X.prog X.w) X.A (execs body X.env) (fun f z3 => match f with
            | .next | .cont => ∃ m, m < n ∧ ((m = sizeLine + 2 ∧ z3 = z) ∨ ∃ (xs : List V) (W : Nat → L2.St → Hp → Prop) (i : Nat) (σ' : L2.St) (H' : Hp),
    ((∀ i σ H x, W i σ H → xs[i]? = some x → g x σ H fun σ2 H2 => tb { D with nx := W (i + 1), ct := W (i + 1), bk := D.nx } σ2 H2) ∧ ∀ σ H, W xs.length σ H → D.nx σ H) ∧ i ≤ xs.length ∧ m = xs.length - i + 1 ∧
    Inv X pins σ' H' z3 ∧ W i σ' H' ∧ Slp X pins X.A.in1 a g0 sc.heap.objs.size go i (xs.drop i) H' z3)
            | .brk => SP X pins D .next z3
            | .ret v => SP X pins D (.ret v) z3) (notedBy (model X.prog X.w) X.A X.env fun e s' => cameBackBy (model X.prog X.w) X.A X.env X.xe e s') z2) (notedBy (model X.prog X.w) X.A X.env fun e s' => cameBackBy (model X.prog X.w) X.A X.env X.xe e s') z1) (notedBy (model X.prog X.w) X.A X.env fun e s' => cameBackBy (model X.prog X.w) X.A X.env X.xe e s') s5 := by
    intro n xs W i x u σ' H' s5 step fin hx hn ru I5 w5 S
    obtain ⟨vs, hf⟩ := S.fld
    refine go_of (n := "generator") S.at' S.cls hf (by decide) ?_
    obtain ⟨pl, J, back⟩ := S.pinned I5
    have ga : wpAny (model X.prog X.w) X.A (assign tg X.env u) _ (fun _ _ => False) (cutS s5) := hg.run (pins ++ pl) (cutS s5) σ' H' x u _ (inv_cut J) ru (step i σ' H' x w5 hx)
    refine wpAny_mono (wpAny_sleep ga) (fun _ s6 q6 => ?_) fun _ _ ⟨_, _, q⟩ => q.elim
    obtain ⟨G6, k6, σ6, H6, I6, q6⟩ := q6
    have J6 := inv_wake I6 J.bare k6
    have gb : wpAny (model X.prog X.w) X.A (execs body X.env) _ (fun _ _ => False) (cutS s6) := hb.run (pins ++ pl) (cutS s6) σ6 H6 _ (inv_cut J6) q6
    refine wpAny_mono (wpAny_sleep gb) (fun f s7 q7 => ?_) fun _ _ ⟨_, _, q⟩ => q.elim
    obtain ⟨G7, k7, q7⟩ := q7
    have turn : ∀ {σ7 : L2.St} {H7 : Hp}, Inv (quietX X) (pins ++ pl) σ7 H7 { s7 with gens := G7 } → W (i + 1) σ7 H7 → ∃ m, m < n ∧ ((m = sizeLine + 2 ∧ s7 = z) ∨ ∃ (xs : List V) (W : Nat → L2.St → Hp → Prop) (i : Nat) (σ' : L2.St) (H' : Hp),
        ((∀ i σ H x, W i σ H → xs[i]? = some x → g x σ H fun σ2 H2 => tb { D with nx := W (i + 1), ct := W (i + 1), bk := D.nx } σ2 H2) ∧ ∀ σ H, W xs.length σ H → D.nx σ H) ∧ i ≤ xs.length ∧ m = xs.length - i + 1 ∧
        Inv X pins σ' H' s7 ∧ W i σ' H' ∧ Slp X pins X.A.in1 a g0 sc.heap.objs.size go i (xs.drop i) H' s7) := fun {σ7 H7} I7 w7 => by
      have J7 := inv_wake I7 J6.bare k7
      have lt : i < xs.length := (List.getElem?_eq_some_iff.mp hx).1
      exact ⟨_, hn, .inr ⟨xs, W, i + 1, σ7, H7, ⟨step, fin⟩, lt, rfl, J7.unpinned, w7, back J7 fun i y e a => k7.at' i y (k6.at' i y e a) a⟩⟩
    cases f with
    | next => obtain ⟨σ7, H7, I7, w7⟩ := q7; exact turn I7 w7
    | cont => obtain ⟨σ7, H7, I7, w7⟩ := q7; exact turn I7 w7
    | brk => obtain ⟨σ7, H7, I7, w7⟩ := q7; exact ⟨σ7, H7, (inv_wake I7 J6.bare k7).unpinned, w7⟩
    | ret v => obtain ⟨x7, σ7, H7, I7, r7, w7⟩ := q7; exact ⟨x7, σ7, H7, (inv_wake I7 J6.bare k7).unpinned, r7, w7⟩
  rintro n s3 (⟨rfl, rfl⟩ | ⟨xs, W, i, σ3, H3, ⟨step, fin⟩, hi3, rfl, I3, w3, S3⟩)
  · refine wpAny_passesOwn hp (wpAny_mono (made_next (E := X.xe) I1 m hr) (fun r z1 q => ?_) fun _ _ e => e)
    rcases q with ⟨rfl, H', J, W, w0, step, fin⟩ | ⟨u, x, xs, H', rfl, ru, J, S, ⟨W, w0, step, fin⟩, len⟩
    · exact wpAny_execs_nil ⟨σ, H', J, fin σ H' w0⟩
    · exact common _ (x :: xs) W 0 x u σ H' z1 step fin rfl (by simp only [List.length_cons] at len ⊢; omega) ru J w0 S
  · refine wpAny_passesOwn hp (wpAny_mono (slp_next (E := X.xe) I3 S3 hr.hd hroom) (fun r z1 q => ?_) fun _ _ e => e)
    cases hd : xs.drop i with
    | nil =>
      rw [hd] at q
      obtain ⟨rfl, J⟩ := q
      have : i = xs.length := Nat.le_antisymm hi3 (List.drop_eq_nil_iff.mp hd)
      subst this
      exact wpAny_execs_nil ⟨σ3, H3, J, fin σ3 H3 w3⟩
    | cons x rest =>
      rw [hd] at q
      obtain ⟨u, rfl, ru, J, S⟩ := q
      have hx : xs[i]? = some x := by
        have := congrArg List.head? hd
        rw [List.head?_drop] at this
        simpa using this
      have hrest : xs.drop (i + 1) = rest := by
        have := congrArg List.tail hd
        rw [List.tail_drop] at this
        simpa using this
      have lt : i < xs.length := (List.getElem?_eq_some_iff.mp hx).1
      exact common _ xs W i x u σ3 H3 z1 step fin hx (by omega) ru J w3 (by rw [hrest]; exact S)
end
end GW

namespace GW
open PySem PySem.Spec PyProof.Rows L2 GenW GT
theorem push_back {h : Heap} {o o1 : Obj} {b : Addr} (e : (h.push o).get? b = some o1) (n : b ≠ h.objs.size) : h.get? b = some o1 := by
  rcases Heap.get?_push_cases e with ⟨q, _⟩ | q
  · exact absurd q n
  · exact q
theorem no_cells : ∀ {names : List (Str × NameKind)} {h : Heap}, (∀ y ∈ names, y.2 ≠ .cell) → pushCells h names = h
  | [], _, _ => rfl
  | (y, k) :: r, h, q => by
    unfold pushCells
    have n : (k == NameKind.cell) = false := by
      have := q (y, k) (List.mem_cons_self ..)
      cases k <;> first | rfl | exact absurd rfl this
    rw [n]
    exact no_cells fun z hz => q z (List.mem_cons_of_mem _ hz)
def tLcW (tm : TMade) (g : TG) (tt : TT) (te : TE) (vs : List Nat) : TE := fun σ H Q => tm σ H fun xs H1 => ∀ D, H1 D = none → ∃ W : Nat → Hp → Prop, W 0 (upd H1 D (.lst [])) ∧
  (∀ i H x, W i H → xs[i]? = some x → g x (wipe σ vs) H fun σ2 H2 => wipe σ2 vs = wipe σ vs ∧ tt σ2 H2 fun b H3 => if b = true then te σ2 H3 fun y H4 => ∃ acc, H4 D = some (.lst acc) ∧ acc.length < sizeLine ∧ W (i + 1) (upd H4 D (.lst (acc ++ [y]))) else W (i + 1) H3) ∧
  ∀ H, W xs.length H → Q (.ref D) H
theorem asleep_run {α : Type} {M : Model} {A : Around} {t : Sem α} {Q Q' : α → Shared → Prop} {E : Value → Shared → Prop} {s : Shared} (h : wpAny M A t Q (fun _ _ => False) (cutS s)) (k : ∀ a s' G, Kept s s' G → Q a { s' with gens := G } → Q' a s') : wpAny M A t Q' E s :=
  wpAny_mono (wpAny_sleep h) (fun a s' ⟨G, q1, q2⟩ => k a s' G q1 q2) fun _ _ ⟨_, _, q⟩ => q.elim
section
variable {X : Cx} {pins : List (Addr × Obj)} {σ : L2.St} {H : Hp} {s z : Shared}
/-- where a block has begun behind the call: D its list, C its names -/
structure Blk0 (X : Cx) (sc z s4 : Shared) (H1 : Hp) (scope : Scope) (ce : Env) (fp : List Addr) (σb : L2.St) (D C : Addr) : Prop where
  I : Inv (X.blk { z with heap := z.heap.push { cls := .type "list", data := .seq ([] : List Value).toArray } } (upd H1 D (.lst [])) scope ce fp) [] σb (upd H1 D (.lst [])) s4
  eD : D = z.heap.objs.size
  eC : C = z.heap.objs.size + 1
  loc : ce.locals = C
  heap : s4.heap = (z.heap.push { cls := .type "list", data := .seq ([] : List Value).toArray }).push { cls := .type "dict", data := .dict #[] }
  gens : s4.gens = z.gens
  os : s4.os = z.os
  mem : ∀ b, b ∈ fp ↔ sc.heap.objs.size ≤ b ∧ b < z.heap.objs.size
def FirstB (Xb : Cx) (B : Around) (σb : L2.St) (a g L D : Nat) (go : Obj) (Q : List V → Hp → Prop) (r : Option Value) (z1 : Shared) : Prop :=
  (r = none ∧ ∃ H', Inv Xb [] σb (upd H' D (.lst [])) z1 ∧ H' D = none ∧ Q [] H') ∨
    ∃ u x xs H', r = some u ∧ RelV x u ∧ Inv Xb [] σb (upd H' D (.lst [])) z1 ∧ H' D = none ∧ Slp Xb [] B a g L go 1 xs (upd H' D (.lst [])) z1 ∧ Q (x :: xs) H' ∧ (x :: xs).length ≤ sizeLine
theorem made_nextB {k a g : Nat} {go : Obj} {c : Code} {sc s4 : Shared} {H1 : Hp} {Q : List V → Hp → Prop} {scope : Scope} {ce : Env} {fp : List Addr} {σb : L2.St} {D C : Addr} (I : Inv X pins σ H1 sc) (m : MadeAt X.prog X.w k X.stack H1 sc Q a g go c z) (dead : Dead sc z) (B : Blk0 X sc z s4 H1 scope ce fp σb D C) (hr : Room (k + 1) X.A) :
    wpAny (model X.prog X.w) X.A (pyNext (.ref a)) (FirstB (X.blk { z with heap := z.heap.push { cls := .type "list", data := .seq ([] : List Value).toArray } } (upd H1 D (.lst [])) scope ce fp) X.A.in1 σb a g sc.heap.objs.size D go Q) (fun _ _ => False) s4 := by
  obtain ⟨I4, eD, eC, loc, hp, gens4, os4, hfp⟩ := B
  have zs : sc.heap.objs.size ≤ z.heap.objs.size := dead.le
  have k4 : ∀ b o, z.heap.get? b = some o → s4.heap.get? b = some o := fun b o e => by rw [hp]; exact Heap.get?_push_of_some _ (Heap.get?_push_of_some _ e)
  have sz1 : (z.heap.push { cls := .type "list", data := .seq ([] : List Value).toArray }).objs.size = z.heap.objs.size + 1 := Heap.size_push ..
  have d4 : s4.heap.get? D = some (lstObj #[] 0) := by rw [hp, eD]; exact Heap.get?_push_of_some _ (Heap.get?_push_size _ rfl)
  have c4 : s4.heap.get? C = some { cls := .type "dict", data := .dict #[] } := by rw [hp, eC, ← sz1]; exact Heap.get?_push_size _ rfl
  have size4 : s4.heap.objs.size = C + 1 := by rw [hp, Heap.size_push, sz1, eC]
  have H1D : H1 D = none := I.hok.fresh (by rw [eD]; exact zs)
  have H1C : H1 C = none := I.hok.fresh (by rw [eC]; exact Nat.le_succ_of_le zs)
  have DC : D ≠ C := by rw [eD, eC]; exact Nat.ne_of_lt (Nat.lt_succ_self _)
  -- an old thing of the block's heap is an old thing of the call's
  have back : ∀ b o, s4.heap.get? b = some o → b ∉ fp → b ≠ D → b ≠ C → sc.heap.get? b = some o := fun b o e nf nD nC => by
    rw [hp] at e
    have e1 := push_back e (by rw [sz1, ← eC]; exact nC)
    have e2 := push_back e1 (by rw [← eD]; exact nD)
    have lt : b < z.heap.objs.size := Heap.lt_size e2
    have lt2 : b < sc.heap.objs.size := by
      by_cases q : sc.heap.objs.size ≤ b
      · exact absurd ((hfp b).mpr ⟨q, lt⟩) nf
      · exact Nat.lt_of_not_le q
    cases r : sc.heap.get? b with
    | none => rw [dead.at' b lt2 r] at e2; cases e2
    | some o' =>
      have := m.keep b o' r
      rw [e2] at this
      exact this.symm
  have lt : g < s4.gens.size := by rw [gens4]; exact (Array.getElem?_eq_some_iff.mp m.gs).1
  have pl : ∀ p ∈ [(D, lstObj #[] 0), (C, ({ cls := .type "dict", data := .dict #[] } : Obj))], z.heap.objs.size ≤ p.1 ∧ (s4.setGen g .running).heap.get? p.1 = some p.2 ∧ ∀ v, p.2.data ≠ .cell v := fun p hp => by
    rcases List.mem_cons.mp hp with rfl | hp
    · exact ⟨by rw [eD]; exact Nat.le_refl _, d4, fun v q => nomatch q⟩
    · rw [List.mem_singleton.mp hp]
      exact ⟨by show z.heap.objs.size ≤ C; rw [eC]; omega, c4, fun v q => nomatch q⟩
  have sg := m.run X.A.in1 (s4.setGen g .running) [(D, lstObj #[] 0), (C, ({ cls := .type "dict", data := .dict #[] } : Obj))] hr.in1 I.ok.frames k4 (os4.trans m.os) (allBare_setGen (by rw [gens4]; exact m.bare) rfl) pl
  -- what the call and its first stretch leave, for the block
  have bring : ∀ {H' : Hp} {zz : Shared} {G : Array GenState}, zz.os = sc.os → AllBare G → Un (frs X.stack) [] H1 H' sc.heap zz.heap → HOk X.prog X.w H' zz.heap → zz.heap.get? D = some (lstObj #[] 0) → zz.heap.get? C = some { cls := .type "dict", data := .dict #[] } → H' D = none → H' C = none →
      Inv (X.blk { z with heap := z.heap.push { cls := .type "list", data := .seq ([] : List Value).toArray } } (upd H1 D (.lst [])) scope ce fp) [] σb (upd H' D (.lst [])) { zz with gens := G } := fun {H' zz G} os bare un hok gD gC nD nC => by
    refine I4.call' (ch := fp) (s' := { zz with gens := G }) (os.trans (os4.trans m.os).symm) ⟨fun b o e n nf nx => ?_, fun b o e n hf nx => ?_, fun b o e n nx => ?_, fun b o e nx => ?_, fun b xs e => ?_, fun b o u e => ?_, fun b ps e => ?_⟩ (fun b u e => ?_) bare fun b hb => ?_
    · have bD : b ≠ D := fun q => by rw [q, upd_same] at n; cases n
      rw [upd_ne bD] at n
      by_cases bC : b = C
      · rw [bC, c4] at e
        cases e
        rw [bC]
        exact gC
      · exact un.keep b o (back b o e nx bD bC) n nf (by simp)
    · have bD : b ≠ D := fun q => by rw [q, upd_same] at n; cases n
      rw [upd_ne bD] at n
      by_cases bC : b = C
      · rw [bC] at hf
        exact absurd hf fun hf => by
          obtain ⟨_, o1, h1, _⟩ := I4.ok.funs.mem hf
          have l1 : C < (z.heap.push { cls := .type "list", data := .seq ([] : List Value).toArray }).objs.size := Heap.lt_size h1
          rw [sz1, eC] at l1
          exact Nat.lt_irrefl _ l1
      · exact un.slot b o (back b o e nx bD bC) n hf (by simp)
    · have bD : b ≠ D := fun q => by rw [q, upd_same] at n; cases n
      rw [upd_ne bD] at n ⊢
      by_cases bC : b = C
      · rw [bC]; exact nC
      · exact un.free b o (back b o e nx bD bC) n (by simp)
    · by_cases bD : b = D
      · exact ⟨_, by rw [bD]; exact gD⟩
      by_cases bC : b = C
      · exact ⟨_, by rw [bC]; exact gC⟩
      · exact un.there b o (back b o e nx bD bC) (by simp)
    · have bD : b ≠ D := fun q => by rw [q, upd_same] at e; cases e
      rw [upd_ne bD] at e ⊢
      exact un.tups b xs e
    · have bD : b ≠ D := fun q => by rw [q, upd_same] at e; cases e
      rw [upd_ne bD] at e ⊢
      exact un.frzs b o u e
    · have bD : b ≠ D := fun q => by rw [q, upd_same] at e; cases e
      rw [upd_ne bD] at e ⊢
      exact un.tbls b ps e
    · by_cases bD : b = D
      · subst bD
        rw [upd_same] at e
        cases e
        exact ⟨Nat.zero_le _, [], 0, .nil, gD⟩
      · rw [upd_ne bD] at e
        exact (hok b u e).stay (fun _ _ _ q => q) (fun d q => by rw [upd_ne (ne_of_none q nD)]; exact q) fun d xs q => by rw [upd_ne (ne_of_none q nD)]; exact q
    · exact ⟨.inl hb, (I4.ok.exf b hb).1, fun y c e => (I4.ok.exf b hb).2 y c e, fun p hp => absurd (show p ∈ ([] : List (Addr × Obj)) ++ [] from hp) (by simp)⟩
  have exB : ∀ {Hx : Hp} {b : Addr}, b ∈ fp → Hx b = none → FpOk (X.blk { z with heap := z.heap.push { cls := .type "list", data := .seq ([] : List Value).toArray } } (upd H1 D (.lst [])) scope ce fp) [] Hx b := fun {Hx b} hb hn =>
    ⟨hn, (I4.ok.exf b hb).1, I4.ok.exfs b hb, .inl hb, fun y c e => (I4.ok.exf b hb).2 y c e, fun p hp => absurd (show p ∈ ([] : List (Addr × Obj)) ++ [] from hp) (by simp)⟩
  refine next_of (gsz_special (n := g + 1) lt (special_sg (gs := .fresh c) (Q := fun r z1 => g + 1 ≤ z1.gens.size → FirstB (X.blk { z with heap := z.heap.push { cls := .type "list", data := .seq ([] : List Value).toArray } } (upd H1 D (.lst [])) scope ce fp) X.A.in1 σb a g sc.heap.objs.size D go Q r z1) (Φ := FirstY X.prog X.w X.A.in1 X.stack H1 sc sc.heap.objs.size a go [(D, lstObj #[] 0), (C, ({ cls := .type "dict", data := .dict #[] } : Obj))] Q) (Ψ := FirstE X.prog X.w X.stack H1 sc [(D, lstObj #[] 0), (C, ({ cls := .type "dict", data := .dict #[] } : Obj))] Q) hr.hd
    I4.nolimit (by have := hr.dp; omega) (m.isG _ (k4 _ _ m.at')) (by rw [gens4]; exact m.gs) sg (fun v zz kk l0 c0 p0 fs0 q => ?_) fun r zz q => ⟨q.res, fun h' hk => ?_⟩))
  · intro hsz
    have lt2 : g < zz.gens.size := by
      have h2 : g + 1 ≤ (zz.setGen g (.suspended kk l0 c0 p0 fs0 false)).gens.size := hsz
      rw [setGen_size] at h2
      omega
    obtain ⟨q1, q2, q3, q4, q5, H', x, xs, u, us, it, l, items, un, hok, ⟨n1, n2, n3, n4⟩, big, ⟨d1, d2, d3, d5, d6⟩, old, vals, rfl, hQ, len, asl, hpl⟩ := q
    have gD : zz.heap.get? D = some (lstObj #[] 0) := q5 (D, lstObj #[] 0) (by simp)
    have gC : zz.heap.get? C = some { cls := .type "dict", data := .dict #[] } := q5 (C, { cls := .type "dict", data := .dict #[] }) (by simp)
    obtain ⟨nD, ltD, lD⟩ := hpl (D, lstObj #[] 0) (by simp)
    obtain ⟨nC, ltC, lC⟩ := hpl (C, { cls := .type "dict", data := .dict #[] }) (by simp)
    have nD : H' D = none := nD
    have nC : H' C = none := nC
    have ltC : C < it := ltC
    have lC : C ≠ l := lC
    have lD : D ≠ l := lD
    have b2 : AllBare (zz.setGen g (.suspended kk l0 c0 p0 fs0 false)).gens := allBare_setGen q2 rfl
    have J := bring q1 b2 un hok gD gC nD nC
    have e0 := I.env0
    cases vals with
    | cons rv rvs =>
      refine .inr ⟨v, x, xs, H', rfl, rv, J, nD, ⟨q4, m.isG, m.nc, m.cls, m.fld, exB ((hfp a).mpr ⟨Nat.le_of_lt m.big, m.lt⟩) ?_, exB ((hfp _).mpr ⟨Nat.le_refl _, Nat.lt_trans m.big m.lt⟩) ?_, it, l, items, us, kk, l0, c0, p0, fs0, setGen_at lt2, asl, rvs, I4.fpOk (by rw [size4]; exact ltC) ?_, ⟨?_, ?_, ?_, fun p hp => absurd (show p ∈ ([] : List (Addr × Obj)) ++ [] from hp) (by simp)⟩, d5, Nat.ne_of_lt m.big⟩, hQ, len⟩
      · rw [upd_ne (by rw [eD]; exact Nat.ne_of_lt m.lt)]; exact n4
      · rw [upd_ne (by rw [eD]; exact Nat.ne_of_lt (Nat.lt_trans m.big m.lt))]; exact n3
      · rw [upd_ne (Nat.ne_of_gt (Nat.lt_trans (show D < C by rw [eD, eC]; exact Nat.lt_succ_self _) ltC))]; exact n1
      · rw [upd_ne (Ne.symm lD)]; exact n2
      · show l ≠ ce.locals
        rw [loc]; exact Ne.symm lC
      · intro h
        obtain ⟨_, o, ho, _⟩ := e0.funs.mem h
        exact old l o ho (e0.frf l h) rfl
  · intro _
    obtain ⟨H', un, hok, hQ, hpl⟩ := q.ex
    have gD : zz.heap.get? D = some (lstObj #[] 0) := q.plk (D, lstObj #[] 0) (by simp)
    have gC : zz.heap.get? C = some { cls := .type "dict", data := .dict #[] } := q.plk (C, { cls := .type "dict", data := .dict #[] }) (by simp)
    have nD : H' D = none := hpl (D, lstObj #[] 0) (by simp)
    have nC : H' C = none := hpl (C, { cls := .type "dict", data := .dict #[] }) (by simp)
    have b2 : AllBare (zz.setGen g .finished).gens := allBare_setGen q.bare rfl
    exact .inl ⟨rfl, H', bring (zz := { zz with heap := h' }) q.os b2 (un.trans (Un.kept hk)) (hok.kept hk) (hk _ _ gD) (hk _ _ gC) nD nC, nD, hQ⟩
end
end GW

namespace GW
open PySem PySem.Spec PyProof.Rows L2 GenW GT
section
variable {X : Cx} {k : Nat}
theorem lc_coreW {pins : List (Addr × Obj)} {s : Shared} {σ : L2.St} {H : Hp} {Q : VK} {elt tg iter : Expr} {ifs : List Expr} {scope : Scope} {own : List (Str × Nat)} {pos pos' : Pos} {tm : TMade} {g : TG} {tt : TT} {te : TE} {use : Option (Value → Sem Unit)} {Qf : Value → Shared → Prop}
    (hN : X.N.Nodup) (I : Inv X pins σ H s) (hr : Room (k + 1) X.A) (hi : PMade X k iter tm) (ok : BlkOk X.N X.env.scope scope own) (hnc : ∀ y ∈ scope.names, y.2 ≠ .cell)
    (hg : ∀ (s : Shared) (H : Hp) (C : Addr) (cl : List (Str × Addr)) (fp : List Addr), PG (X.blk s H scope (compEnvC scope cl C X.env) fp) tg g) (ht : ∀ (s : Shared) (H : Hp) (C : Addr) (cl : List (Str × Addr)) (fp : List Addr), PTs (X.blk s H scope (compEnvC scope cl C X.env) fp) ifs tt)
    (he : ∀ (s : Shared) (H : Hp) (C : Addr) (cl : List (Str × Addr)) (fp : List Addr), PE (X.blk s H scope (compEnvC scope cl C X.env) fp) elt te) (hs : ∀ x, foldedSetIterable iter X.env x = pure x) (h : tLcW tm g tt te (own.map (·.2)) σ H Q)
    (hRR : ∀ D C s' m H', Inv X pins σ H' s' → Q (.ref D) H' → s'.heap.Ns C m → FpOk X pins H' C → compPost (model X.prog X.w) X.A X.xe use Qf (.ref D) C (.ok .next) s') :
    wpAny (model X.prog X.w) X.A (comprehension (.ListComp elt [⟨tg, iter, ifs, 0⟩] scope pos) scope X.env pos' (newList []) false (eval iter X.env) use) Qf X.xe s := by
  have hfree : ∀ y ∈ scope.names, y.2 = .free → ∃ c, X.env.cells.lookup y.1 = some c := fun y hy e => by
    rcases ok.free y hy e with q | q
    · exact I.ok.has _ (.inl q)
    · exact I.ok.has _ (.inr q)
  refine wpAny_comprehension_free (use := use) rfl hs (closure_ok hfree) ok.kind (fun y hy e => by rw [ok.uniq y hy, e]) (thn (hi.run pins s σ H _ I h) fun v z ⟨H1, sc, I1, a, g0, go, c, ev, m, dead⟩ => ?_)
  subst ev
  refine wpAny_pyIter_gen (m.isG _ m.at') ?_
  refine wpAny_newObj_type (newEnv_comp ?_) (by show 0 ≤ sizeLine; decide)
  have I2 : Inv X pins σ H1 z := I1.call' (ch := []) m.os (Un.kept m.keep) (I1.hok.kept m.keep) m.bare fun b q => by simp at q
  generalize hD : z.heap.objs.size = D
  have hDn : H1 D = none := I2.hok.fresh (Nat.le_of_eq hD)
  generalize hs3 : ({ z with heap := z.heap.push { cls := .type "list", data := .seq ([] : List Value).toArray } } : Shared) = s3
  have h3 : s3.heap = z.heap.push { cls := .type "list", data := .seq ([] : List Value).toArray } := by rw [← hs3]
  have I3 : Inv X pins σ (upd H1 D (.lst [])) s3 := by
    rw [← hs3]
    refine I2.laid (t' := z.toks) (fun b o e => Heap.get?_push_of_some _ e) (Nat.le_of_eq hD) ⟨Nat.zero_le _, [], 0, .nil, ?_⟩
    rw [← hD]
    exact Heap.get?_push_size _ rfl
  have sz3 : s3.heap.objs.size = D + 1 := by rw [h3, Heap.size_push, hD]
  -- the addresses of the call
  let fp : List Addr := (List.range (z.heap.objs.size - sc.heap.objs.size)).map fun i => sc.heap.objs.size + i
  have hfp : ∀ b, b ∈ fp ↔ sc.heap.objs.size ≤ b ∧ b < z.heap.objs.size := fun b => by
    show b ∈ (List.range (z.heap.objs.size - sc.heap.objs.size)).map (fun i => sc.heap.objs.size + i) ↔ _
    rw [List.mem_map]
    constructor
    · rintro ⟨i, hi, rfl⟩
      have hi := List.mem_range.mp hi
      exact ⟨Nat.le_add_right _ _, by show sc.heap.objs.size + i < z.heap.objs.size; omega⟩
    · rintro ⟨h1, h2⟩
      exact ⟨b - sc.heap.objs.size, List.mem_range.mpr (Nat.sub_lt_sub_right h1 h2), Nat.add_sub_cancel' h1⟩
  have f3 : ∀ b ∈ fp, FpOk X pins (upd H1 D (.lst [])) b ∧ b < s3.heap.objs.size := fun b hb => by
    obtain ⟨h1, h2⟩ := (hfp b).mp hb
    have f := I1.fpOk h1 (I1.hok.fresh h1)
    have bD : b ≠ D := by rw [← hD]; exact Nat.ne_of_lt h2
    refine ⟨⟨?_, f.2⟩, by rw [sz3, ← hD]; exact Nat.lt_succ_of_lt h2⟩
    rw [upd_ne bD]
    exact f.1
  have I4 := block_start I3 ok hN f3
  have pg := hg s3 (upd H1 D (.lst [])) s3.heap.objs.size (cellsFrom (s3.heap.objs.size + 1) scope.names (cloFrom X.env.cells scope.names [])) fp
  have pt := ht s3 (upd H1 D (.lst [])) s3.heap.objs.size (cellsFrom (s3.heap.objs.size + 1) scope.names (cloFrom X.env.cells scope.names [])) fp
  have pe := he s3 (upd H1 D (.lst [])) s3.heap.objs.size (cellsFrom (s3.heap.objs.size + 1) scope.names (cloFrom X.env.cells scope.names [])) fp
  show codeAny _ _ (.compStart (.ListComp elt [⟨tg, iter, ifs, 0⟩] scope pos) 0 (.ref a) (.ref D) (compEnvC scope (cellsFrom (s3.heap.objs.size + 1) scope.names (cloFrom X.env.cells scope.names [])) s3.heap.objs.size X.env)) (compPost (model X.prog X.w) X.A X.xe use Qf (.ref D) s3.heap.objs.size) { s3 with heap := pushCells (s3.heap.push { cls := .type "dict", data := .dict #[] }) scope.names }
  generalize hce : compEnvC scope (cellsFrom (s3.heap.objs.size + 1) scope.names (cloFrom X.env.cells scope.names [])) s3.heap.objs.size X.env = ce at I4 pg pt pe ⊢
  have cL : ce.locals = s3.heap.objs.size := by subst hce; rfl
  rw [no_cells hnc] at I4 ⊢
  have B : Blk0 X sc z { s3 with heap := s3.heap.push { cls := .type "dict", data := .dict #[] } } H1 scope ce fp (wipe σ (own.map (·.2))) D (D + 1) := by
    refine ⟨?_, hD.symm, by rw [hD], by rw [cL, sz3], by rw [h3], by rw [← hs3], by rw [← hs3], hfp⟩
    rw [hs3]
    exact I4
  have first := made_nextB I1 m dead B hr
  rw [hs3] at first
  generalize hs4 : ({ s3 with heap := s3.heap.push { cls := .type "dict", data := .dict #[] } } : Shared) = s4 at I4 first ⊢
  have isG4 : s4.heap.get? a = some go := by rw [← hs4]; exact Heap.get?_push_of_some _ (by show s3.heap.get? a = some go; rw [h3]; exact Heap.get?_push_of_some _ m.at')
  have hroom : X.A.depth < recursionLimit := by have := hr.dp; omega
  -- the turns
  have loop : codeAny (model X.prog X.w) X.A (.compLoop (.ListComp elt [⟨tg, iter, ifs, 0⟩] scope pos) 0 (.ref a) (.ref D) ce) (compPost (model X.prog X.w) X.A X.xe use Qf (.ref D) s3.heap.objs.size) s4 := by
    refine compLoop_any (fun n s' => (n = sizeLine + 2 ∧ s' = s4) ∨ ∃ (xs : List V) (W : Nat → Hp → Prop) (i : Nat) (H' : Hp),
      ((∀ i H x, W i H → xs[i]? = some x → g x (wipe σ (own.map (·.2))) H fun σ2 H2 => wipe σ2 (own.map (·.2)) = wipe σ (own.map (·.2)) ∧ tt σ2 H2 fun b H3 => if b = true then te σ2 H3 fun y H4 => ∃ acc, H4 D = some (.lst acc) ∧ acc.length < sizeLine ∧ W (i + 1) (upd H4 D (.lst (acc ++ [y]))) else W (i + 1) H3) ∧
        ∀ H, W xs.length H → Q (.ref D) H) ∧ i ≤ xs.length ∧ n = xs.length - i + 1 ∧ Inv (X.blk s3 (upd H1 D (.lst [])) scope ce fp) [] (wipe σ (own.map (·.2))) H' s' ∧ W i H' ∧ Slp (X.blk s3 (upd H1 D (.lst [])) scope ce fp) [] X.A.in1 a g0 sc.heap.objs.size go i (xs.drop i) H' s') ?_ (sizeLine + 2) (.inl ⟨rfl, rfl⟩)
    -- back in the def's surroundings
    have home : ∀ {H5 : Hp} {s6 : Shared}, Inv (X.blk s3 (upd H1 D (.lst [])) scope ce fp) [] (wipe σ (own.map (·.2))) H5 s6 → Q (.ref D) H5 → compPost (model X.prog X.w) X.A X.xe use Qf (.ref D) s3.heap.objs.size (.ok .next) s6 := fun {H5 s6} I6 qq => by
      have I7 : Inv X pins σ H5 s6 := I3.call' (ch := fp) I6.os I6.base I6.hok I6.bare fun b hb => ⟨(f3 b hb).1.2.2.2.1, (f3 b hb).1.2.1, (f3 b hb).1.2.2.2.2.1, (f3 b hb).1.2.2.2.2.2⟩
      have nC : H5 s3.heap.objs.size = none := by
        have y : H5 ce.locals = none := I6.free
        rw [cL] at y
        exact y
      obtain ⟨m, hn, _⟩ := I6.loc
      have hn : s6.heap.Ns ce.locals m := hn
      rw [cL] at hn
      exact hRR D s3.heap.objs.size s6 m H5 I7 qq hn (I3.fpOk (Nat.le_refl _) nC)
    have common : ∀ (n : Nat) (xs : List V) (W : Nat → Hp → Prop) (i : Nat) (x : V) (u : Value) (H5 : Hp) (s5 : Shared), (∀ i H x, W i H → xs[i]? = some x → g x (wipe σ (own.map (·.2))) H fun σ2 H2 => wipe σ2 (own.map (·.2)) = wipe σ (own.map (·.2)) ∧ tt σ2 H2 fun b H3 => if b = true then te σ2 H3 fun y H4 => ∃ acc, H4 D = some (.lst acc) ∧ acc.length < sizeLine ∧ W (i + 1) (upd H4 D (.lst (acc ++ [y]))) else W (i + 1) H3) →
        (∀ H, W xs.length H → Q (.ref D) H) → xs[i]? = some x → xs.length - (i + 1) + 1 < n → RelV x u → Inv (X.blk s3 (upd H1 D (.lst [])) scope ce fp) [] (wipe σ (own.map (·.2))) H5 s5 → W i H5 → Slp (X.blk s3 (upd H1 D (.lst [])) scope ce fp) [] X.A.in1 a g0 sc.heap.objs.size go (i + 1) (xs.drop (i + 1)) H5 s5 →
        wpAny (model X.prog X.w) X.A (letOwnedTupleGo tg (.ref a) u) (fun _ z1 => wpAny (model X.prog X.w) X.A (assign tg ce u) (fun _ z2 =>
          wpAny (model X.prog X.w) X.A (forIn ifs true fun c r => if r = true then do let ok ← isTrue c ce (eval c ce); pure (ForInStep.yield ok) else pure (ForInStep.yield r)) (fun ok z3 =>
            if ok = true then wpAny (model X.prog X.w) X.A (eval elt ce) (fun x z4 => wpAny (model X.prog X.w) X.A (call (.builtin "list.append") [.ref D, x]) (fun _ z5 => ∃ m, m < n ∧ ((m = sizeLine + 2 ∧ z5 = s4) ∨ ∃ (xs : List V) (W : Nat → Hp → Prop) (i : Nat) (H' : Hp),
      ((∀ i H x, W i H → xs[i]? = some x → g x (wipe σ (own.map (·.2))) H fun σ2 H2 => wipe σ2 (own.map (·.2)) = wipe σ (own.map (·.2)) ∧ tt σ2 H2 fun b H3 => if b = true then te σ2 H3 fun y H4 => ∃ acc, H4 D = some (.lst acc) ∧ acc.length < sizeLine ∧ W (i + 1) (upd H4 D (.lst (acc ++ [y]))) else W (i + 1) H3) ∧
        ∀ H, W xs.length H → Q (.ref D) H) ∧ i ≤ xs.length ∧ m = xs.length - i + 1 ∧ Inv (X.blk s3 (upd H1 D (.lst [])) scope ce fp) [] (wipe σ (own.map (·.2))) H' z5 ∧ W i H' ∧ Slp (X.blk s3 (upd H1 D (.lst [])) scope ce fp) [] X.A.in1 a g0 sc.heap.objs.size go i (xs.drop i) H' z5))
              (notedBy (model X.prog X.w) X.A ce fun e s' => compPost (model X.prog X.w) X.A X.xe use Qf (.ref D) s3.heap.objs.size (.error e) s') z4) (notedBy (model X.prog X.w) X.A ce fun e s' => compPost (model X.prog X.w) X.A X.xe use Qf (.ref D) s3.heap.objs.size (.error e) s') z3
            else ∃ m, m < n ∧ ((m = sizeLine + 2 ∧ z3 = s4) ∨ ∃ (xs : List V) (W : Nat → Hp → Prop) (i : Nat) (H' : Hp),
      ((∀ i H x, W i H → xs[i]? = some x → g x (wipe σ (own.map (·.2))) H fun σ2 H2 => wipe σ2 (own.map (·.2)) = wipe σ (own.map (·.2)) ∧ tt σ2 H2 fun b H3 => if b = true then te σ2 H3 fun y H4 => ∃ acc, H4 D = some (.lst acc) ∧ acc.length < sizeLine ∧ W (i + 1) (upd H4 D (.lst (acc ++ [y]))) else W (i + 1) H3) ∧
        ∀ H, W xs.length H → Q (.ref D) H) ∧ i ≤ xs.length ∧ m = xs.length - i + 1 ∧ Inv (X.blk s3 (upd H1 D (.lst [])) scope ce fp) [] (wipe σ (own.map (·.2))) H' z3 ∧ W i H' ∧ Slp (X.blk s3 (upd H1 D (.lst [])) scope ce fp) [] X.A.in1 a g0 sc.heap.objs.size go i (xs.drop i) H' z3))
            (notedBy (model X.prog X.w) X.A ce fun e s' => compPost (model X.prog X.w) X.A X.xe use Qf (.ref D) s3.heap.objs.size (.error e) s') z2) (notedBy (model X.prog X.w) X.A ce fun e s' => compPost (model X.prog X.w) X.A X.xe use Qf (.ref D) s3.heap.objs.size (.error e) s') z1) (notedBy (model X.prog X.w) X.A ce fun e s' => compPost (model X.prog X.w) X.A X.xe use Qf (.ref D) s3.heap.objs.size (.error e) s') s5 := by
      intro n xs W i x u H5 s5 step fin hx hn ru I5 w5 S
      obtain ⟨vs, hf⟩ := S.fld
      refine go_of (n := "generator") S.at' S.cls hf (by decide) ?_
      obtain ⟨pl, J, back⟩ := S.pinned I5
      refine asleep_run (pg.run ([] ++ pl) (cutS s5) _ H5 x u _ (inv_cut J) ru (step i H5 x w5 hx)) fun _ s8 G8 k8 q8 => ?_
      obtain ⟨σ8, H8, I8, hw8, q8⟩ := q8
      have J8 : Inv (X.blk s3 (upd H1 D (.lst [])) scope ce fp) ([] ++ pl) σ8 H8 s8 := inv_wake I8 J.bare k8
      refine asleep_run (pt.run ([] ++ pl) (cutS s8) σ8 H8 _ (inv_cut J8) q8) fun b s9 G9 k9 q9 => ?_
      obtain ⟨H9, I9, q9⟩ := q9
      have J9 : Inv (X.blk s3 (upd H1 D (.lst [])) scope ce fp) ([] ++ pl) σ8 H9 s9 := inv_wake I9 J8.bare k9
      have lt : i < xs.length := (List.getElem?_eq_some_iff.mp hx).1
      have hl : (wipe σ (own.map (·.2))).length = σ8.length := by rw [← hw8, wipe_length]
      have turn : ∀ {s' : Shared} {H' : Hp}, Inv (X.blk s3 (upd H1 D (.lst [])) scope ce fp) ([] ++ pl) σ8 H' s' → W (i + 1) H' → (∀ (i : Nat) (y : GenState), s5.gens[i]? = some y → asleep y = true → s'.gens[i]? = some y) →
          ∃ m, m < n ∧ ((m = sizeLine + 2 ∧ s' = s4) ∨ ∃ (xs : List V) (W : Nat → Hp → Prop) (i : Nat) (H' : Hp),
      ((∀ i H x, W i H → xs[i]? = some x → g x (wipe σ (own.map (·.2))) H fun σ2 H2 => wipe σ2 (own.map (·.2)) = wipe σ (own.map (·.2)) ∧ tt σ2 H2 fun b H3 => if b = true then te σ2 H3 fun y H4 => ∃ acc, H4 D = some (.lst acc) ∧ acc.length < sizeLine ∧ W (i + 1) (upd H4 D (.lst (acc ++ [y]))) else W (i + 1) H3) ∧
        ∀ H, W xs.length H → Q (.ref D) H) ∧ i ≤ xs.length ∧ m = xs.length - i + 1 ∧ Inv (X.blk s3 (upd H1 D (.lst [])) scope ce fp) [] (wipe σ (own.map (·.2))) H' s' ∧ W i H' ∧ Slp (X.blk s3 (upd H1 D (.lst [])) scope ce fp) [] X.A.in1 a g0 sc.heap.objs.size go i (xs.drop i) H' s') := fun {s' H'} I' w' hk => by
        refine ⟨_, hn, .inr ⟨xs, W, i + 1, H', ⟨step, fin⟩, lt, rfl, (Inv.unpinned (pins := []) I').weak hl (fun j v e => ?_), w', back I' hk⟩⟩
        rw [← hw8] at e
        exact (wipe_some e).1
      cases b with
      | false =>
        simp only [Bool.false_eq_true, if_false] at q9 ⊢
        exact turn J9 q9 fun i y e a => k9.at' i y (k8.at' i y e a) a
      | true =>
        simp only [if_true] at q9 ⊢
        refine asleep_run (pe.run ([] ++ pl) (cutS s9) σ8 H9 _ (inv_cut J9) q9) fun y s10 G10 k10 q10 => ?_
        obtain ⟨yv, H10, I10, r10, acc, hD10, hz10, nx⟩ := q10
        have J10 : Inv (X.blk s3 (upd H1 D (.lst [])) scope ce fp) ([] ++ pl) σ8 H10 s10 := inv_wake I10 J9.bare k10
        refine asleep_run (Q := fun _ s11 => Inv (X.blk s3 (upd H1 D (.lst [])) scope ce fp) ([] ++ pl) σ8 (upd H10 D (.lst (acc ++ [yv]))) s11) (app_ok (X := quietX (X.blk s3 (upd H1 D (.lst [])) scope ce fp)) (inv_cut J10) hD10 hz10 r10 fun s11 I11 => inv_ex I11) fun _ s11 G11 k11 I11 => ?_
        have J11 : Inv (X.blk s3 (upd H1 D (.lst [])) scope ce fp) ([] ++ pl) σ8 (upd H10 D (.lst (acc ++ [yv]))) s11 := inv_wake I11 J10.bare k11
        exact turn J11 nx fun i y e a => k11.at' i y (k10.at' i y (k9.at' i y (k8.at' i y e a) a) a) a
    rintro n s5 (⟨rfl, rfl⟩ | ⟨xs, W, i, H5, ⟨step, fin⟩, hi5, rfl, I5, w5, S5⟩)
    · refine thnF first fun r z1 q => ?_
      rcases q with ⟨rfl, H', J, nD, hQ⟩ | ⟨u, x, xs, H', rfl, ru, J, nD, S, hQ, len⟩
      · obtain ⟨W, w0, step, fin⟩ := hQ D nD
        exact home J (fin _ w0)
      · obtain ⟨W, w0, step, fin⟩ := hQ D nD
        exact common _ (x :: xs) W 0 x u _ z1 step fin rfl (by simp only [List.length_cons] at len ⊢; omega) ru J w0 S
    · refine thnF (slp_next (X := X.blk s3 (upd H1 D (.lst [])) scope ce fp) (E := fun _ _ => False) I5 S5 hr.hd hroom) fun r z1 q => ?_
      cases hd : xs.drop i with
      | nil =>
        rw [hd] at q
        obtain ⟨rfl, J⟩ := q
        have : i = xs.length := Nat.le_antisymm hi5 (List.drop_eq_nil_iff.mp hd)
        subst this
        exact home J (fin _ w5)
      | cons x rest =>
        rw [hd] at q
        obtain ⟨u, rfl, ru, J, S⟩ := q
        have hx : xs[i]? = some x := by
          have := congrArg List.head? hd
          rw [List.head?_drop] at this
          simpa using this
        have hrest : xs.drop (i + 1) = rest := by
          have := congrArg List.tail hd
          rw [List.tail_drop] at this
          simpa using this
        have lt : i < xs.length := (List.getElem?_eq_some_iff.mp hx).1
        exact common _ xs W i x u H5 z1 step fin hx (by omega) ru J w5 (by rw [hrest]; exact S)
  exact codeAny_compStart_list loop (wpAny_pyIter_gen (m.isG _ isG4) loop)
theorem pe_lcW {elt tg iter : Expr} {ifs : List Expr} {scope : Scope} {own : List (Str × Nat)} {pos : Pos} {tm : TMade} {g : TG} {tt : TT} {te : TE} (hN : X.N.Nodup) (hr : Room (k + 1) X.A) (hi : PMade X k iter tm) (ok : BlkOk X.N X.env.scope scope own) (hnc : ∀ y ∈ scope.names, y.2 ≠ .cell)
    (hg : ∀ (s : Shared) (H : Hp) (C : Addr) (cl : List (Str × Addr)) (fp : List Addr), PG (X.blk s H scope (compEnvC scope cl C X.env) fp) tg g) (ht : ∀ (s : Shared) (H : Hp) (C : Addr) (cl : List (Str × Addr)) (fp : List Addr), PTs (X.blk s H scope (compEnvC scope cl C X.env) fp) ifs tt)
    (he : ∀ (s : Shared) (H : Hp) (C : Addr) (cl : List (Str × Addr)) (fp : List Addr), PE (X.blk s H scope (compEnvC scope cl C X.env) fp) elt te) (hs : ∀ x, foldedSetIterable iter X.env x = pure x := by intro _; rfl) : PE X (.ListComp elt [⟨tg, iter, ifs, 0⟩] scope pos) (tLcW tm g tt te (own.map (·.2))) := by
  refine ⟨fun pins s σ H Q I h => ?_⟩
  rw [eval_ListComp]
  refine lc_coreW hN I hr hi ok hnc hg ht he hs h fun D C s' m H' I' q hn f => ⟨m, hn, fun h'' sb => ?_⟩
  obtain ⟨f0, f1, f2, f3, f4, f5⟩ := f
  exact ⟨.ref D, H', I'.turned (t' := s'.toks) (fun b o hb e => (sb.2 b hb).trans e) f0 f1 f3 f4 f5, rfl, q⟩
theorem ps_setLcW {i : Nat} {y : Str} {py : Pos} {elt tg iter : Expr} {ifs : List Expr} {scope : Scope} {own : List (Str × Nat)} {pos spos : Pos} {tm : TMade} {g : TG} {tt : TT} {te : TE} (hN : X.N.Nodup) (hr : Room (k + 1) X.A) (hy : X.N[i]? = some y) (hyl : X.env.scope.names.lookup y = some .local)
    (hsw : swapsWith (.ListComp elt [⟨tg, iter, ifs, 0⟩] scope pos) (some (.Name y py)) spos.line X.env = pure true) (hi : PMade X k iter tm) (ok : BlkOk X.N X.env.scope scope own) (hnc : ∀ y ∈ scope.names, y.2 ≠ .cell)
    (hg : ∀ (s : Shared) (H : Hp) (C : Addr) (cl : List (Str × Addr)) (fp : List Addr), PG (X.blk s H scope (compEnvC scope cl C X.env) fp) tg g) (ht : ∀ (s : Shared) (H : Hp) (C : Addr) (cl : List (Str × Addr)) (fp : List Addr), PTs (X.blk s H scope (compEnvC scope cl C X.env) fp) ifs tt)
    (he : ∀ (s : Shared) (H : Hp) (C : Addr) (cl : List (Str × Addr)) (fp : List Addr), PE (X.blk s H scope (compEnvC scope cl C X.env) fp) elt te) (hs : ∀ x, foldedSetIterable iter X.env x = pure x := by intro _; rfl) :
    PS X (.Assign [.Name y py] (.ListComp elt [⟨tg, iter, ifs, 0⟩] scope pos) spos) (tAsg (tLcW tm g tt te (own.map (·.2))) (gName i)) := by
  refine ⟨fun pins s σ H D I h => ?_⟩
  rw [exec_Assign_Name_used _ _ _ _ hsw]
  refine wpAny_bind (wpAny_standAt (wpAny_bind ?_))
  show wpAny _ X.A (do let _ ← comprehension (.ListComp elt [⟨tg, iter, ifs, 0⟩] scope pos) scope X.env (firstIterPos [⟨tg, iter, ifs, 0⟩] pos) (newList []) false (eval iter X.env) (some (assign (.Name y py) X.env))) _ _ s
  have h : tLcW tm g tt te (own.map (·.2)) σ H (fun x H1 => gName i x σ H1 D.nx) := h
  refine wpAny_bind (thn (lc_coreW (Qf := fun _ s' => SP X pins D .next s') hN I hr hi ok hnc hg ht he hs h fun L C s' m H' I' q hn f => ?_) fun _ s' hq => wpAny_pure (wpAny_pure hq))
  show wpAny _ _ (assign (.Name y py) X.env (.ref L)) _ _ _
  refine wpAny_assign_Name (store_ok2 (v := V.ref L) I' hN hy (.inl hyl) rfl (fun s2 I2 ⟨a, sb, ha⟩ => ?_) (.inr hyl))
  obtain ⟨f0, f1, f2, f3, f4, f5⟩ := f
  have haC : C ≠ a := by
    rcases ha with q | q
    · rw [q]; exact f1
    · exact fun e => f4 y a q e.symm
  refine ⟨m, hn.sameBut sb haC, fun h3 sb3 => ?_⟩
  exact ⟨_, H', I2.turned (t' := s2.toks) (fun b o hb e => (sb3.2 b hb).trans e) f0 f1 f3 f4 f5, q⟩
end
end GW

/-! enumerate over a generator that is walked lazily -/
namespace GW
open PySem PySem.Spec PyProof.Rows L2 GenW GT
open Builtin
set_option maxHeartbeats 1000000 in
theorem enum_newG (a g : Nat) (go : Obj) (hi : ∀ h : Heap, h.get? a = some go → h.IsGen a g) :
    Meets (Builtin.«enumerate.__new__» ⟨[.type "enumerate", .ref a], []⟩) (fun _ R st => st.heap.get? a = some go ∧
      R (.ok (.ret (.ref st.heap.objs.size))) { st with heap := st.heap.push { cls := .type "enumerate", data := .fields #[.none, .bool false, .ref a, rawInt 0, .none, .none] } }) :=
  .of_wp fun prog w A R st h => by
    obtain ⟨hp, gg, d, tk, os⟩ := st
    obtain ⟨here, h⟩ := h
    have hsub := sub_enumerate
    have gen : Heap.IsGen (Shared.heap ⟨hp, gg, d, tk, os⟩) a g := hi _ here
    wp_walk using wpAny_loadPart' here
    refine wpAny_stack_any fun st => wpAny_pure ?_
    split
    · rename_i c _ _ _ _ _
      cases (c == Value.type "enumerate")
      · wp_walk using wpAny_loadPart' here, wpAny_pyIter_gen gen
        exact ⟨_, rfl, h⟩
      · wp_walk using wpAny_loadPart' here, wpAny_pyIter_gen gen
        exact ⟨_, rfl, h⟩
    · wp_walk using wpAny_loadPart' here, wpAny_pyIter_gen gen
      exact ⟨_, rfl, h⟩
section
variable {prog : Program} {w : World} {A : Around} {E : Value → Shared → Prop} {s : Shared}
theorem call_enumG {a g : Nat} {go : Obj} {Q : Value → Shared → Prop} (hi : ∀ h : Heap, h.get? a = some go → h.IsGen a g) (here : s.heap.get? a = some go)
    (q : ∀ h', IsEnum h' s.heap.objs.size a 0 .none → (∀ b o, s.heap.get? b = some o → h'.get? b = some o) → Q (.ref s.heap.objs.size) { s with heap := h' }) :
    wpAny (model prog w) A (call (.type "enumerate") [.ref a]) Q E s := by
  refine callType_new F.called_enumerate (by decide) (F.typeCall_enumerate_1 _) (F.newCall_enumerate_1 _) (fun obj => F.args_object_init_2 obj _) F.entry_enumerate_new (enum_newG a g go hi) ⟨here, ?_⟩
  have en := Heap.get?_push_size s.heap (o := { cls := .type "enumerate", data := .fields #[.none, .bool false, .ref a, rawInt 0, .none, .none] }) rfl
  exact ⟨⟨_, en, rfl⟩, q _ en fun b o x => Heap.get?_push_of_some _ x⟩
theorem enum_next {e a : Addr} {i : Int} {old : Value} {R : Value → Shared → Prop} {Q : Value → Shared → Prop} (he : IsEnum s.heap e a i old) (hn : wpAny (model prog w) A (SmallTypes.nextOf (.ref a)) (fun x z => IsEnum z.heap e a i old ∧ R x z) E s)
    (hQ : ∀ x z h' tk, R x z → IsEnumOut h' e a (i + 1) x z.heap.objs.size → h'.get? z.heap.objs.size = some { cls := .type "tuple", data := .seq #[.int i tk, x] } → (∀ b o, b ≠ e → z.heap.get? b = some o → h'.get? b = some o) → e < z.heap.objs.size → Q (.ref z.heap.objs.size) { z with heap := h', toks := tk + 1 }) :
    wpAny (model prog w) A (Builtin.«enumerate.__next__» ⟨[.ref e], []⟩) (fun fin s' => ∃ v, fin = .done (.ret v) ∧ Q v s') E s := by
  show wpAny _ _ (field (.ref e) 2 >>= _) _ _ s
  refine (wpAny_bind (wpAny_field he rfl (x := .ref a) rfl ?_))
  refine (wpAny_bind (wpAny_mono hn (fun x z q => ?_) fun _ _ q => q))
  obtain ⟨he1, hR⟩ := q
  obtain ⟨hp, gg, d, tk, os⟩ := z
  have he1 : IsEnum hp e a i old := he1
  show wpAny _ _ (field (.ref e) 3 >>= _) _ _ (⟨hp, gg, d, tk, os⟩ : Shared)
  refine (wpAny_bind (wpAny_field he1 rfl (x := rawInt i) rfl ?_))
  show wpAny _ _ (field (.ref e) 4 >>= _) _ _ (⟨hp, gg, d, tk, os⟩ : Shared)
  refine (wpAny_bind (wpAny_field he1 rfl (x := .none) rfl ?_))
  show wpAny _ _ (mkInt i >>= _) _ _ (⟨hp, gg, d, tk, os⟩ : Shared)
  refine (wpAny_bind (wpAny_mkInt ?_))
  show wpAny _ _ (setField (.ref e) 3 (rawInt (i + 1)) >>= _) _ _ (⟨hp, gg, d, tk + 1, os⟩ : Shared)
  refine (wpAny_bind (wpAny_setField_rec he1 (by simp) fun h2 he2 k2 => ?_))
  have he2 : IsEnum h2 e a (i + 1) old := he2
  have k2 : Heap.SameBut e hp h2 := k2
  show wpAny _ _ (setField (.ref e) 4 .none >>= _) _ _ (⟨h2, gg, d, tk + 1, os⟩ : Shared)
  refine (wpAny_bind (wpAny_setField_rec he2 (by simp) fun h3 he3 k3 => ?_))
  have he3 : IsEnum h3 e a (i + 1) old := he3
  have k3 : Heap.SameBut e h2 h3 := k3
  show wpAny _ _ (newTuple [.int i tk, x] >>= _) _ _ (⟨h3, gg, d, tk + 1, os⟩ : Shared)
  refine (wpAny_bind (wpAny_newTuple ?_))
  have he4 : IsEnum (h3.push { cls := .type "tuple", data := .seq #[.int i tk, x] }) e a (i + 1) old := Heap.get?_push_of_some _ he3
  generalize hh4 : h3.push { cls := .type "tuple", data := .seq #[.int i tk, x] } = h4 at he4
  have hsz : h3.objs.size = hp.objs.size := by rw [k3.1, k2.1]
  have hel : e < hp.objs.size := Heap.lt_size he1
  have ht4 : h4.get? hp.objs.size = some { cls := .type "tuple", data := .seq #[.int i tk, x] } := by rw [← hh4, ← hsz]; exact Heap.get?_push_size _ rfl
  have kk4 : ∀ b o, b ≠ e → hp.get? b = some o → h4.get? b = some o := fun b o hb q => by
    rw [← hh4]; exact Heap.get?_push_of_some _ (k3.extBut b o hb (k2.extBut b o hb q))
  show wpAny _ _ (SmallTypes.ownedTupleIsFree (.ref e) >>= _) _ _ (⟨h4, gg, d, tk + 1, os⟩ : Shared)
  rw [hsz]
  refine wpAny_bind ?_
  unfold SmallTypes.ownedTupleIsFree
  refine (wpAny_bind (wpAny_field he4 rfl (x := .none) rfl (wpAny_pure ?_)))
  simp only [if_true]
  refine (wpAny_bind (wpAny_rule ?_))
  refine (wpAny_bind (wpAny_field he4 rfl (x := old) rfl ?_))
  refine (wpAny_bind (wpAny_setField_rec he4 (by simp) fun h5 he5 k5 => ?_))
  have he5 : IsEnum h5 e a (i + 1) x := he5
  have k5 : Heap.SameBut e h4 h5 := k5
  show wpAny _ _ (SmallTypes.ownedTupleHandOut (.ref e) (.ref hp.objs.size) >>= _) _ _ (⟨h5, gg, d, tk + 1, os⟩ : Shared)
  refine wpAny_bind ?_
  unfold SmallTypes.ownedTupleHandOut
  refine (wpAny_bind (wpAny_setField_rec he5 (by simp) fun h6 he6 k6 => ?_))
  have he6 : IsEnumOut h6 e a (i + 1) x hp.objs.size := he6
  have k6 : Heap.SameBut e h5 h6 := k6
  refine (wpAny_setField_rec he6 (by simp) fun h7 he7 k7 => ?_)
  have he7 : IsEnumOut h7 e a (i + 1) x hp.objs.size := he7
  have k7 : Heap.SameBut e h6 h7 := k7
  have up : ∀ b o, b ≠ e → h4.get? b = some o → h7.get? b = some o := fun b o hb q => k7.extBut b o hb (k6.extBut b o hb (k5.extBut b o hb q))
  exact wpAny_bind (wpAny_letGo (wpAny_pure ⟨_, rfl, hQ x ⟨hp, gg, d, tk, os⟩ h7 tk hR he7 (up _ _ (Nat.ne_of_gt hel) ht4) (fun b o hb q => up b o hb (kk4 b o hb q)) hel⟩))
theorem pyNext_enumG {e a : Addr} {i : Int} {old : Value} {R : Value → Shared → Prop} {Q : Option Value → Shared → Prop} (he : IsEnum s.heap e a i old) (hn : wpAny (model prog w) A.in1 (SmallTypes.nextOf (.ref a)) (fun x z => IsEnum z.heap e a i old ∧ R x z) (fun x z => IsStop x z ∧ Q none z) s)
    (hQ : ∀ x z h' tk, R x z → IsEnumOut h' e a (i + 1) x z.heap.objs.size → h'.get? z.heap.objs.size = some { cls := .type "tuple", data := .seq #[.int i tk, x] } → (∀ b o, b ≠ e → z.heap.get? b = some o → h'.get? b = some o) → e < z.heap.objs.size → Q (some (.ref z.heap.objs.size)) { z with heap := h', toks := tk + 1 }) :
    wpAny (model prog w) A (pyNext (.ref e)) Q E s := by
  have hT : s.TypeIs (.ref e) "enumerate" := ⟨_, he, rfl⟩
  refine next_of (wpAny_callSpecial?_slot (name := Str.ofString "__next__") hT F.slot_enumerate_next (wpAny_call_entry F.slot_enumerate_next hT F.entry_enumerate_next ?_ (F.args_enumerate_next_1 _)))
  refine wpAny_mono (enum_next (Q := fun v z => Q (some v) z) he hn fun x z h' tk r1 r2 r3 r4 r5 => hQ x z h' tk r1 r2 r3 r4 r5) (fun fin z q => ?_) fun _ _ q => q
  obtain ⟨v, rfl, q⟩ := q
  exact ⟨v, rfl, v, rfl, q⟩
end
end GW

namespace GW
open PySem PySem.Spec PyProof.Rows L2 GenW GT
open Builtin
section
variable {X : Cx} {pins : List (Addr × Obj)} {σ : L2.St} {H : Hp} {s z : Shared}
theorem fpOk_more {e : Addr} {o : Obj} {b : Addr} (f : FpOk X pins H b) (h : e ≠ b) : FpOk X (pins ++ [(e, o)]) H b := by
  obtain ⟨f0, f1, f2, f3, f4, f5⟩ := f
  refine ⟨f0, f1, f2, f3, f4, fun p hp => ?_⟩
  rcases List.mem_append.mp hp with q | q
  · exact f5 p (List.mem_append_left _ q)
  rcases List.mem_append.mp q with q | q
  · exact f5 p (List.mem_append_right _ q)
  · rw [List.mem_singleton.mp q]; exact h
theorem fpOk_less {e : Addr} {o : Obj} {b : Addr} (f : FpOk X (pins ++ [(e, o)]) H b) : FpOk X pins H b ∧ e ≠ b := by
  obtain ⟨f0, f1, f2, f3, f4, f5⟩ := f
  refine ⟨⟨f0, f1, f2, f3, f4, fun p hp => ?_⟩, f5 (e, o) (by simp)⟩
  rcases List.mem_append.mp hp with q | q
  · exact f5 p (List.mem_append_left _ q)
  · exact f5 p (List.mem_append_right _ (List.mem_append_left _ q))
/-- the first item, one thing more pinned -/
theorem made_specialE {A0 : Around} {k a g : Nat} {go : Obj} {c : Code} {sc : Shared} {H1 : Hp} {Q : List V → Hp → Prop} {e : Addr} {eo : Obj} (I : Inv X pins σ H1 sc) (m : MadeAt X.prog X.w k X.stack H1 sc Q a g go c z) (hr : Room (k + 1) A0) (hfr : A0.frames = some X.stack)
    (kp : ∀ b o, z.heap.get? b = some o → s.heap.get? b = some o) (hg : s.gens = z.gens) (ho : s.os = z.os) (he : z.heap.objs.size ≤ e) (hee : s.heap.get? e = some eo) (hec : ∀ v, eo.data ≠ .cell v) :
    wpAny (model X.prog X.w) A0 (callSpecial? (.ref a) "__next__") (fun r z => ∃ v, r = some v ∧ FirstIs X (pins ++ [(e, eo)]) A0.in1 σ a g sc.heap.objs.size go Q (some v) z) (fun e' z => IsStop e' z ∧ FirstIs X (pins ++ [(e, eo)]) A0.in1 σ a g sc.heap.objs.size go Q none z) s := by
  have lt : g < s.gens.size := by rw [hg]; exact (Array.getElem?_eq_some_iff.mp m.gs).1
  have sg := m.run A0.in1 (s.setGen g .running) [(e, eo)] hr.in1 hfr kp (ho.trans m.os) (allBare_setGen (by rw [hg]; exact m.bare) rfl) (fun p hp => by rw [List.mem_singleton.mp hp]; exact ⟨he, hee, hec⟩)
  have sce : sc.heap.objs.size ≤ e := Nat.le_trans (Nat.le_of_lt (Nat.lt_trans m.big m.lt)) he
  have more : ∀ {H' : Hp} {zz : Shared}, Inv X pins σ H' zz → zz.heap.get? e = some eo → H' e = none → Inv X (pins ++ [(e, eo)]) σ H' zz := fun {H' zz} J h1 h2 => J.pins_of fun p hp => by
    rcases List.mem_append.mp hp with q | q
    · exact J.pin p (List.mem_append_right _ q)
    · rw [List.mem_singleton.mp q]
      have f := I.fpOk sce h2
      exact ⟨h1, h2, f.2.1, f.2.2.1, hec⟩
  refine gsz_special (n := g + 1) lt (special_sg (gs := .fresh c) (Q := fun r z => g + 1 ≤ z.gens.size → FirstIs X (pins ++ [(e, eo)]) A0.in1 σ a g sc.heap.objs.size go Q r z) (Φ := FirstY X.prog X.w A0.in1 X.stack H1 sc sc.heap.objs.size a go [(e, eo)] Q) (Ψ := FirstE X.prog X.w X.stack H1 sc [(e, eo)] Q) hr.hd
    (m.lim.keeps kp) (by have := hr.dp; omega) (m.isG _ (kp _ _ m.at')) (by rw [hg]; exact m.gs) sg (fun v zz kk l0 c0 p0 fs0 q => ?_) fun r zz q => ⟨q.res, fun h' hk => ?_⟩)
  · intro hsz
    have lt2 : g < zz.gens.size := by
      have h2 : g + 1 ≤ (zz.setGen g (.suspended kk l0 c0 p0 fs0 false)).gens.size := hsz
      rw [setGen_size] at h2
      omega
    obtain ⟨q1, q2, q3, q4, q5, H', x, xs, u, us, it, l, items, un, hok, ⟨n1, n2, n3, n4⟩, big, ⟨d1, d2, d3, d4, d5⟩, old, vals, rfl, hQ, len, asl, hpl⟩ := q
    have b2 : AllBare (zz.setGen g (.suspended kk l0 c0 p0 fs0 false)).gens := allBare_setGen q2 rfl
    have J : Inv X pins σ H' (zz.setGen g (.suspended kk l0 c0 p0 fs0 false)) := I.call' (ch := []) q1 un hok b2 fun b q => by simp at q
    have e1 : zz.heap.get? e = some eo := q5 (e, eo) (by simp)
    obtain ⟨e2, e3, e4⟩ := hpl (e, eo) (by simp)
    have e2 : H' e = none := e2
    have e3 : e < it := e3
    have e4 : e ≠ l := e4
    cases vals with
    | cons rv rvs =>
      refine .inr ⟨v, x, xs, H', rfl, rv, more J e1 e2, ⟨q4, m.isG, m.nc, m.cls, m.fld, fpOk_more (I.fpOk (Nat.le_of_lt m.big) n4) (Nat.ne_of_gt (Nat.lt_of_lt_of_le m.lt he)), fpOk_more (I.fpOk (Nat.le_refl _) n3) (Nat.ne_of_gt (Nat.lt_of_lt_of_le (Nat.lt_trans m.big m.lt) he)), it, l, items, us, kk, l0, c0, p0, fs0, setGen_at lt2, asl, rvs,
        fpOk_more (I.fpOk big n1) (Nat.ne_of_lt e3), ⟨n2, ?_, ?_, fun p hp => ?_⟩, d4, ?_⟩, hQ, len⟩
      · intro h
        obtain ⟨mm, ⟨o, _, _, ho, _⟩, _⟩ := I.loc
        exact old _ o ho I.free h.symm
      · intro h
        obtain ⟨_, o, ho, _⟩ := I.ok.funs.mem h
        obtain ⟨sl, e1⟩ := I.base.slot l o ho (I.ok.frf l h) h (fun hx => I.ok.exfs l hx h)
        exact old l _ e1 (I.base.free l o ho (I.ok.frf l h) (fun hx => I.ok.exfs l hx h)) rfl
      · rcases List.mem_append.mp hp with q | q
        · exact old p.1 p.2 (I.pin p (List.mem_append_left _ q)).1 (I.pin p (List.mem_append_left _ q)).2.1
        rcases List.mem_append.mp q with q | q
        · exact old p.1 p.2 (I.pin p (List.mem_append_right _ q)).1 (I.pin p (List.mem_append_right _ q)).2.1
        · rw [List.mem_singleton.mp q]; exact e4
      · exact Nat.ne_of_lt m.big
  · intro _
    obtain ⟨H', un, hok, hQ, hpl⟩ := q.ex
    have b2 : AllBare (zz.setGen g .finished).gens := allBare_setGen q.bare rfl
    have J : Inv X pins σ H' { zz.setGen g .finished with heap := h' } := I.call' (s' := { zz.setGen g .finished with heap := h' }) (ch := []) q.os (un.trans (Un.kept hk)) (hok.kept hk) b2 (fun b q => by simp at q)
    exact .inl ⟨rfl, H', more J (hk _ _ (q.plk (e, eo) (by simp))) (hpl (e, eo) (by simp)), hQ⟩
/-- another thing at e; a new pair is tracked -/
theorem Slp.step {B : Around} {a g L i T : Nat} {go : Obj} {rest : List V} {e : Addr} {eo eo' : Obj} {ob : HO} {s' : Shared} (S : Slp X (pins ++ [(e, eo)]) B a g L go i rest H s) (keep : ∀ b o, b ≠ e → s.heap.get? b = some o → s'.heap.get? b = some o) (hg : s'.gens = s.gens) (hT : s.heap.objs.size ≤ T) : Slp X (pins ++ [(e, eo')]) B a g L go i rest (upd H T ob) s' := by
  obtain ⟨s1, s2, s3, s4, s5, s6, s7, it, l, items, us, kk, lv, c, p, fs, e1, e2, e3, e4, e5, e6, e7⟩ := S
  have th := e2.own.there
  have low : ∀ {b : Addr} {o : Obj}, s.heap.get? b = some o → b ≠ T := fun {b o} h => Nat.ne_of_lt (Nat.lt_of_lt_of_le (Heap.lt_size h) hT)
  have ne : ∀ b, b = it ∨ b = l ∨ b = L → b ≠ e := fun b hb => by
    rcases hb with rfl | rfl | rfl
    · exact Ne.symm (fpOk_less e4).2
    · exact Ne.symm (e5.2.2.2 (e, eo) (by simp))
    · exact Ne.symm (fpOk_less s7).2
  have sm : Same3 it l L s.heap s'.heap := fun b hb o h => keep b o (ne b hb) h
  have fp : ∀ {b : Addr} {o : Obj}, s.heap.get? b = some o → FpOk X (pins ++ [(e, eo)]) H b → FpOk X (pins ++ [(e, eo')]) (upd H T ob) b := fun {b o} h f => by
    obtain ⟨f1, f2⟩ := fpOk_less f
    exact fpOk_more ⟨by rw [upd_ne (low h)]; exact f1.1, f1.2⟩ f2
  obtain ⟨oi, ti, _⟩ := th it (.inl rfl)
  obtain ⟨ol, tl, _⟩ := th l (.inr (.inl rfl))
  obtain ⟨oL, tL, _⟩ := th L (.inr (.inr rfl))
  refine ⟨keep a go (Ne.symm (fpOk_less s6).2) s1, s2, s3, s4, s5, fp s1 s6, fp tL s7, it, l, items, us, kk, lv, c, p, fs, by rw [hg]; exact e1, ?_, e3, fp ti e4, ⟨by rw [upd_ne (low tl)]; exact e5.1, e5.2.1, e5.2.2.1, fun p hp => ?_⟩, e6, e7⟩
  · cases us with
    | nil => exact ⟨e2.1.same sm, fun zz q => e2.2 zz fun b hb o e => q b hb o (sm b hb o e)⟩
    | cons u us => exact ⟨e2.1.same sm, fun zz q => e2.2 zz fun b hb o e => q b hb o (sm b hb o e)⟩
  · rcases List.mem_append.mp hp with q | q
    · exact e5.2.2.2 p (List.mem_append_left _ q)
    rcases List.mem_append.mp q with q | q
    · exact e5.2.2.2 p (List.mem_append_right _ (List.mem_append_left _ q))
    · rw [List.mem_singleton.mp q]
      exact e5.2.2.2 (e, eo) (by simp)
theorem asleep_run0 {α : Type} {M : Model} {A : Around} {t : Sem α} {Q Q' : α → Shared → Prop} {E : Value → Shared → Prop} {s : Shared} (h : wpAny M A t Q (fun _ _ => False) (cutS s)) (k : ∀ a s' G, Kept s s' G → Q a { s' with gens := G } → Q' a s') : wpAny M A t Q' E s :=
  wpAny_mono (wpAny_sleep h) (fun a s' ⟨G, q1, q2⟩ => k a s' G q1 q2) fun _ _ ⟨_, _, q⟩ => q.elim
abbrev enO (a : Addr) (i : Int) (old : Value) : Obj := { cls := .type "enumerate", data := .fields #[.none, .bool false, .ref a, rawInt i, .none, old] }
def tForE (t : TMade) (g : TG) (tb : TS) : TS := fun D σ H => t σ H fun xs H1 => ∃ W : Nat → L2.St → Hp → Prop, W 0 σ H1 ∧
  (∀ (i : Nat) σ H x T, W i σ H → xs[i]? = some x → H T = none → g (.ref T) σ (upd H T (.tup [.int i, x])) fun σ2 H2 => tb { D with nx := W (i + 1), ct := W (i + 1), bk := D.nx } σ2 H2) ∧ ∀ σ H, W xs.length σ H → D.nx σ H
/-- the pair is handed out -/
theorem pair_out {a g L i : Nat} {go : Obj} {rest : List V} {e : Addr} {old u : Value} {x : V} {elts : List Expr} {kk : Nat} {tpos : Pos} {R : Unit → Shared → Prop} {E : Value → Shared → Prop} {h' : Heap} {tk : Nat}
    (I : Inv X (pins ++ [(e, enO a (i : Int) old)]) σ H z) (fe : FpOk X pins H e) (S : Slp X (pins ++ [(e, enO a (i : Int) old)]) X.A.in1.in1 a g L go (i + 1) rest H z) (ru : RelV x u)
    (out : IsEnumOut h' e a ((i : Int) + 1) u z.heap.objs.size) (hp : h'.get? z.heap.objs.size = some { cls := .type "tuple", data := .seq #[.int i tk, u] }) (keep : ∀ b o, b ≠ e → z.heap.get? b = some o → h'.get? b = some o) (el : e < z.heap.objs.size)
    (hR : ∀ z3 : Shared, Inv X (pins ++ [(e, enO a ((i + 1 : Nat) : Int) u)]) σ (upd H z.heap.objs.size (.tup [.int i, x])) z3 → FpOk X pins (upd H z.heap.objs.size (.tup [.int i, x])) e → Slp X (pins ++ [(e, enO a ((i + 1 : Nat) : Int) u)]) X.A.in1.in1 a g L go (i + 1) rest (upd H z.heap.objs.size (.tup [.int i, x])) z3 → R () z3) :
    wpAny (model X.prog X.w) X.A (letOwnedTupleGo (.Tuple elts kk tpos) (.ref e) (.ref z.heap.objs.size)) R E { z with heap := h', toks := tk + 1 } := by
  refine wpAny_letOwnedTupleGo_enum (s := { z with heap := h', toks := tk + 1 }) out fun h2 he2 but => ?_
  have but : Heap.SameBut e h' h2 := but
  have k2 : ∀ b o, b ≠ e → z.heap.get? b = some o → h2.get? b = some o := fun b o hb q => (but.2 b hb).trans (keep b o hb q)
  have pair2 : h2.get? z.heap.objs.size = some { cls := .type "tuple", data := .seq #[.int i tk, u] } := (but.2 _ (Nat.ne_of_gt el)).trans hp
  have made : ObjOk X.prog X.w (upd H z.heap.objs.size (.tup [.int (i : Nat), x])) h2 z.heap.objs.size (.tup [.int (i : Nat), x]) :=
    ⟨by show 2 ≤ sizeLine; decide, _, .cons ⟨_, rfl⟩ (.cons ru .nil), ⟨_, pair2, rfl, _, rfl⟩⟩
  have I0 : Inv X pins σ H z := Inv.unpinned (pl := [(e, enO a (i : Int) old)]) I
  have J : Inv X pins σ (upd H z.heap.objs.size (.tup [.int (i : Nat), x])) { z with heap := h2, toks := tk + 1 } :=
    I0.turnedNew (ch := [e]) (fun b o nb q => k2 b o (fun h => nb (by simp [h])) q) (fun b hb => by rw [List.mem_singleton.mp hb]; exact fe) (Nat.le_refl _) made
  have ei : ((i + 1 : Nat) : Int) = (i : Int) + 1 := by omega
  have he3 : h2.get? e = some (enO a ((i + 1 : Nat) : Int) u) := by rw [ei]; exact he2
  have fe2 : FpOk X pins (upd H z.heap.objs.size (.tup [.int i, x])) e := ⟨by rw [upd_ne (Nat.ne_of_lt el)]; exact fe.1, fe.2⟩
  refine hR _ (J.pins_of fun p hp => ?_) fe2 (S.step (s' := { z with heap := h2, toks := tk + 1 }) k2 rfl (Nat.le_refl _))
  rcases List.mem_append.mp hp with q | q
  · exact J.pin p (List.mem_append_right _ q)
  · rw [List.mem_singleton.mp q]
    exact ⟨he3, fe2.1, fe2.2.1, fe2.2.2.1, fun v q => nomatch q⟩
end
end GW

namespace GW
open PySem PySem.Spec PyProof.Rows L2 GenW GT
open Builtin
section
variable {X : Cx} {k : Nat}
/-- for i, x in enumerate(f(..)) -/
theorem ps_forE {iter : Expr} {elts : List Expr} {kk : Nat} {tpos p epos pos : Pos} {body : List Stmt} {tm : TMade} {g : TG} {tb : TS} (hp : PassesOwn (model X.prog X.w) X.A X.env X.xe) (hr : Room (k + 2) X.A) (hi : PMade X k iter tm) (hg : PG (quietX X) (.Tuple elts kk tpos) g) (hb : PSs (quietX X) body tb)
    (gl : Gl X "enumerate") (none_ : X.mg "enumerate" = none) (he : starEach [iter] X.env = (false, eval iter X.env) :: starEach [] X.env := by rfl)
    (hs : ∀ x, foldedSetIterable (.Call (.Name "enumerate" p) [iter] [] epos) X.env x = pure x := by intro _; rfl) : PS X (.For (.Tuple elts kk tpos) (.Call (.Name "enumerate" p) [iter] [] epos) body [] pos) (tForE tm g tb) := by
  refine ⟨fun pins s σ H D I h => wpAny_For ?_ hs⟩
  refine Call_ (ld_blt I gl none_ boot_enumerate ?_)
  refine PyProof.Rows.callWith_type1 ?_ he rfl
  rw [he]
  show wpAny _ _ (spliced ((false, eval iter X.env) :: backTo epos (starEach [] X.env))) _ _ s
  refine Calls.spliced_cons (thn (hi.run pins s σ H _ I h) fun u z ⟨H1, sc, I1, a, g0, go, c, ev, m, dead⟩ => ?_)
  subst ev
  refine Calls.spliced_nil ?_
  refine call_enumG m.isG m.at' fun h' hen kp => wpAny_pyIter_enum hen ?_
  generalize hE : z.heap.objs.size = e at hen
  have hee : h'.get? e = some (enO a ((0 : Nat) : Int) .none) := hen
  have hroom : X.A.in1.depth < recursionLimit := by have := hr.dp; show X.A.depth < _; omega
  have sce : sc.heap.objs.size ≤ e := by rw [← hE]; exact Nat.le_of_lt (Nat.lt_trans m.big m.lt)
  refine codeAny_forLoop_any (fun n s' => (n = sizeLine + 2 ∧ s' = { z with heap := h' }) ∨ ∃ (xs : List V) (W : Nat → L2.St → Hp → Prop) (i : Nat) (σ' : L2.St) (H' : Hp) (old : Value),
    ((∀ (i : Nat) σ H x T, W i σ H → xs[i]? = some x → H T = none → g (.ref T) σ (upd H T (.tup [.int i, x])) fun σ2 H2 => tb { D with nx := W (i + 1), ct := W (i + 1), bk := D.nx } σ2 H2) ∧ ∀ σ H, W xs.length σ H → D.nx σ H) ∧ i ≤ xs.length ∧ n = xs.length - i + 1 ∧
    Inv X (pins ++ [(e, enO a (i : Int) old)]) σ' H' s' ∧ FpOk X pins H' e ∧ W i σ' H' ∧ Slp X (pins ++ [(e, enO a (i : Int) old)]) X.A.in1.in1 a g0 sc.heap.objs.size go i (xs.drop i) H' s') ?_ (sizeLine + 2) (.inl ⟨rfl, rfl⟩)
  -- a pair is out
  have common : ∀ (n : Nat) (xs : List V) (W : Nat → L2.St → Hp → Prop) (i : Nat) (x : V) (T : Addr) (u : Value) (σ' : L2.St) (H' : Hp) (s5 : Shared), (∀ (i : Nat) σ H x T, W i σ H → xs[i]? = some x → H T = none → g (.ref T) σ (upd H T (.tup [.int i, x])) fun σ2 H2 => tb { D with nx := W (i + 1), ct := W (i + 1), bk := D.nx } σ2 H2) →
      (∀ σ H, W xs.length σ H → D.nx σ H) → xs[i]? = some x → xs.length - (i + 1) + 1 < n → W i σ' H' → H' T = none → Inv X (pins ++ [(e, enO a ((i + 1 : Nat) : Int) u)]) σ' (upd H' T (.tup [.int i, x])) s5 → FpOk X pins (upd H' T (.tup [.int i, x])) e →
      Slp X (pins ++ [(e, enO a ((i + 1 : Nat) : Int) u)]) X.A.in1.in1 a g0 sc.heap.objs.size go (i + 1) (xs.drop (i + 1)) (upd H' T (.tup [.int i, x])) s5 →
      wpAny (model X.prog X.w) X.A (assign (.Tuple elts kk tpos) X.env (.ref T)) (fun _ z2 => wpAny (model X.prog X.w) X.A (execs body X.env) (fun f z3 => match f with
            | .next | .cont => ∃ m, m < n ∧ ((m = sizeLine + 2 ∧ z3 = { z with heap := h' }) ∨ ∃ (xs : List V) (W : Nat → L2.St → Hp → Prop) (i : Nat) (σ' : L2.St) (H' : Hp) (old : Value),
    ((∀ (i : Nat) σ H x T, W i σ H → xs[i]? = some x → H T = none → g (.ref T) σ (upd H T (.tup [.int i, x])) fun σ2 H2 => tb { D with nx := W (i + 1), ct := W (i + 1), bk := D.nx } σ2 H2) ∧ ∀ σ H, W xs.length σ H → D.nx σ H) ∧ i ≤ xs.length ∧ m = xs.length - i + 1 ∧
    Inv X (pins ++ [(e, enO a (i : Int) old)]) σ' H' z3 ∧ FpOk X pins H' e ∧ W i σ' H' ∧ Slp X (pins ++ [(e, enO a (i : Int) old)]) X.A.in1.in1 a g0 sc.heap.objs.size go i (xs.drop i) H' z3)
            | .brk => SP X pins D .next z3
            | .ret v => SP X pins D (.ret v) z3) (notedBy (model X.prog X.w) X.A X.env fun e s' => cameBackBy (model X.prog X.w) X.A X.env X.xe e s') z2) (notedBy (model X.prog X.w) X.A X.env fun e s' => cameBackBy (model X.prog X.w) X.A X.env X.xe e s') s5 := by
    intro n xs W i x T u σ' H' s5 step fin hx hn w5 hT I5 fe S
    obtain ⟨pl, J, back⟩ := S.pinned I5
    refine asleep_run0 (hg.run ((pins ++ [(e, enO a ((i + 1 : Nat) : Int) u)]) ++ pl) (cutS s5) σ' _ (.ref T) (.ref T) _ (inv_cut J) rfl (step i σ' H' x T w5 hx hT)) fun _ s6 G6 k6 q6 => ?_
    obtain ⟨σ6, H6, I6, q6⟩ := q6
    have J6 := inv_wake I6 J.bare k6
    refine asleep_run0 (hb.run ((pins ++ [(e, enO a ((i + 1 : Nat) : Int) u)]) ++ pl) (cutS s6) σ6 H6 _ (inv_cut J6) q6) fun f s7 G7 k7 q7 => ?_
    have turn : ∀ {σ7 : L2.St} {H7 : Hp}, Inv (quietX X) ((pins ++ [(e, enO a ((i + 1 : Nat) : Int) u)]) ++ pl) σ7 H7 { s7 with gens := G7 } → W (i + 1) σ7 H7 → ∃ m, m < n ∧ ((m = sizeLine + 2 ∧ s7 = { z with heap := h' }) ∨ ∃ (xs : List V) (W : Nat → L2.St → Hp → Prop) (i : Nat) (σ' : L2.St) (H' : Hp) (old : Value),
    ((∀ (i : Nat) σ H x T, W i σ H → xs[i]? = some x → H T = none → g (.ref T) σ (upd H T (.tup [.int i, x])) fun σ2 H2 => tb { D with nx := W (i + 1), ct := W (i + 1), bk := D.nx } σ2 H2) ∧ ∀ σ H, W xs.length σ H → D.nx σ H) ∧ i ≤ xs.length ∧ m = xs.length - i + 1 ∧
    Inv X (pins ++ [(e, enO a (i : Int) old)]) σ' H' s7 ∧ FpOk X pins H' e ∧ W i σ' H' ∧ Slp X (pins ++ [(e, enO a (i : Int) old)]) X.A.in1.in1 a g0 sc.heap.objs.size go i (xs.drop i) H' s7) := fun {σ7 H7} I7 w7 => by
      have J7 := inv_wake I7 J6.bare k7
      have lt : i < xs.length := (List.getElem?_eq_some_iff.mp hx).1
      have ne : H7 e = none := (J7.pin (e, enO a ((i + 1 : Nat) : Int) u) (by simp)).2.1
      exact ⟨_, hn, .inr ⟨xs, W, i + 1, σ7, H7, u, ⟨step, fin⟩, lt, rfl, J7.unpinned, ⟨ne, fe.2⟩, w7, back J7 fun i y e a => k7.at' i y (k6.at' i y e a) a⟩⟩
    have off : ∀ {σ7 : L2.St} {H7 : Hp}, Inv (quietX X) ((pins ++ [(e, enO a ((i + 1 : Nat) : Int) u)]) ++ pl) σ7 H7 { s7 with gens := G7 } → Inv X pins σ7 H7 s7 := fun {σ7 H7} I7 => Inv.unpinned (pl := [(e, enO a ((i + 1 : Nat) : Int) u)]) (Inv.unpinned (inv_wake I7 J6.bare k7))
    cases f with
    | next => obtain ⟨σ7, H7, I7, w7⟩ := q7; exact turn I7 w7
    | cont => obtain ⟨σ7, H7, I7, w7⟩ := q7; exact turn I7 w7
    | brk => obtain ⟨σ7, H7, I7, w7⟩ := q7; exact ⟨σ7, H7, off I7, w7⟩
    | ret v => obtain ⟨x7, σ7, H7, I7, r7, w7⟩ := q7; exact ⟨x7, σ7, H7, off I7, r7, w7⟩
  rintro n s3 (⟨rfl, rfl⟩ | ⟨xs, W, i, σ3, H3, old, ⟨step, fin⟩, hi3, rfl, I3, fe3, w3, S3⟩)
  · have sp := nextOf_of (made_specialE (A0 := X.A.in1) (s := { z with heap := h' }) (e := e) (eo := enO a ((0 : Nat) : Int) .none) I1 m hr.in1 I1.ok.frames kp rfl rfl (Nat.le_of_eq hE) hee (fun v q => nomatch q))
    refine wpAny_passesOwn hp (pyNext_enumG (s := { z with heap := h' }) (i := ((0 : Nat) : Int)) (old := .none) (R := fun v zz => FirstIs X (pins ++ [(e, enO a ((0 : Nat) : Int) .none)]) X.A.in1.in1 σ a g0 sc.heap.objs.size go _ (some v) zz) hen (wpAny_mono sp (fun v zz q => ⟨?_, q⟩) (fun x zz q => ⟨q.1, ?_⟩)) fun x zz h2 tk q1 out hp2 keep el => ?_)
    · rcases q with ⟨q, _⟩ | ⟨u, x, xs, H', _, _, J, _⟩
      · cases q
      · exact (J.pin (e, enO a ((0 : Nat) : Int) .none) (by simp)).1
    · rcases q.2 with ⟨_, H', J, W, w0, step, fin⟩ | ⟨u, x, xs, H', q, _⟩
      · exact wpAny_execs_nil ⟨σ, H', Inv.unpinned (pl := [(e, enO a ((0 : Nat) : Int) .none)]) J, fin σ H' w0⟩
      · cases q
    · rcases q1 with ⟨q, _⟩ | ⟨u, x', xs, H', eu, ru, J, S, ⟨W, w0, step, fin⟩, len⟩
      · cases q
      · cases eu
        have fe : FpOk X pins H' e := I1.fpOk sce (J.pin (e, enO a ((0 : Nat) : Int) .none) (by simp)).2.1
        refine pair_out (x := x') (i := 0) J fe S ru out hp2 keep el fun z3 J3 fe3 S3 => ?_
        exact common _ (x' :: xs) W 0 x' _ x σ H' z3 step fin rfl (by simp only [List.length_cons] at len ⊢; omega) w0 (J.hok.fresh (Nat.le_refl _)) J3 fe3 S3
  · have sp := nextOf_of (slp_special (A0 := X.A.in1) I3 S3 hr.hd hroom)
    have hen3 : IsEnum s3.heap e a (i : Int) old := (I3.pin (e, enO a (i : Int) old) (by simp)).1
    refine wpAny_passesOwn hp (pyNext_enumG (i := (i : Int)) (old := old) (R := fun v zz => NextIs X (pins ++ [(e, enO a (i : Int) old)]) X.A.in1.in1 σ3 a g0 sc.heap.objs.size go i H3 (xs.drop i) (some v) zz) hen3 (wpAny_mono sp (fun v zz q => ⟨?_, q⟩) (fun x zz q => ⟨q.1, ?_⟩)) fun x zz h2 tk q1 out hp2 keep el => ?_)
    · cases hd : xs.drop i with
      | nil => rw [hd] at q; exact nomatch q.1
      | cons x' rest =>
        rw [hd] at q
        obtain ⟨u, _, _, J, _⟩ := q
        exact (J.pin (e, enO a (i : Int) old) (by simp)).1
    · cases hd : xs.drop i with
      | nil =>
        have q2 := q.2
        rw [hd] at q2
        obtain ⟨_, J⟩ := q2
        have : i = xs.length := Nat.le_antisymm hi3 (List.drop_eq_nil_iff.mp hd)
        subst this
        exact wpAny_execs_nil ⟨σ3, H3, Inv.unpinned (pl := [(e, enO a _ old)]) J, fin σ3 H3 w3⟩
      | cons x' rest =>
        have q2 := q.2
        rw [hd] at q2
        obtain ⟨u, q, _⟩ := q2
        cases q
    · cases hd : xs.drop i with
      | nil => rw [hd] at q1; exact nomatch q1.1
      | cons x' rest =>
        rw [hd] at q1
        obtain ⟨u, eu, ru, J, S⟩ := q1
        cases eu
        have hx : xs[i]? = some x' := by
          have := congrArg List.head? hd
          rw [List.head?_drop] at this
          simpa using this
        have hrest : xs.drop (i + 1) = rest := by
          have := congrArg List.tail hd
          rw [List.tail_drop] at this
          simpa using this
        have lt : i < xs.length := (List.getElem?_eq_some_iff.mp hx).1
        refine pair_out (x := x') (i := i) J fe3 S ru out hp2 keep el fun z3 J3 fe3 S3 => ?_
        exact common _ xs W i x' _ x σ3 H3 z3 step fin hx (by omega) w3 (J.hok.fresh (Nat.le_refl _)) J3 fe3 (by rw [hrest]; exact S3)
end
end GW

/-! a tuple once -/
namespace L2
open PySem PySem.Spec PyProof.Rows
theorem tuple_mulOne (l : Addr) (items : Array Value) (n : Nat) (dd : Option Addr) (sl : Array (Option Value)) (u : Tok) :
    Meets (Builtin.«tuple.__mul__» ⟨[.ref l, .int 1 u], []⟩) (fun _ R s => s.heap.get? l = some { cls := .type "tuple", dict := dd, data := .seq items n, slots := sl } ∧
      R (.ok (.ret (Value.ref l))) s) :=
  .of_wp fun prog w A R s h => by
    obtain ⟨hp, g, d, tk, os⟩ := s
    obtain ⟨hl, h⟩ := h
    have f1 := AutoSeq1.idx_int
    wp_walk using wpAny_loadPart' hl
    exact ⟨_, rfl, h⟩
def rRepOne (K : PySem.W.Frag) : R2 := fun x y H Q => ∃ l xs, x = .ref l ∧ y = .int 1 ∧ SqT K H l xs ∧ Q (.ref l) H
theorem op_repOne {X : Cx} : OpR X (binaryOp .Mult) (rRepOne X.K) := by
  intro pins s σ H x y v u Q I rx ry h
  obtain ⟨l, xs, rfl, rfl, hT, q⟩ := h
  cases rx
  obtain ⟨t, rfl⟩ := ry
  obtain ⟨its, r, ⟨⟨cls, dd, data, sl⟩, ho, hc, n, hd⟩, hs⟩ := I.tuple hT
  simp only at hc hd
  subst hc hd
  refine wpAny_binaryOp_repeat_ref (T := "tuple") (U := "int") (by decide) ⟨_, ho, rfl⟩ (fun s' => typeIs_int s' 1 t) noFill_tuple_mul F.fills_int_mul F.slot_int_rmul repeat_tuple F.slot_int_index.lookup
    (call_meets F.slot_int_rmul (typeIs_int s 1 t) F.entry_int_rmul (F.args_int_rmul_2 _ _) (int_rmul_tuple 1 t l its.toArray n dd sl)
      ⟨ho, rfl, ⟨_, ho, rfl⟩, call_meets F.slot_tuple_mul ⟨_, ho, rfl⟩ F.entry_tuple_mul (F.args_tuple_mul_2 _ _) (tuple_mulOne l its.toArray n dd sl t) ⟨ho, ?_⟩⟩)
  exact ⟨.ref l, H, I, rfl, q⟩
end L2

/-! for in a generator's body -/
namespace GF
open PySem
section
variable {M : Model} {A : Around} {R : GenEnd} {Y : Protocol} {n : Nat} {s₀ : Shared} {c : Code} {fs : List Frame} {s : Shared} {env : Env}
  {K : Flow → Sem PySem.Fin} {H : Value → Sem PySem.Fin} {gd : Bool → Bool} {lv : List Value → List Value}
theorem seg_For {target iter : Expr} {body orelse : List Stmt} {pos : Pos}
    (h : wpAny M (A.over c fs) (eval iter env) (fun x s₁ => wpAny M (A.over c fs) (pyIter x) (fun it s₂ => ∀ p,
      Seg M A R Y n s₀ (.forLoop target it body orelse env) (M.den (.forLoop target it body orelse env))
      (.ret (fun r => ((match r with | .ok f => (.pure f : Sem Flow) | .error e => .raise e).onRaise fun (x : Value) => do
        if (← field x 1) == Value.none then unsupported "frame.own-activation:exception-without-traceback"
        setFlight x env.frame).wrap K H gd lv) none (gd false) (lv []) c p [] :: fs) s₂) (fun x s' => Seg M A R Y n s₀ c (H x) fs s') s₁) (fun x s' => Seg M A R Y n s₀ c (H x) fs s') s)
    (hs : ∀ x, foldedSetIterable iter env x = pure x) :
    Seg M A R Y n s₀ c ((exec (.For target iter body orelse pos) env).wrap K H gd lv) fs s := by
  rw [exec_For]
  refine seg_at ?_
  show Seg M A R Y n s₀ c ((eval iter env >>= fun v => (foldedSetIterable iter env v >>= fun x => (standAt iter.pos >>= fun _ => (holding [x] (pyIter x) >>= fun it => runOwn (.forLoop target it body orelse env) env)))).wrap K H gd lv) fs s
  rw [Sem.bind_eq_wrap', Sem.wrap_wrap]
  refine seg_wrap (wpAny_mono h (fun x s1 h1 => ?_) fun _ _ z => z)
  rw [hs x]
  refine seg_at ?_
  show Seg M A R Y n s₀ c ((holding [x] (pyIter x) >>= fun it => runOwn (.forLoop target it body orelse env) env).wrap K H gd lv) fs s1
  rw [Sem.bind_eq_wrap', Sem.wrap_wrap]
  refine seg_wrap (wpAny_holding (wpAny_mono h1 (fun it s2 h2 => ?_) fun _ _ z => z))
  exact seg_call h2
end
section
variable {prog : Program} {w : World} {A : Around} {R : GenEnd} {Y : Protocol} {n : Nat} {s₀ : Shared} {fs : List Frame} {s : Shared} {env : Env}
/-- an exception within the loop's code -/
abbrev Out (prog : Program) (w : World) (A : Around) (R : GenEnd) (Y : Protocol) (n : Nat) (s₀ : Shared) (c : Code) (fs : List Frame) (env : Env) (x : Value) (s' : Shared) : Prop :=
  Seg (model prog w) A R Y n s₀ c ((do noteFrame x env; theTreesLotGoes x : Sem Unit).wrap (fun _ => .raise x) .raise id id) fs s'
theorem seg_forLoop {target : Expr} {it : Value} {body : List Stmt}
    (h : wpAny (model prog w) (A.over (.forLoop target it body [] env) fs) (pyNext it) (fun r s₁ => match r with
      | none => Seg (model prog w) A R Y n s₀ (.block [] env) ((model prog w).den (.block [] env)) fs s₁
      | some v => wpAny (model prog w) (A.over (.forLoop target it body [] env) fs) (letOwnedTupleGo target it v) (fun _ s₁' => wpAny (model prog w) (A.over (.forLoop target it body [] env) fs) (assign target env v) (fun _ s₂ =>
          Seg (model prog w) A R Y n s₀ (.forLoop target it body [] env) ((execs body env).wrap (fun f => match f with
            | .next | .cont => .pure (.again (.forLoop target it body [] env))
            | .brk => .pure (.done .next)
            | .ret v => .pure (.done (.ret v))) (fun e => (do noteFrame e env; theTreesLotGoes e : Sem Unit).wrap (fun _ => .raise e) .raise id id) id id) fs s₂)
          (Out prog w A R Y n s₀ (.forLoop target it body [] env) fs env) s₁') (Out prog w A R Y n s₀ (.forLoop target it body [] env) fs env) s₁)
      (Out prog w A R Y n s₀ (.forLoop target it body [] env) fs env) s) :
    Seg (model prog w) A R Y n s₀ (.forLoop target it body [] env) ((model prog w).den (.forLoop target it body [] env)) fs s := by
  show Seg _ A R Y n s₀ _ ((forTurn target it body [] env).onRaise (fun x => do noteFrame x env; theTreesLotGoes x)) fs s
  unfold forTurn
  rw [Sem.onRaise_eq_wrap]
  refine seg_at ?_
  have out : ∀ {x : Value} {s' : Shared}, Out prog w A R Y n s₀ (.forLoop target it body [] env) fs env x s' → Seg (model prog w) A R Y n s₀ (.forLoop target it body [] env) ((do noteFrame x env; theTreesLotGoes x : Sem Unit).bind fun _ => .raise x) fs s' := fun {x s'} hx => by
    rw [Sem.bind_eq_wrap]
    exact hx
  show Seg _ A R Y n s₀ _ (((pyNext it).onRaise (fun _ => standAt { target.pos with line := 0 }) >>= fun r => (match r with
    | none => again (.block [] env)
    | some v => (letOwnedTupleGo target it v >>= fun _ => (assign target env v >>= fun _ => (execs body env >>= fun f => (match f with
      | .next => again (.forLoop target it body [] env)
      | .cont => again (.forLoop target it body [] env)
      | .brk => pure (.done .next)
      | .ret v => pure (.done (.ret v)) : Sem PySem.Fin)))) : Sem PySem.Fin)).wrap .pure (fun e => (do noteFrame e env; theTreesLotGoes e : Sem Unit).bind fun _ => .raise e) id id) fs s
  rw [Sem.bind_eq_wrap', Sem.wrap_wrap]
  refine seg_wrap (wpAny_onRaise (wpAny_mono h (fun r s1 h1 => ?_) fun x s' hx => wpAny_standAt (out hx)))
  cases r with
  | none => exact seg_again rfl h1
  | some v =>
    show Seg _ A R Y n s₀ _ ((letOwnedTupleGo target it v >>= fun _ => (assign target env v >>= fun _ => (execs body env >>= fun f => (match f with
      | .next => again (.forLoop target it body [] env)
      | .cont => again (.forLoop target it body [] env)
      | .brk => pure (.done .next)
      | .ret v => pure (.done (.ret v)) : Sem PySem.Fin)))).wrap .pure (fun e => (do noteFrame e env; theTreesLotGoes e : Sem Unit).bind fun _ => .raise e) id id) fs s1
    rw [Sem.bind_eq_wrap', Sem.wrap_wrap]
    refine seg_wrap (wpAny_mono h1 (fun _ s2 h2 => ?_) fun x s' hx => out hx)
    rw [Sem.bind_eq_wrap', Sem.wrap_wrap]
    refine seg_wrap (wpAny_mono h2 (fun _ s3 h3 => ?_) fun x s' hx => out hx)
    rw [Sem.bind_eq_wrap', Sem.wrap_wrap]
    rw [Sem.wrap_congr (execs body env) _ _ (K' := fun f => match f with
          | .next | .cont => .pure (.again (.forLoop target it body [] env))
          | .brk => .pure (.done .next)
          | .ret v => .pure (.done (.ret v))) (H' := (fun e => (do noteFrame e env; theTreesLotGoes e : Sem Unit).wrap (fun _ => .raise e) .raise id id))
      (fun f => by cases f <;> rfl)
      (fun e => by first | exact Sem.bind_eq_wrap _ _ | (show (do noteFrame e env; theTreesLotGoes e : Sem Unit).bind (fun _ => .raise e) = _; rw [Sem.bind_eq_wrap]))]
    exact h3
end
end GF

namespace L2
open PySem PySem.Spec PyProof.Rows GenW
section
variable {X : Cx} {tg : Expr}
def tGFor (wi : TI) (g : TG) (tb : TGn) : TGn := fun D ys σ H => wi σ H fun J H1 => ∃ W : Nat → Nat → List V → St → Hp → Prop, (∃ m, W 0 m ys σ H1) ∧ ∀ i m ys σ H, W i m ys σ H →
  (J.stop i H ∧ D.nx ys σ H) ∨ (J.go i H ∧ ∃ N : List V → St → Hp → Prop, (∀ ys' σ' H', N ys' σ' H' → ∃ m', m' < m ∧ W (i + 1) m' ys' σ' H') ∧ ∀ x H', J.yld i H x H' → g x σ H' fun σ2 H2 => tb { D with nx := N, ct := N, bk := D.nx } ys σ2 H2)
theorem gs_for {iter : Expr} {body : List Stmt} {wi : TI} {g : TG} {tb : TGn} {pos : Pos} (hp : PassesOwn (model X.prog X.w) X.A X.env X.xe) (hc : X.calm = true) (hi : PI X tg iter wi) (hg : PG X tg g) (hb : GSs X body tb)
    (hs : ∀ x, foldedSetIterable iter X.env x = pure x := by intro _; rfl) : GS X (.For tg iter body [] pos) (tGFor wi g tb) := by
  refine ⟨fun A S ip R n ys s₀ c fs K J gd lv s σ H D g0 hn k hI ht => ?_⟩
  obtain ⟨acc0, cc0, r0, I0⟩ := hI
  refine GF.seg_For ?_ hs
  rw [g0.over]
  refine wpAny_mono (hi.run _ s σ H _ I0 ht) (fun v s1 h1 => wpAny_mono h1 (fun itv s2 h2 => ?_) fun x s' hx => k.exc n s₀ x s' hx) fun x s' hx => k.exc n s₀ x s' hx
  obtain ⟨it, fp, tn, Jt, H2, e, I2, T, st2, f2, W, ⟨m0, w0⟩, turn⟩ := h2
  subst e
  intro p
  have gl := fun (kk : Result → Sem PySem.Fin) => gc_loop (k := kk) (c' := .forLoop tg (.ref it) body [] X.env) (l := lv []) (kp := []) (p := p) g0 rfl rfl
  have stat : ∀ {acc : Array Value} {cc : Nat} {H' : Hp}, (∀ b ∈ fp, H' b = none) → ∀ b ∈ fp, FpOk X ((S, lstObj acc cc) :: ip) H' b := fun {acc cc H'} hn b hb => by
    obtain ⟨_, f3, f4, f5, f6, f7⟩ := f2 b hb
    refine ⟨hn b hb, f3, f4, f5, f6, fun q hq => ?_⟩
    rcases List.mem_append.mp hq with z | z
    · exact f7 q (List.mem_append_left _ z)
    · rcases List.mem_cons.mp z with z | z
      · subst z
        exact f7 (S, lstObj acc0 cc0) (List.mem_append_right _ (List.mem_cons_self ..))
      · exact f7 q (List.mem_append_right _ (List.mem_cons_of_mem _ z))
  have apartS : ∀ b ∈ fp, b ≠ S := fun b hb z => by
    obtain ⟨_, _, _, _, _, f7⟩ := f2 b hb
    exact f7 (S, lstObj acc0 cc0) (List.mem_append_right _ (List.mem_cons_self ..)) z.symm
  have loop : ∀ (m i n : Nat) (ys : List V) (s₀ s : Shared) (σ : St) (H : Hp), n + ys.length = sizeLine → W i m ys σ H → GI X S ip ys σ H s → tn i s.heap → (∀ b ∈ fp, H b = none) →
      Seg (model X.prog X.w) A R (GY X S) n s₀ (.forLoop tg (.ref it) body [] X.env) ((model X.prog X.w).den (.forLoop tg (.ref it) body [] X.env))
        (.ret (fun r => ((match r with | .ok f => (.pure f : Sem Flow) | .error e => .raise e).onRaise (cameBack X.env)).wrap K J gd lv) none (gd false) (lv []) c p [] :: fs) s := by
    intro m
    induction m using Nat.strongRecOn with
    | ind m ih =>
      intro i n ys s₀ s σ H hn w hI st fr
      have ee : ∀ (n : Nat) (s₀ : Shared) (x : Value) (s' : Shared), X.xe x s' → GF.Out X.prog X.w A R (GY X S) n s₀ (.forLoop tg (.ref it) body [] X.env)
          (.ret (fun r => ((match r with | .ok f => (.pure f : Sem Flow) | .error e => .raise e).onRaise (cameBack X.env)).wrap K J gd lv) none (gd false) (lv []) c p [] :: fs) X.env x s' := fun n s₀ x s' hx => by
        refine seg_wrap ?_
        rw [(gl _).over]
        refine wpAny_bind (wpAny_mono (hp x s' hx) (fun _ s'' hcb => wpAny_theTreesLotGoes ?_) fun y s'' hcb => ?_)
        · exact seg_leaf (.error x) (seg_cameBack g0 k hcb)
        · exact seg_leaf (.error y) (seg_cameBack g0 k hcb)
      refine GF.seg_forLoop ?_
      rw [(gl _).over]
      obtain ⟨acc, cc, r, I⟩ := hI
      rcases turn i m ys σ H w with ⟨stop, qn⟩ | ⟨go, N, hN, step⟩
      · refine wpAny_mono (T.done X rfl rfl rfl hc i _ s σ H X.xe I (stat fr) st stop) (fun r1 s4 hr4 => ?_) fun x s' hx => ee n s₀ x s' hx
        obtain ⟨hr, I4⟩ := hr4
        subst hr
        exact seg_leaf (.ok .next) (k.ok n ys s₀ s4 .next hn ⟨σ, H, ⟨acc, cc, r, I4⟩, qn⟩)
      · refine wpAny_mono (T.item X rfl rfl rfl hc i _ s σ H X.xe I (stat fr) st go) (fun r1 s4 hr4 => ?_) fun x s' hx => ee n s₀ x s' hx
        obtain ⟨u, hr, h4⟩ := hr4
        subst hr
        refine wpAny_mono h4 (fun _ s5 h5 => ?_) fun x s' hx => ee n s₀ x s' hx
        obtain ⟨x, H5, I5, r5, y5, st5, fr5⟩ := h5
        have I5' := I5.pinned (stat fr5) (T.obj _ _ st5)
        refine wpAny_mono (hg.run _ s5 σ H5 x u _ I5' r5 (step x H5 y5)) (fun _ s6 h6 => ?_) fun x s' hx => ee n s₀ x s' hx
        obtain ⟨σ6, H6, I6, q6⟩ := h6
        have gl2 := fun (kk : Result → Sem PySem.Fin) => gl kk
        refine hb.run A S (ip ++ pinsAt fp s5.heap) R n ys s₀ _ _ _ _ id id s6 σ6 H6 { D with nx := N, ct := N, bk := D.nx } ⟨g0.pn, fun q hq => ?_, g0.apart, (gl _).over, (gl _).split, (gl _).guard, rfl⟩ hn ⟨fun n' ys' s₀' s7 f hn' hs => ?_, fun n' s₀' x s7 hx => ee n' s₀' x s7 hx⟩ ⟨acc, cc, r, I6⟩ q6
        · rcases List.mem_append.mp hq with z | z
          · exact g0.ip q z
          · exact apartS _ (of_pinsAt z).1
        have back : ∀ {σ7 : St} {H7 : Hp}, GI X S (ip ++ pinsAt fp s5.heap) ys' σ7 H7 s7 → GI X S ip ys' σ7 H7 s7 ∧ tn (i + 1) s7.heap ∧ ∀ b ∈ fp, H7 b = none := fun {σ7 H7} z => by
          obtain ⟨acc7, cc7, r7, I7⟩ := z
          refine ⟨⟨acc7, cc7, r7, Inv.unpinned (pl := pinsAt fp s5.heap) I7⟩, T.keep _ _ _ st5 fun b hb o e => ?_, fun b hb => ?_⟩
          · exact (I7.pin (b, o) (List.mem_append_right _ (List.mem_cons_of_mem _ (List.mem_append_right _ (mem_pinsAt hb e))))).1
          · obtain ⟨o, e, d⟩ := T.obj _ _ st5 b hb
            exact (I7.pin (b, o) (List.mem_append_right _ (List.mem_cons_of_mem _ (List.mem_append_right _ (mem_pinsAt hb e))))).2.1
        cases f with
        | next =>
          obtain ⟨σ7, H7, I7, n7⟩ := hs
          obtain ⟨m', hm, w7⟩ := hN ys' σ7 H7 n7
          obtain ⟨J7, t7, fr7⟩ := back I7
          exact seg_again rfl (ih m' hm (i + 1) n' ys' s₀' s7 σ7 H7 hn' w7 J7 t7 fr7)
        | cont =>
          obtain ⟨σ7, H7, I7, n7⟩ := hs
          obtain ⟨m', hm, w7⟩ := hN ys' σ7 H7 n7
          obtain ⟨J7, t7, fr7⟩ := back I7
          exact seg_again rfl (ih m' hm (i + 1) n' ys' s₀' s7 σ7 H7 hn' w7 J7 t7 fr7)
        | brk =>
          obtain ⟨σ7, H7, I7, n7⟩ := hs
          exact seg_leaf (.ok .next) (k.ok n' ys' s₀' s7 .next hn' ⟨σ7, H7, (back I7).1, n7⟩)
        | ret v =>
          obtain ⟨x7, σ7, H7, I7, r7, n7⟩ := hs
          exact seg_leaf (.ok (.ret v)) (k.ok n' ys' s₀' s7 (.ret v) hn' ⟨x7, σ7, H7, (back I7).1, r7, n7⟩)
  exact loop m0 0 n ys s₀ s2 σ H2 hn w0 ⟨acc0, cc0, r0, I2⟩ st2 fun b hb => (f2 b hb).1
end
end L2

open PySem L2 G
local macro_rules | `(tactic| tm_at "at") => `(tactic| (first | with_reducible exact At.z | (with_reducible apply At.s; tm_at "at")))
local macro_rules | `(tactic| tm_at "tp") => `(tactic| (first
  | exact Tp.refl _
  | assumption
  | exact tp_same (by assumption)
  | exact Kp.t (by assumption)
  | (refine Tp.trans ?_ (tp_same (by assumption)); tm_at "tp")
  | (refine Tp.trans ?_ (Kp.t (by assumption)); tm_at "tp")
  | (refine Tp.trans ?_ (tp_same (same_new (by assumption))); tm_at "tp")))
local macro_rules | `(tactic| tm_at "same") => `(tactic| (first
  | exact Same.refl _
  | assumption
  | (refine Same.trans ?_ (by assumption); tm_at "same")
  | (refine Same.trans ?_ (same_new (by assumption)); tm_at "same")))
local macro_rules | `(tactic| tm_at "dt") => `(tactic| (first
  | assumption
  | exact Dt.int _ | exact Dt.str _ | exact Dt.bl _ | exact Dt.non
  | (refine Dt.mono ?_ (by assumption); tm_at "tp")))
local macro_rules | `(tactic| tm_at "dts") => `(tactic| (first
  | exact DtAll.nil
  | (with_reducible apply DtAll.cons; tm_at "dt"; tm_at "dts")))
local macro_rules | `(tactic| tm_at "s") => `(tactic| first
  | (refine gRE ?_; first | refine e_var (by tm_at "at") ?_ | refine e_int ?_ | refine e_str ?_ | refine e_non ?_ | refine e_bl ?_ | refine e_bin ?_ | refine e_cmp ?_ | refine e_chain ?_ | refine e_dgetS ?_ | refine e_sliceS ?_ | refine e_slice ?_ | refine e_ix ?_ | refine e_not ?_ | refine e_bo1 ?_ | refine e_or ?_ | refine e_and ?_ | refine e_un ?_ | refine e_if ?_ | refine e_callB (id := "isinstance") (by with_reducible exact Bl.isinst (by assumption)) (by decide +kernel) ?_ | refine e_bltn (v := .ty "int") (u := .type "int") (by with_reducible exact Bl.int (by assumption)) (by decide +kernel) rfl ?_ | refine e_bltn (v := .ty "str") (u := .type "str") (by with_reducible exact Bl.str (by assumption)) (by decide +kernel) rfl ?_ | refine e_bltn (v := .ty "bool") (u := .type "bool") (by with_reducible exact Bl.bool (by assumption)) (by decide +kernel) rfl ?_ | refine e_bltn (v := .ty "tuple") (u := .type "tuple") (by with_reducible exact Bl.tuple (by assumption)) (by decide +kernel) rfl ?_ | refine e_callT (T := "int") (by with_reducible exact Bl.int (by assumption)) (by decide +kernel) ?_ | refine e_callB (id := "len") (by with_reducible exact Bl.len (by assumption)) (by decide +kernel) ?_ | refine e_callB (id := "max") (by with_reducible exact Bl.max (by assumption)) (by decide +kernel) ?_ | refine e_callB (id := "min") (by with_reducible exact Bl.min (by assumption)) (by decide +kernel) ?_ | refine e_callT (T := "tuple") (by with_reducible exact Bl.tuple (by assumption)) (by decide +kernel) ?_ | refine e_callT (T := "dict") (by with_reducible exact Bl.dict (by assumption)) (by decide +kernel) ?_ | refine e_callB (id := "sorted") (by with_reducible exact Bl.sorted (by assumption)) (by decide +kernel) ?_ | refine e_callT (T := "list") (by with_reducible exact Bl.list (by assumption)) (by decide +kernel) ?_)
  | (refine gRA ?_; first | refine a_cons ?_ | refine a_nil ?_)
  | (refine gRX ?_; first | refine rx_int (by tm_at "dt") (by rfl) ?_ | refine rx_str (by tm_at "dt") (by rfl) ?_ | refine rx_bl (by tm_at "dt") (by rfl) ?_)
  | (refine gRQ ?_; first | refine ro_eqI ?_ | refine ro_eqS ?_ | refine ro_eqB ?_ | refine ro_neI ?_ | refine ro_lt ?_ | refine ro_le ?_ | refine ro_gt ?_ | refine ro_ge ?_ | refine ro_isN ?_ | refine ro_notN ?_)
  | (refine gRS ?_; first | refine s_ret ?_ | refine s_if ?_ | refine s_retN ?_ | refine s_dputS ?_ | refine s_par2 (by tm_at "at") (by tm_at "at") ?_ | refine s_par3 (by tm_at "at") (by tm_at "at") (by tm_at "at") ?_ | refine s_set (by tm_at "at") ?_)
  | (refine gRT ?_; first | refine t_cmp ?_ | refine t_chain ?_ | refine t_not ?_ | refine t_w (e := .BoolOp _ _ _) ?_)
  | (refine gRW ?_; first | refine w_and ?_ | refine w_or ?_ | refine w_and1 ?_ | refine w_or1 ?_)
  | (refine gRO ?_; first | refine ro_add ?_ | refine ro_sub ?_)
  | (refine gRC ?_; first | refine rc_max2 ?_ | refine rc_min2 ?_ | refine rc_intI ?_ | refine rc_intB ?_)
  | (refine gRG ?_; first | refine g_name (by tm_at "at") ?_)
  | (refine gRPo ?_; first | refine p_none ?_ | refine p_some ?_)
  | (refine gRU ?_; first | refine ru_neg ?_)
  | with_reducible refine ⟨_, rfl, ?_⟩
  | with_reducible refine ifT rfl ?_)
local macro_rules | `(tactic| tm_at "run") => `(tactic| repeat tm_at "s")
local macro_rules | `(tactic| tm_at "go") => `(tactic| repeat (first | tm_at "s" | (refine gRB ?_; first | refine b_one ?_ | refine b_cons ?_ | refine b_nil ?_)))

namespace K
open PySem L2 G
variable {M : Md}
def preDraw : List PyData → Prop := fun ds => ∃ m : Int, ds = [.int m] ∧ 0 < m ∧ m < 1000
def rDraw : List PyData → PyData → Prop := fun ds d => ∃ m r : Int, ds = [.int m] ∧ d = .int r ∧ 0 ≤ r ∧ r < m
theorem ok_draw {f fd} (F : Fun M.K "_law_draw" "_law_draw" s__law_draw f fd) (b : Bl M) : FnG M.prog M.w M.K M.mg M.base CX0 1 f fd ["_law_feed_here", "_law_many_here"] (spD preDraw rDraw M.K) := by
  refine fn_ok F sc__law_draw (spD_len (n := 1) (by rintro ds ⟨m, rfl, _⟩; rfl)) (fun H vs Q E h => ?_)
  obtain ⟨fp, cl, rest, ds, rfl, ⟨ns, at0, left, count, h1, h2, h3⟩, hds, ⟨m, rfl, m0, m1⟩, k⟩ := h
  obtain _ | ⟨hm, hds⟩ := hds
  cases hds
  cases hm
  have ncl : cl ≠ fp := fun e => by rw [e, h1] at h2; cases h2
  tm_at "go"
  refine ⟨_, _, _, rfl, h1, fkv_3, ?_⟩
  tm_at "run"
  refine ⟨_, _, rfl, h1, by rw [fkv_len]; decide, ?_⟩
  rw [fput_3]
  have k1 : Kp fp H (upd H fp (.dK (fkv (.ref cl) at0 left (count + 1)))) := kp_fd h1
  have g1 : (upd H fp (.dK (fkv (.ref cl) at0 left (count + 1)))) fp = _ := upd_same
  generalize upd H fp (.dK (fkv (.ref cl) at0 left (count + 1))) = H1 at *
  have n1 := k1.k cl _ ncl h2
  tm_at "go"
  refine ⟨_, _, _, rfl, g1, fkv_0, ?_⟩
  refine e_lst ?_
  tm_at "run"
  refine ⟨by decide, fun pe hpe => ?_⟩
  have s3 : Same H1 (upd H1 pe (.lst [])) := same_new hpe
  have g3 : (upd H1 pe (.lst [])) pe = some (.lst []) := upd_same
  have k1 := k1.trans (kp_same s3)
  have g1 := s3 _ _ g1
  have n1 := s3 _ _ n1
  generalize upd H1 pe (.lst []) = H2 at *
  refine ro_eqD (.lst (SqL.of n1) (dpInts ns)) (.lst (SqL.of g3) .nil) (shInts ns) (by decide) ?_
  refine ⟨_, rfl, ifb (fun e => ?_) (fun e => ?_)⟩
  · tm_at "go"
    refine ⟨_, _, _, rfl, g1, fkv_3, ?_⟩
    tm_at "go"
    refine ro_mod m0 ?_
    exact k (.int _) _ _ ⟨m, _, rfl, rfl, Int.emod_nonneg _ (by omega), Int.emod_lt_of_pos _ m0⟩ k1 ⟨ns, _, _, _, g1, n1, h3⟩ (.int _)
  have hn : 0 < ns.length := by
    cases ns with
    | nil => exact absurd e (by decide)
    | cons => exact Nat.succ_pos _
  tm_at "go"
  refine ⟨_, _, _, rfl, g1, fkv_2, ?_⟩
  tm_at "run"
  refine ifd (fun c1 => ?_) (fun c1 => ?_)
  · tm_at "go"
    refine ⟨_, _, _, rfl, g1, fkv_2, ?_⟩
    tm_at "run"
    refine ro_mod m0 ?_
    tm_at "go"
    refine ⟨_, _, _, rfl, g1, fkv_2, ?_⟩
    tm_at "run"
    refine ro_div m0 (by omega) ?_
    tm_at "run"
    refine ⟨_, _, rfl, g1, by rw [fkv_len]; decide, ?_⟩
    rw [fput_2]
    have k2 := k1.trans (kp_fd (o' := .dK (fkv (.ref cl) at0 (left / m) (count + 1))) g1)
    have n2 := k2.k cl _ ncl h2
    tm_at "go"
    refine k (.int (left % m)) _ _ ⟨m, _, rfl, rfl, Int.emod_nonneg _ (by omega), Int.emod_lt_of_pos _ m0⟩ k2 ⟨ns, _, _, _, upd_same, n2, h3⟩ (.int _)
  tm_at "go"
  refine ⟨_, _, _, rfl, g1, fkv_1, ?_⟩
  tm_at "go"
  refine ⟨_, _, rfl, g1, by rw [fkv_len]; decide, ?_⟩
  rw [fput_1]
  have k2 : Kp fp H (upd H2 fp (.dK (fkv (.ref cl) (at0 + 1) left (count + 1)))) := k1.trans (kp_fd g1)
  have g2 : (upd H2 fp (.dK (fkv (.ref cl) (at0 + 1) left (count + 1)))) fp = _ := upd_same
  generalize upd H2 fp (.dK (fkv (.ref cl) (at0 + 1) left (count + 1))) = H3 at *
  have n2 := k2.k cl _ ncl h2
  tm_at "go"
  refine ⟨_, _, _, rfl, g2, fkv_0, ?_⟩
  tm_at "run"
  refine ⟨_, _, _, rfl, g2, fkv_0, ?_⟩
  tm_at "run"
  refine rc_lenL (SqL.of n2) ?_
  rw [List.length_map]
  refine ro_mod (by omega) ?_
  have lt : (at0 % (ns.length : Int)).toNat < ns.length := by
    have h1 := Int.emod_nonneg at0 (show (ns.length : Int) ≠ 0 by omega)
    have h2 := Int.emod_lt_of_pos at0 (show (0 : Int) < ns.length by omega)
    omega
  refine rx_list (SqL.of n2) (v := .int ns[(at0 % (ns.length : Int)).toNat]) ?_ ?_
  · have h1 := Int.emod_nonneg at0 (show (ns.length : Int) ≠ 0 by omega)
    refine pl_at (j := (at0 % (ns.length : Int)).toNat) (by omega) ?_
    rw [List.getElem?_map, List.getElem?_eq_getElem lt]; rfl
  generalize ns[(at0 % (ns.length : Int)).toNat] = cell
  refine b_cut (fun σ1 H4 => H4 = H3 ∧ σ1 = [some (.ref fp), some (.int m), none, some (.int at0), some (.int cell), none]) ?_ ?_
  · tm_at "run"
    refine ro_pow ⟨by decide, by decide, by decide⟩ ?_
    tm_at "run"
    refine ifd (fun c2 => ?_) (fun c2 => ?_)
    · tm_at "run"
      refine ⟨_, _, _, rfl, g2, fkv_0, ?_⟩
      tm_at "run"
      refine rc_lenL (SqL.of n2) ?_
      tm_at "run"
      refine ifd (fun c3 => ?_) (fun c3 => ?_)
      · tm_at "go"
        refine ro_div m0 (by omega) ?_
        tm_at "run"
        refine ⟨_, _, rfl, g2, by rw [fkv_len]; decide, ?_⟩
        rw [fput_2]
        tm_at "go"
        refine ro_mod m0 ?_
        have k4 := k2.trans (kp_fd (o' := .dK (fkv (.ref cl) (at0 + 1) (cell / m) (count + 1))) g2)
        refine k (.int (cell % m)) _ _ ⟨m, _, rfl, rfl, Int.emod_nonneg _ (by omega), Int.emod_lt_of_pos _ m0⟩ k4 ⟨ns, _, _, _, upd_same, k4.k cl _ ncl h2, h3⟩ (.int _)
      · tm_at "go"
        exact ⟨rfl, rfl⟩
    · tm_at "go"
      exact ⟨rfl, rfl⟩
  rintro _ _ ⟨rfl, rfl⟩
  tm_at "go"
  refine ro_mod (by decide) ?_
  tm_at "go"
  refine ⟨_, _, _, rfl, g2, fkv_3, ?_⟩
  refine ro_mul (.inl ⟨by decide, by decide⟩) ?_
  tm_at "go"
  refine ro_mod (by decide) ?_
  generalize hmx : (cell % 1000001671 + 95317 * (count + 1) + 613) % 2147483549 = mx
  have b1 : 0 ≤ mx ∧ mx < 2147483549 := by rw [← hmx]; exact ⟨Int.emod_nonneg _ (by decide), Int.emod_lt_of_pos _ (by decide)⟩
  tm_at "go"
  refine ro_pow ⟨by decide, by decide, by omega⟩ ?_
  tm_at "go"
  refine ⟨_, _, _, rfl, g2, fkv_3, ?_⟩
  refine ro_mul (.inl ⟨by decide, by decide⟩) ?_
  tm_at "go"
  refine ro_mod (by decide) ?_
  generalize hmy : (mx ^ (3 : Int).toNat + 7300331 * (count + 1) + 313) % 2147483489 = my
  have b2 : 0 ≤ my ∧ my < 2147483489 := by rw [← hmy]; exact ⟨Int.emod_nonneg _ (by decide), Int.emod_lt_of_pos _ (by decide)⟩
  tm_at "go"
  refine ro_pow ⟨by decide, by decide, by omega⟩ ?_
  tm_at "go"
  refine ro_mul (.inl ⟨by decide, by decide⟩) ?_
  tm_at "go"
  refine ro_mod (by decide) ?_
  tm_at "go"
  refine ro_div (by decide) (by decide) ?_
  tm_at "go"
  refine ro_mod m0 ?_
  exact k (.int _) _ _ ⟨m, _, rfl, rfl, Int.emod_nonneg _ (by omega), Int.emod_lt_of_pos _ m0⟩ k2 ⟨ns, _, _, _, g2, n2, h3⟩ (.int _)
/-- a script, and how many rounds it has -/
def spMany (K : PySem.W.Frag) : Sp := fun vs H Q _ => ∃ (a : Addr) (ns : List Int) (n : Int), vs = [.ref a, .int n] ∧ SqL K H a (ns.map V.int) ∧ ∀ H', Same H H' → Q (.int (if ns = [] then 1 else n)) H'
theorem ok_many {f fd} (F : Fun M.K "_law_many" "_law_many" s__law_many f fd) (b : Bl M) : FnG M.prog M.w M.K M.mg M.base CX0 1 f fd ["_law_script", "_law_count"] (spMany M.K) := by
  refine fn_ok F sc__law_many (fun vs H Q E h => ?_) (fun H vs Q E h => ?_)
  · obtain ⟨a, ns, n, rfl, _⟩ := h
    rfl
  obtain ⟨a, ns, n, rfl, hs, k⟩ := h
  tm_at "go"
  refine e_lst ?_
  tm_at "run"
  refine ⟨by decide, fun pe hpe => ?_⟩
  have s3 : Same H (upd H pe (.lst [])) := same_new hpe
  refine ro_neD (.lst (s3.seq hs) (dpInts ns)) (.lst (SqL.of upd_same) .nil) (shInts ns) (by decide) ?_
  refine ⟨_, rfl, ifb (fun e => ?_) (fun e => ?_)⟩
  · have hn : ns ≠ [] := by
      rintro rfl
      exact absurd e (by decide)
    tm_at "go"
    have := k _ s3
    rw [if_neg hn] at this
    exact this
  · have hn : ns = [] := by
      cases ns with
      | nil => rfl
      | cons => exact absurd e (by simp [PyData.eqv, PyData.eqvAll])
    tm_at "go"
    have := k _ s3
    rw [if_pos hn] at this
    exact this
end K

namespace K
open PySem L2 G
def rowD (r : Str × Nat × Int × Int × Bool × Bool × Int) : PyData := .tuple [.str r.1, .int r.2.1, .int r.2.2.1, .int r.2.2.2.1, .bool r.2.2.2.2.1, .bool r.2.2.2.2.2.1, .int r.2.2.2.2.2.2]
abbrev Row := Str × Nat × Int × Int × Bool × Bool × Int
def width (r : Row) : Nat := max 1 r.2.1
def rWidth : List PyData → PyData → Prop := fun ds d => ∃ r : Row, ds = [rowD r] ∧ d = .int (width r)
variable {M : Md}
theorem ok_width {f fd} (F : Fun M.K "row_width" "row_width" s_row_width f fd) (b : Bl M) : FnG M.prog M.w M.K M.mg M.base CX0 1 f fd ["row"] (spF rWidth M.K) := by
  refine fn_ok F sc_row_width (fun vs H Q E h => ?_) (fun H vs Q E h => ?_)
  · obtain ⟨ds, d, h, ⟨r, rfl, _⟩, _⟩ := h
    exact h.len
  obtain ⟨ds, d, h, ⟨r, rfl, rfl⟩, k⟩ := h
  cases h with
  | cons h1 h2 =>
  cases h2
  tm_at "go"
  have e : (if ((r.2.1 : Nat) : Int) > 1 then ((r.2.1 : Nat) : Int) else 1) = ((width r : Nat) : Int) := by unfold width; split <;> omega
  rw [e]
  exact k _ _ (Same.refl _) (.int _)

def hit (r : Row) : Option Int → Int → Option Int
  | none, b => if (r.2.1 : Int) = 0 then some b else none
  | some k, b => if 0 ≤ k ∧ k < r.2.1 then some (b + k) else none
def fIdx : List Row → Str → Option Int → Int → Option Int
  | [], _, _, _ => none
  | r :: rs, nm, key, b => if r.1 = nm then hit r key b else fIdx rs nm key (b + width r)
def optD : Option Int → PyData
  | none => .none
  | some k => .int k
def cellsD (rs : List Row) : PyData := .tuple (rs.map rowD)
def rFound : List PyData → PyData → Prop := fun ds d => ∃ (rs : List Row) (nm : Str) (key : Option Int), ds = [cellsD rs, .str nm, optD key] ∧ d = optD (fIdx rs nm key 0)
theorem ok_found {f fd} (F : Fun M.K "found_index" "found_index" s_found_index f fd) (dw : Dc M "row_width" ["row"] 1 (spF rWidth M.K)) : FnG M.prog M.w M.K M.mg M.base CX0 2 f fd ["cells", "name", "key"] (spF rFound M.K) := by
  refine fn_ok F sc_found_index (fun vs H Q E h => ?_) (fun H vs Q E h => ?_)
  · obtain ⟨ds, d, h, ⟨rs, nm, key, rfl, _⟩, _⟩ := h
    exact h.len
  obtain ⟨ds, d, h, ⟨rs, nm, key, rfl, rfl⟩, k⟩ := h
  obtain _ | ⟨hc, h⟩ := h
  obtain _ | ⟨hn, h⟩ := h
  obtain _ | ⟨hk, h⟩ := h
  cases h
  cases hn
  obtain ⟨a, xs, rfl, hxs, hrs⟩ := hc.tupE
  rename_i vk
  tm_at "go"
  refine s_forT ?_
  tm_at "s"
  refine ⟨a, xs, rfl, hxs, fun i σ1 H1 => ∃ (b : Int) (v : Option V), σ1 = [some (.ref a), some (.str nm), some vk, some (.int b), v] ∧ Same H H1 ∧ fIdx rs nm key 0 = fIdx (rs.drop i) nm key b, ⟨0, _, rfl, Same.refl _, rfl⟩, ?_, ?_, ?_⟩
  · rintro i σ' H' _ ⟨b, v, rfl, s, _⟩
    exact (tp_same s).sqt hxs
  · rintro i x σ' H' hx ⟨b, v, rfl, s, e⟩
    obtain ⟨d, hd, hx'⟩ := hrs.getV hx
    rw [List.getElem?_map] at hd
    obtain ⟨r, hr, rfl⟩ := Option.map_eq_some_iff.mp hd
    have ed : rs.drop i = r :: rs.drop (i + 1) := by
      obtain ⟨h1, h2⟩ := List.getElem?_eq_some_iff.mp hr
      rw [← h2]; exact List.drop_eq_getElem_cons h1
    rw [ed] at e
    refine g_name (by tm_at "at") ?_
    tm_at "go"
    refine ifd (fun c1 => ?_) (fun c1 => ?_)
    · cases key with
      | none =>
        cases hk
        tm_at "go"
        refine ifd (fun c2 => ?_) (fun c2 => ?_)
        · tm_at "go"
          refine k _ _ s ?_
          rw [e, fIdx, if_pos c1, hit, if_pos c2]; exact .int _
        · tm_at "go"
          refine k _ _ s ?_
          rw [e, fIdx, if_pos c1, hit, if_neg c2]; exact .non
      | some kk =>
        cases hk
        tm_at "go"
        refine ifd (fun c2 => ?_) (fun c2 => ?_)
        · tm_at "go"
          refine ifd (fun c3 => ?_) (fun c3 => ?_)
          · tm_at "go"
            refine k _ _ s ?_
            rw [e, fIdx, if_pos c1, hit, if_pos ⟨c2, c3⟩]; exact .int _
          · tm_at "go"
            refine k _ _ s ?_
            rw [e, fIdx, if_pos c1, hit, if_neg fun z => c3 z.2]; exact .non
        · tm_at "go"
          refine k _ _ s ?_
          rw [e, fIdx, if_pos c1, hit, if_neg fun z => c2 z.1]; exact .non
    · tm_at "go"
      refine e_callF dw ?_
      tm_at "go"
      refine ⟨_, _, by tm_at "dts", ⟨r, rfl, rfl⟩, fun v' H2 s2 hv => ?_⟩
      cases hv
      tm_at "go"
      refine ⟨_, _, rfl, s.trans s2, ?_⟩
      rw [e, fIdx, if_neg c1]
  · rintro σ' H' ⟨b, v, rfl, s, e⟩
    tm_at "go"
    refine k _ _ s ?_
    rw [e, List.drop_eq_nil_of_le (by have := hrs.len; rw [List.length_map] at this; omega)]
    exact .non

def total (rs : List Row) : Nat := (rs.map width).sum
def pairD (r : Row) : PyData := .tuple [.int r.2.2.1, .int r.2.2.2.1]
def rngs (rs : List Row) : List PyData := rs.flatMap fun r => List.replicate (width r) (pairD r)
theorem rngs_len : ∀ rs : List Row, (rngs rs).length = total rs
  | [] => rfl
  | r :: rs => by
    have := rngs_len rs
    simp only [rngs, total, List.flatMap_cons, List.length_append, List.length_replicate, List.map_cons, List.sum_cons] at *
    omega
theorem rngs_snoc {rs : List Row} {i : Nat} {r : Row} (h : rs[i]? = some r) : rngs (rs.take (i + 1)) = rngs (rs.take i) ++ List.replicate (width r) (pairD r) := by
  obtain ⟨h1, rfl⟩ := List.getElem?_eq_some_iff.mp h
  rw [List.take_succ_eq_append_getElem h1, rngs, List.flatMap_append]
  simp [rngs]
theorem total_take (rs : List Row) (i : Nat) : total (rs.take i) ≤ total rs := by
  induction rs generalizing i with
  | nil => simp
  | cons r rs ih =>
    cases i with
    | zero => simp [total]
    | succ i =>
      have := ih i
      simp only [total, List.take_succ_cons, List.map_cons, List.sum_cons] at *
      omega
theorem width_le {rs : List Row} {i : Nat} {r : Row} (h : rs[i]? = some r) : total (rs.take i) + width r ≤ total rs := by
  have h1 := total_take rs (i + 1)
  have h2 := congrArg List.length (rngs_snoc h)
  rw [rngs_len, List.length_append, rngs_len, List.length_replicate] at h2
  omega
theorem dt_rep {K : PySem.W.Frag} {H : Hp} {v : V} {d : PyData} (h : Dt K H v d) : ∀ n : Nat, DtAll K H (List.replicate n v) (List.replicate n d)
  | 0 => .nil
  | n + 1 => .cons h (dt_rep h n)
def rRanges : List PyData → PyData → Prop := fun ds d => ∃ rs : List Row, ds = [cellsD rs] ∧ total rs ≤ 500 ∧ d = .tuple (rngs rs)
theorem ok_ranges {f fd} (F : Fun M.K "cell_ranges" "cell_ranges" s_cell_ranges f fd) (b : Bl M) (dw : Dc M "row_width" ["row"] 1 (spF rWidth M.K)) : FnG M.prog M.w M.K M.mg M.base CX0 2 f fd ["cells"] (spF rRanges M.K) := by
  refine fn_ok F sc_cell_ranges (fun vs H Q E h => ?_) (fun H vs Q E h => ?_)
  · obtain ⟨ds, d, h, ⟨rs, rfl, _⟩, _⟩ := h
    exact h.len
  obtain ⟨ds, d, h, ⟨rs, rfl, hl, rfl⟩, k⟩ := h
  obtain _ | ⟨hc, h⟩ := h
  cases h
  obtain ⟨a, xs, rfl, hxs, hrs⟩ := hc.tupE
  have hle := hrs.len
  rw [List.length_map] at hle
  tm_at "go"
  refine e_lstD ?_
  tm_at "go"
  refine ⟨by decide, fun l0 H0 s0 n0 g0 => ?_⟩
  tm_at "go"
  refine s_forT ?_
  tm_at "s"
  refine ⟨a, xs, rfl, (tp_same s0).sqt hxs, fun i σ1 H1 => ∃ (l : Addr) (us : List V) (v : Option V), σ1 = [some (.ref a), some (.ref l), v] ∧ Same H H1 ∧ H1 l = some (.lst us) ∧ DtAll M.K H1 us (rngs (rs.take i)), ⟨l0, [], _, rfl, s0, g0, .nil⟩, ?_, ?_, ?_⟩
  · rintro i σ' H' _ ⟨l, us, v, rfl, s, _⟩
    exact (tp_same s).sqt hxs
  · rintro i x σ' H' hx ⟨l, us, v, rfl, s, hl1, hu⟩
    obtain ⟨d, hd, hx'⟩ := hrs.getV hx
    rw [List.getElem?_map] at hd
    obtain ⟨r, hr, rfl⟩ := Option.map_eq_some_iff.mp hd
    have hw := width_le hr
    have hul := hu.len
    rw [rngs_len] at hul
    tm_at "go"
    refine e_lstD ?_
    tm_at "go"
    refine e_tupD ?_
    tm_at "go"
    refine tupend (by tm_at "dts") (Nat.le_of_ble_eq_true rfl) fun vp H2 s2 hp => ?_
    tm_at "go"
    refine ⟨(Nat.le_of_ble_eq_true rfl), fun l2 H3 s3 n3 g3 => ?_⟩
    tm_at "go"
    refine e_callF dw ?_
    tm_at "go"
    refine ⟨_, _, by tm_at "dts", ⟨r, rfl, rfl⟩, fun v' H4 s4 hv => ?_⟩
    cases hv
    refine ro_rep (s4 _ _ g3) (by omega) (Nat.le_of_ble_eq_true rfl) fun l5 H5 s5 n5 g5 => ?_
    have e5 : (List.replicate (((width r : Nat) : Int)).toNat [vp]).flatten = List.replicate (width r) vp := by
      rw [Int.toNat_natCast]
      induction width r with
      | zero => rfl
      | succ n ih => rw [List.replicate_succ, List.replicate_succ, List.flatten_cons, ih]; rfl
    rw [e5] at g5
    have s25 := s2.trans (s3.trans (s4.trans s5))
    refine ro_cat (s25 _ _ hl1) g5 (by rw [List.length_replicate]; omega) fun l6 H6 s6 n6 g6 => ?_
    refine ⟨l6, _, _, rfl, s.trans (s25.trans s6), g6, ?_⟩
    rw [rngs_snoc hr]
    exact (hu.mono (tp_same (s25.trans s6))).app (dt_rep (hp.mono (tp_same (s3.trans (s4.trans (s5.trans s6))))) _)
  · rintro σ' H' ⟨l, us, v, rfl, s, hl1, hu⟩
    rw [hle, List.take_length] at hu
    tm_at "go"
    refine rc_tupL (.of hl1) hu fun v2 H2 s2 h2 => ?_
    exact k _ _ (s.trans s2) h2
end K

namespace K
open PySem L2 G
variable {M : Md}
def rLRanges : List PyData → List PyData → Prop := fun ds es => ∃ rs : List Row, ds = [cellsD rs] ∧ total rs ≤ 500 ∧ es = rngs rs
def preMenu : List PyData → Prop := fun ds => ds = []
def menus : List (List Str) := [["a", "at", "i", "x"], ["big", "if", "t", "when"], ["c", "rule", "set", "y"], ["b", "not", "s", "zzzzzzzz"]]
def rMenu : List PyData → PyData → Prop := fun ds d => ∃ m ∈ menus, d = .tuple (m.map .str)
def rPower : List PyData → PyData → Prop := fun ds d => ∃ (b : Int) (n : Nat), ds = [.int b, .int n] ∧ (0 ≤ b ∧ b ≤ 4) ∧ n ≤ 9 ∧ d = .int (b ^ n)
/-! states -/
abbrev Rng := Int × Int
def rngD (p : Rng) : PyData := .tuple [.int p.1, .int p.2]
def rg (rs : List Row) : List Rng := rs.flatMap fun r => List.replicate (width r) (r.2.2.1, r.2.2.2.1)
theorem rngs_eq (rs : List Row) : rngs rs = (rg rs).map rngD := by
  unfold rngs rg
  induction rs with
  | nil => rfl
  | cons r rs ih =>
    rw [List.flatMap_cons, List.flatMap_cons, List.map_append, ih, List.map_replicate]
    rfl
abbrev St1 := List Int
def stD (s : St1) : PyData := .tuple (s.map .int)
def span (p : Rng) : Nat := (p.2 + 1 - p.1).toNat
def widen (acc : List St1) (p : Rng) : List St1 := acc.flatMap fun o => (List.range (span p)).map fun t : Nat => (o ++ [p.1 + (t : Int)] : St1)
def statesOf (ps : List Rng) : List St1 := ps.foldl widen [[]]
def many (ps : List Rng) : Nat := (ps.map span).foldl (· * ·) 1
theorem flat_len {α : Type} (n : Nat) (f : α → List St1) (h : ∀ a, (f a).length = n) : ∀ l : List α, (l.flatMap f).length = l.length * n
  | [] => by simp
  | a :: l => by rw [List.flatMap_cons, List.length_append, h, flat_len n f h l, List.length_cons, Nat.succ_mul, Nat.add_comm]
theorem widen_len (acc : List St1) (p : Rng) : (widen acc p).length = acc.length * span p := flat_len _ _ (fun _ => by simp) _
theorem foldl_len (ps : List Rng) : ∀ acc : List St1, (ps.foldl widen acc).length = (ps.map span).foldl (· * ·) acc.length := by
  induction ps with
  | nil => intro acc; rfl
  | cons p ps ih => intro acc; rw [List.foldl_cons, ih, widen_len, List.map_cons, List.foldl_cons]
theorem states_len (ps : List Rng) : (statesOf ps).length = many ps := foldl_len ps [[]]
theorem states_snoc {ps : List Rng} {i : Nat} {p : Rng} (h : ps[i]? = some p) : statesOf (ps.take (i + 1)) = widen (statesOf (ps.take i)) p := by
  obtain ⟨h1, rfl⟩ := List.getElem?_eq_some_iff.mp h
  rw [List.take_succ_eq_append_getElem h1, statesOf, List.foldl_append]
  rfl
theorem foldl_le (ns : List Nat) (h : ∀ n ∈ ns, 1 ≤ n) : ∀ m, m ≤ ns.foldl (· * ·) m := by
  induction ns with
  | nil => intro m; exact Nat.le_refl _
  | cons n ns ih =>
    intro m
    have h1 := h n (List.mem_cons_self ..)
    exact Nat.le_trans (Nat.le_mul_of_pos_right m h1) (ih (fun k hk => h k (List.mem_cons_of_mem _ hk)) _)
theorem many_take {ps : List Rng} (h : ∀ p ∈ ps, 1 ≤ span p) (i : Nat) : many (ps.take i) ≤ many ps := by
  have e : ps.map span = (ps.take i).map span ++ (ps.drop i).map span := by rw [← List.map_append, List.take_append_drop]
  unfold many
  rw [e, List.foldl_append]
  refine foldl_le _ (fun n hn => ?_) _
  obtain ⟨p, hp, rfl⟩ := List.mem_map.mp hn
  exact h p (List.mem_of_mem_drop hp)
theorem fold_mem (ps : List Rng) : ∀ (acc : List St1) (n : Nat), (∀ o ∈ acc, o.length = n) → ∀ o ∈ ps.foldl widen acc, o.length = n + ps.length := by
  induction ps with
  | nil => intro acc n h o ho; exact h o ho
  | cons p ps ih =>
    intro acc n h o ho
    have := ih (widen acc p) (n + 1) (fun o' ho' => by
      obtain ⟨o2, h2, h3⟩ := List.mem_flatMap.mp ho'
      obtain ⟨t, _, rfl⟩ := List.mem_map.mp h3
      rw [List.length_append, h o2 h2]; rfl) o ho
    rw [List.length_cons]; omega
theorem states_mem {ps : List Rng} {o : St1} (h : o ∈ statesOf ps) : o.length = ps.length := by
  have := fold_mem ps [[]] 0 (fun o h => by rw [List.mem_singleton.mp h]; rfl) o h
  omega
theorem widen_snoc {acc : List St1} {j : Nat} {o : St1} {p : Rng} (h : acc[j]? = some o) : widen (acc.take (j + 1)) p = widen (acc.take j) p ++ (List.range (span p)).map fun t : Nat => (o ++ [p.1 + (t : Int)] : St1) := by
  obtain ⟨h1, rfl⟩ := List.getElem?_eq_some_iff.mp h
  rw [List.take_succ_eq_append_getElem h1, widen, List.flatMap_append]
  simp [widen]
theorem rg_len (rs : List Row) : (rg rs).length = total rs := by rw [← rngs_len, rngs_eq, List.length_map]
/-- what is asked of the rows of a law's cells -/
structure Small (rs : List Row) : Prop where
  tot : total rs ≤ 10
  sp : ∀ p ∈ rg rs, 1 ≤ span p ∧ -10 ≤ p.1 ∧ p.2 ≤ 10
  many : many (rg rs) ≤ 256
def rStates : List PyData → List PyData → Prop := fun ds es => ∃ rs : List Row, ds = [cellsD rs] ∧ Small rs ∧ es = (statesOf (rg rs)).map stD
end K

namespace K
open PySem L2 G
variable {M : Md}
theorem dtAll_mem {K : PySem.W.Frag} {H : Hp} {xs : List V} {ds : List PyData} (h : DtAll K H xs ds) {y : V} (hy : y ∈ xs) : ∃ d ∈ ds, Dt K H y d := by
  obtain ⟨i, hi⟩ := List.mem_iff_getElem?.mp hy
  obtain ⟨d, h1, h2⟩ := h.getV hi
  exact ⟨d, List.mem_of_getElem? h1, h2⟩
theorem dtAll_pick {K : PySem.W.Frag} {H : Hp} {xs : List V} {ds : List PyData} (h : DtAll K H xs ds) : ∀ ys : List V, (∀ y ∈ ys, y ∈ xs) → ∃ es, DtAll K H ys es ∧ ∀ e ∈ es, e ∈ ds
  | [], _ => ⟨[], .nil, fun _ h => nomatch h⟩
  | y :: ys, hy => by
    obtain ⟨d, hd, h1⟩ := dtAll_mem h (hy y (List.mem_cons_self ..))
    obtain ⟨es, h2, h3⟩ := dtAll_pick h ys fun z hz => hy z (List.mem_cons_of_mem _ hz)
    refine ⟨d :: es, .cons h1 h2, fun e he => ?_⟩
    rcases List.mem_cons.mp he with rfl | he
    · exact hd
    · exact h3 e he
/-- some of the states -/
def spSome (K : PySem.W.Frag) : Sp := fun vs H Q _ => ∃ a xs ds m, vs = [.ref a, .int m] ∧ (1 ≤ m ∧ m ≤ 1000) ∧ H a = some (.lst xs) ∧ DtAll K H xs ds ∧ ds.length ≤ 1000 ∧
  ∀ l us es H', Same H H' → H l = none → H' l = some (.lst us) → DtAll K H' us es → (∀ e ∈ es, e ∈ ds) → es.length ≤ 2 * ds.length → Q (.ref l) H'
def mea (s : Int) : Nat := if s % 6 = 0 then 1 else if s % 6 = 2 then 3 else if s % 6 = 3 then 2 else if s % 6 = 4 then 1 else 0
theorem mea_lt {s : Int} (h : s % 2 = 0 ∨ s % 3 = 0) : mea (s + 1) < mea s := by
  unfold mea
  have h1 : s % 6 = 0 ∨ s % 6 = 2 ∨ s % 6 = 3 ∨ s % 6 = 4 := by omega
  rcases h1 with e | e | e | e
  · rw [if_neg (by omega), if_neg (by omega), if_neg (by omega), if_neg (by omega), if_pos e]; decide
  · rw [if_neg (by omega), if_neg (by omega), if_pos (by omega), if_neg (by omega), if_pos e]; decide
  · rw [if_neg (by omega), if_neg (by omega), if_neg (by omega), if_pos (by omega), if_neg (by omega), if_neg (by omega), if_pos e]; decide
  · rw [if_neg (by omega), if_neg (by omega), if_neg (by omega), if_neg (by omega), if_neg (by omega), if_neg (by omega), if_neg (by omega), if_pos e]; decide
end K

namespace G
open PySem PySem.Spec PyProof.Rows L2
theorem iff0 {A B : Prop} (b : B) : if false = true then A else B := b
section
variable {c : Cd} {σ : L2.St} {H : Hp} {Q : VK} {pos : Pos} {x y : V}
def cutD {α : Type} (xs : List α) (lo hi : Option Int) : List α := (xs.drop (HT.sIx xs.length 0 lo)).take (HT.sIx xs.length xs.length hi - HT.sIx xs.length 0 lo)
theorem rsl_tup {ds : List PyData} {lo hi : Option Int} (hx : Dt c.K H x (.tuple ds)) (q : ∀ v H2, Same H H2 → Dt c.K H2 v (.tuple (cutD ds lo hi)) → Q v H2) : RSl c x lo hi H Q := by
  obtain ⟨a, xs, rfl, ht, hd⟩ := hx.tupE
  have hl := hd.len
  have hc : DtAll c.K H (cutV xs lo hi) (cutD ds lo hi) := by
    unfold cutV cutD
    rw [hl]
    exact DtAll.take _ (DtAll.drop _ hd)
  refine rsl_of (r := rSlA c.K) (fun X h => by rw [← h.K]; exact sl_tupA) ⟨a, xs, rfl, ht, fun e => ?_, fun _ p hp => q _ _ (same_new hp) (.tup (.of upd_same) (hc.mono (tp_same (same_new hp))))⟩
  refine q _ _ (Same.refl _) ?_
  have e2 : cutD ds lo hi = ds := by
    unfold cutD
    rw [← hl, e.1, e.2]
    simp [hl]
  rw [e2]
  exact hx
end
end G
namespace K
open PySem L2 G
variable {M : Md}
section
variable {c : Cd} {σ : L2.St} {H : Hp} {Q : VK} {pos : Pos}
theorem e_draw (D : Dc c.toMd "_law_draw" ["_law_feed_here", "_law_many_here"] 1 (spD preDraw rDraw c.K)) {e1 e2 : Expr} {p : Pos} (q : RE c e1 σ H fun x H1 => RE c e2 σ H1 fun y H2 => ∃ (fp cl : Addr) (m : Int), x = .ref fp ∧ y = .int m ∧ (0 < m ∧ m < 1000) ∧ Feed c.K H2 fp cl ∧ ∀ r H3, 0 ≤ r → r < m → Kp fp H2 H3 → Feed c.K H3 fp cl → Q (.int r) H3)
    (hk : 1 ≤ c.k := by exact Nat.le_of_ble_eq_true rfl) (hg : c.sc.names.lookup ("_law_draw" : Str) = some .globalImplicit := by rfl) (h1 : ∀ env, starEach [e1, e2] env = (false, eval e1 env) :: starEach [e2] env := by intro _; rfl) (h2 : ∀ env, starEach [e2] env = (false, eval e2 env) :: starEach [] env := by intro _; rfl) (hpl : ∀ env, (backTo pos (starEach [e2] env)).any (·.1) = false := by intro _; rfl) :
    RE c (.Call (.Name "_law_draw" p) [e1, e2] [] pos) σ H Q := by
  refine e_callD D (a_cons (RE.mono (fun x H1 z => a_cons (RE.mono (fun y H2 z => a_nil ?_) z) h2) q) h1) hk hg (by decide) h1 hpl
  obtain ⟨fp, cl, m, rfl, rfl, hm, hf, k⟩ := z
  refine ⟨fp, cl, _, _, rfl, hf, .cons (.int m) .nil, ⟨m, rfl, hm⟩, ?_⟩
  rintro d v H3 ⟨m', r, hm', rfl, r0, r1⟩ k3 f3 hv
  cases hm'
  cases hv
  exact k r H3 r0 r1 k3 f3
end
def nameOf (r : Row) : Str := r.1
structure RowOk (r : Row) : Prop where
  size : r.2.1 ≤ 3
  lo : -2 ≤ r.2.2.1
  lh : r.2.2.1 ≤ r.2.2.2.1
  hi : r.2.2.2.1 ≤ r.2.2.1 + 3
  lo1 : r.2.2.1 ≤ 1
  fst : r.2.2.1 ≤ r.2.2.2.2.2.2 ∧ r.2.2.2.2.2.2 ≤ r.2.2.2.1
  giv : r.2.2.2.2.1 = true → r.2.2.2.2.2.2 = r.2.2.1
structure Rows3 (most : Nat) (rs : List Row) : Prop where
  ok : ∀ r ∈ rs, RowOk r
  nm : ∃ m ∈ menus, (rs.map nameOf).Sublist m
  len : rs.length = 3
  many : many (rg rs) ≤ most
def preRows : List PyData → Prop := fun ds => ∃ most : Nat, ds = [.int most] ∧ 1 ≤ most ∧ most ≤ 100
def rRows : List PyData → PyData → Prop := fun ds d => ∃ (most : Nat) (rs : List Row), ds = [.int most] ∧ d = cellsD rs ∧ Rows3 most rs
/-- within: the feed goes on, the list stays -/
structure In (K : PySem.W.Frag) (fp cl l : Addr) (us : List V) (H H' : Hp) : Prop where
  kp : Kp fp H H'
  fd : Feed K H' fp cl
  nc : l ≠ cl
  g : H' l = some (.lst us)
  n : H l = none
  ne : l ≠ fp
theorem In.draw {K : PySem.W.Frag} {fp cl l : Addr} {us : List V} {H H1 H2 : Hp} (i : In K fp cl l us H H1) (k : Kp fp H1 H2) (f : Feed K H2 fp cl) : In K fp cl l us H H2 := ⟨i.kp.trans k, f, i.nc, k.k _ _ i.ne i.g, i.n, i.ne⟩
theorem In.same {K : PySem.W.Frag} {fp cl l : Addr} {us : List V} {H H1 H2 : Hp} (i : In K fp cl l us H H1) (s : Same H1 H2) : In K fp cl l us H H2 := ⟨i.kp.trans (kp_same s), i.fd.same s, i.nc, s _ _ i.g, i.n, i.ne⟩
theorem many_app (ps qs : List Rng) : many (ps ++ qs) = many ps * many qs := by
  unfold many
  rw [List.map_append, List.foldl_append]
  have h : ∀ (ns : List Nat) (a : Nat), ns.foldl (· * ·) a = a * ns.foldl (· * ·) 1 := by
    intro ns
    induction ns with
    | nil => intro a; simp
    | cons n ns ih => intro a; rw [List.foldl_cons, List.foldl_cons, ih (a * n), ih (1 * n), Nat.one_mul, Nat.mul_assoc]
  exact h _ _
theorem many_rep (n : Nat) (p : Rng) : many (List.replicate n p) = span p ^ n := by
  induction n with
  | zero => rfl
  | succ n ih =>
    rw [List.replicate_succ, show p :: List.replicate n p = [p] ++ List.replicate n p from rfl, many_app, ih, Nat.pow_succ, Nat.mul_comm]
    congr 1
    exact Nat.one_mul _
theorem many_row (rs : List Row) (r : Row) : many (rg (rs ++ [r])) = many (rg rs) * span (r.2.2.1, r.2.2.2.1) ^ width r := by
  have : rg (rs ++ [r]) = rg rs ++ List.replicate (width r) (r.2.2.1, r.2.2.2.1) := by simp [rg, List.flatMap_append]
  rw [this, many_app, many_rep]
theorem dtInts {K : PySem.W.Frag} {H : Hp} : ∀ ns : List Int, DtAll K H (ns.map V.int) (ns.map PyData.int)
  | [] => .nil
  | n :: ns => .cons (.int n) (dtInts ns)
theorem dtStrs {K : PySem.W.Frag} {H : Hp} : ∀ ns : List Str, DtAll K H (ns.map V.str) (ns.map PyData.str)
  | [] => .nil
  | n :: ns => .cons (.str n) (dtStrs ns)
theorem cutD_sub {α : Type} (xs : List α) (lo hi : Option Int) : (cutD xs lo hi).Sublist xs := (List.take_sublist _ _).trans (List.drop_sublist _ _)
theorem cutD_map {α β : Type} (g : α → β) (xs : List α) (lo hi : Option Int) : cutD (xs.map g) lo hi = (cutD xs lo hi).map g := by
  unfold cutD
  rw [List.length_map, List.map_take, List.map_drop]
end K

namespace G
open PySem PySem.Spec PyProof.Rows L2
structure Shp (n : Nat) (d : PyData) : Prop where
  lay : PyData.canLay0 d = true
  dep : PyData.depth d ≤ n
theorem shp_all {n : Nat} : ∀ {ds : List PyData}, (∀ d ∈ ds, Shp n d) → PyData.canLayAll0 ds = true ∧ PyData.depthAll ds ≤ n
  | [], _ => ⟨by simp [PyData.canLayAll0], by simp [PyData.depthAll]⟩
  | d :: ds, h => by
    have h1 := h d (List.mem_cons_self ..)
    have h2 := shp_all fun e he => h e (List.mem_cons_of_mem _ he)
    refine ⟨by simp [PyData.canLayAll0, h1.lay, h2.1], ?_⟩
    simp only [PyData.depthAll]
    have := h1.dep
    have := h2.2
    omega
theorem shp_tup {n : Nat} {ds : List PyData} (h : ∀ d ∈ ds, Shp n d) : Shp (n + 1) (.tuple ds) := by
  have := shp_all h
  exact ⟨by simp only [PyData.canLay0]; exact this.1, by simp only [PyData.depth]; omega⟩
theorem shp_lst {n : Nat} {ds : List PyData} (h : ∀ d ∈ ds, Shp n d) : Shp (n + 1) (.list ds) := by
  have := shp_all h
  exact ⟨by simp only [PyData.canLay0]; exact this.1, by simp only [PyData.depth]; omega⟩
theorem shp_int {n : Nat} (i : Int) : Shp (n + 1) (.int i) := ⟨by simp [PyData.canLay0], by simp [PyData.depth]⟩
theorem shp_bl {n : Nat} (i : Bool) : Shp (n + 1) (.bool i) := ⟨by simp [PyData.canLay0], by simp [PyData.depth]⟩
theorem shp_non {n : Nat} : Shp (n + 1) .none := ⟨by simp [PyData.canLay0], by simp [PyData.depth]⟩
theorem shp_str {n : Nat} {s : Str} (h : PyData.strOk s = true) : Shp (n + 1) (.str s) := ⟨by simp only [PyData.canLay0]; exact h, by simp [PyData.depth]⟩
theorem Shp.ok {n : Nat} {d : PyData} (h : Shp n d) (hn : n ≤ 64 := by decide) : SeqAt.shaped d = true := by
  show (PyData.canLay0 d && decide (PyData.depth d ≤ 64)) = true
  rw [h.lay, Bool.true_and]
  exact decide_eq_true (Nat.le_trans h.dep hn)
section
variable {c : Cd} {σ : L2.St} {H : Hp} {Q : VK} {pos : Pos} {x y : V}
/-- xs == [] -/
theorem ro_eqNil {p q0 : Addr} {xs : List V} {ds : List PyData} {n : Nat} (h1 : H p = some (.lst xs)) (hd : DtAll c.K H xs ds) (hs : ∀ d ∈ ds, Shp n d) (hn : n + 1 ≤ 64) (h2 : H q0 = some (.lst [])) (q : Q (.bl ds.isEmpty) H) : RQ c .Eq (.ref p) (.ref q0) H Q := by
  refine ro_eqD (.lst (SqL.of h1) hd.dp) (.lst (SqL.of h2) .nil) ((shp_lst hs).ok hn) (by decide) ?_
  cases ds with
  | nil => exact q
  | cons d ds => exact q
theorem ro_neNil {p q0 : Addr} {xs : List V} {ds : List PyData} {n : Nat} (h1 : H p = some (.lst xs)) (hd : DtAll c.K H xs ds) (hs : ∀ d ∈ ds, Shp n d) (hn : n + 1 ≤ 64) (h2 : H q0 = some (.lst [])) (q : Q (.bl (!ds.isEmpty)) H) : RQ c .NotEq (.ref p) (.ref q0) H Q := by
  refine ro_neD (.lst (SqL.of h1) hd.dp) (.lst (SqL.of h2) .nil) ((shp_lst hs).ok hn) (by decide) ?_
  cases ds with
  | nil => exact q
  | cons d ds => exact q
end
end G
namespace K
open PySem L2 G
variable {M : Md}
inductive Ex where
  | int (i : Int) | nm (s : Str) | at (t : Str) (e : Ex) | un (op : Str) (e : Ex) | bin (op : Str) (a b : Ex) | kk (op : Str) (e : Ex) (n : Int) | ite (a b d : Ex)
def Ex.d : Ex → PyData
  | .int i => .int i
  | .nm s => .str s
  | .at t e => .tuple [.str "at", .str t, e.d]
  | .un op e => .tuple [.str op, e.d]
  | .bin op a b => .tuple [.str op, a.d, b.d]
  | .kk op e n => .tuple [.str op, e.d, .int n]
  | .ite a b e => .tuple [.str "if", a.d, b.d, e.d]
def Ex.dep : Ex → Nat
  | .int _ | .nm _ => 0
  | .at _ e | .un _ e | .kk _ e _ => e.dep + 1
  | .bin _ a b => max a.dep b.dep + 1
  | .ite a b e => max a.dep (max b.dep e.dep) + 1
def bins : List Str := ["+", "-", "*", "least", "most", "=", "<", "<=", "and", "or"]
def uns : List Str := ["not", "neg"]
def kks : List Str := ["div", "mod"]
/-- an expression that fits the rows -/
def Fit (rs : List Row) : Ex → Prop
  | .int i => -1000000 ≤ i ∧ i ≤ 1000000
  | .nm s => ∃ r ∈ rs, r.1 = s ∧ r.2.1 = 0
  | .at t e => (∃ r ∈ rs, r.1 = t ∧ 0 < r.2.1) ∧ Fit rs e
  | .un op e => op ∈ uns ∧ Fit rs e
  | .bin op a b => op ∈ bins ∧ Fit rs a ∧ Fit rs b
  | .kk op e n => op ∈ kks ∧ Fit rs e ∧ (1 ≤ n ∧ n ≤ 3)
  | .ite a b e => Fit rs a ∧ Fit rs b ∧ Fit rs e
/-- rows that drawing functions are given -/
structure RowsIn (rs : List Row) : Prop where
  len : rs.length ≤ 10
  nm : ∀ r ∈ rs, PyData.strOk r.1 = true
def preLeaf : List PyData → Prop := fun ds => ∃ rs, ds = [cellsD rs] ∧ RowsIn rs
def rLeaf : List PyData → PyData → Prop := fun ds d => ∃ rs e, ds = [cellsD rs] ∧ d = Ex.d e ∧ Fit rs e ∧ e.dep = 0
def plains (rs : List Row) : List Str := (rs.filter fun r => r.2.1 == 0).map nameOf
def gPlain : PyData → Option PyData
  | .tuple (n :: .int s :: _) => if s = 0 then some n else none
  | _ => none
theorem gPlain_all (rs : List Row) : (rs.map rowD).filterMap gPlain = (plains rs).map .str := by
  induction rs with
  | nil => rfl
  | cons r rs ih =>
    unfold plains at *
    rw [List.map_cons, List.filterMap_cons, List.filter_cons]
    have e : gPlain (rowD r) = if ((r.2.1 : Nat) : Int) = 0 then some (PyData.str r.1) else none := rfl
    rw [e]
    by_cases h : r.2.1 = 0
    · rw [if_pos (by omega), if_pos (by simpa using h), List.map_cons, List.map_cons, ← ih]; rfl
    · rw [if_neg (by omega), if_neg (by simpa using h), ← ih]
theorem plains_mem {rs : List Row} {s : Str} (h : s ∈ plains rs) : ∃ r ∈ rs, r.1 = s ∧ r.2.1 = 0 := by
  obtain ⟨r, hr, rfl⟩ := List.mem_map.mp h
  obtain ⟨h1, h2⟩ := List.mem_filter.mp hr
  exact ⟨r, h1, rfl, by simpa using h2⟩
theorem leafInt (w : Int) (h : w ∈ ([0, 1, 2, -1, 3, -2, 7, 1] : List Int)) : -1000000 ≤ w ∧ w ≤ 1000000 := by
  have : ∀ w ∈ ([0, 1, 2, -1, 3, -2, 7, 1] : List Int), -1000000 ≤ w ∧ w ≤ 1000000 := by decide
  exact this w h
end K

namespace K
open PySem L2 G
variable {M : Md}
def preForm (n : Nat) : List PyData → Prop := fun ds => ∃ (rs : List Row) (deep : Int), ds = [cellsD rs, .int deep] ∧ RowsIn rs ∧ deep ≤ n
def rForm : List PyData → PyData → Prop := fun ds d => ∃ (rs : List Row) (deep : Int) (e : Ex), ds = [cellsD rs, .int deep] ∧ d = e.d ∧ Fit rs e ∧ e.dep ≤ deep.toNat
def wordsL : List Str := ["+", "-", "*", "least", "most", "=", "<", "<=", "and", "or", "not", "neg", "div", "mod", "if", "at", "at", "+"]
def tabs (rs : List Row) : List Str := (rs.filter fun r => decide (0 < r.2.1)).map nameOf
def gTab : PyData → Option PyData
  | .tuple (n :: .int s :: _) => if 0 < s then some n else none
  | _ => none
theorem gTab_all (rs : List Row) : (rs.map rowD).filterMap gTab = (tabs rs).map .str := by
  induction rs with
  | nil => rfl
  | cons r rs ih =>
    unfold tabs at *
    rw [List.map_cons, List.filterMap_cons, List.filter_cons]
    have e : gTab (rowD r) = if 0 < ((r.2.1 : Nat) : Int) then some (PyData.str r.1) else none := rfl
    rw [e]
    by_cases h : 0 < r.2.1
    · rw [if_pos (by omega), if_pos (by simpa using h), List.map_cons, List.map_cons, ← ih]; rfl
    · rw [if_neg (by omega), if_neg (by simpa using h), ← ih]
theorem tabs_mem {rs : List Row} {s : Str} (h : s ∈ tabs rs) : ∃ r ∈ rs, r.1 = s ∧ 0 < r.2.1 := by
  obtain ⟨r, hr, rfl⟩ := List.mem_map.mp h
  obtain ⟨h1, h2⟩ := List.mem_filter.mp hr
  exact ⟨r, h1, rfl, by simpa using h2⟩
theorem rowD_inj {r r' : Row} (h : rowD r = rowD r') : r = r' := by
  obtain ⟨a, b, c, d, e, f, g⟩ := r
  obtain ⟨a', b', c', d', e', f', g'⟩ := r'
  unfold rowD at h
  simp only [PyData.tuple.injEq, List.cons.injEq, PyData.str.injEq, PyData.int.injEq, PyData.bool.injEq] at h
  obtain ⟨rfl, h2, rfl, rfl, rfl, rfl, rfl, _⟩ := h
  have : b = b' := by omega
  rw [this]
theorem cellsD_inj {rs rs' : List Row} (h : cellsD rs = cellsD rs') : rs = rs' := by
  unfold cellsD at h
  rw [PyData.tuple.injEq] at h
  induction rs generalizing rs' with
  | nil =>
    cases rs' with
    | nil => rfl
    | cons => cases h
  | cons r rs ih =>
    cases rs' with
    | nil => cases h
    | cons r' rs' =>
      rw [List.map_cons, List.map_cons, List.cons.injEq] at h
      rw [rowD_inj h.1, ih h.2]
theorem inS (w : Str) (l : List Str) : inV (.str w) (l.map .str) = decide (w ∈ l) := by
  unfold inV
  rw [Bool.eq_iff_iff, List.any_eq_true, decide_eq_true_iff]
  constructor
  · rintro ⟨y, hy, h⟩
    obtain ⟨z, hz, rfl⟩ := List.mem_map.mp hy
    have : z = w := by simpa [eqV] using h
    rw [← this]; exact hz
  · intro h
    exact ⟨.str w, List.mem_map.mpr ⟨w, h, rfl⟩, by simp [eqV]⟩
theorem flatS (l : List Str) : (l.map V.str).all flatV = true := by simp [flatV]
theorem dtStrs_eq {K : PySem.W.Frag} {H : Hp} : ∀ {ws : List Str} {xs : List V}, DtAll K H xs (ws.map .str) → xs = ws.map .str
  | [], _, h => by cases h; rfl
  | w :: ws, _, h => by
    cases h with
    | cons h1 h2 =>
      cases h1
      rw [dtStrs_eq h2, List.map_cons]
theorem ro_inST {c : Cd} {H : Hp} {Q : VK} {y : V} {w : Str} {ws : List Str} (hx : Dt c.K H y (.tuple (ws.map .str))) (q : Q (.bl (decide (w ∈ ws))) H) : RQ c .In (.str w) y H Q := by
  obtain ⟨a, xs, rfl, ht, hd⟩ := hx.tupE
  obtain rfl := dtStrs_eq hd
  refine rq_of (r := rIn c.K false) (fun X h => by rw [← h.K]; exact op_in_seq) ⟨a, _, rfl, .inr ht, rfl, flatS ws, ?_⟩
  show Q (.bl (inV (.str w) (ws.map .str))) H
  rw [inS]
  exact q
theorem words_all : ∀ w ∈ wordsL, w = "at" ∨ w ∈ kks ∨ w ∈ bins ∨ w ∈ uns ∨ w = "if" := by decide +kernel
abbrev dcForm (M : Md) (m : Nat) : Prop := Dc M "_law_formula" ["_law_feed_here", "_law_rows_here", "_law_deep"] (m + 3) (spD (preForm m) rForm M.K)
end K

namespace K
open PySem L2 G
variable {M : Md}
inductive Tg where
  | nm (s : Str) | at (t : Str) (e : Ex)
def Tg.d : Tg → PyData
  | .nm s => .str s
  | .at t e => .tuple [.str t, e.d]
def FitT (rs : List Row) : Tg → Prop
  | .nm s => ∃ r ∈ rs, r.1 = s ∧ r.2.1 = 0
  | .at t e => (∃ r ∈ rs, r.1 = t ∧ 0 < r.2.1) ∧ Fit rs e ∧ e.dep ≤ 2
structure Rl where
  name : Str
  guard : Ex
  as : List (Tg × Ex)
def asD (p : Tg × Ex) : PyData := .tuple [p.1.d, p.2.d]
def Rl.d (r : Rl) : PyData := .tuple [.str r.name, r.guard.d, .tuple (r.as.map asD)]
structure FitR (rs : List Row) (r : Rl) : Prop where
  nm : PyData.strOk r.name = true
  guard : Fit rs r.guard ∧ r.guard.dep ≤ 4
  len : r.as.length ≤ 10
  ne : r.as ≠ []
  as : ∀ p ∈ r.as, FitT rs p.1 ∧ Fit rs p.2 ∧ p.2.dep ≤ 2
def preGoal : List PyData → Prop := fun ds => ∃ (rs : List Row), ds = [cellsD rs] ∧ RowsIn rs ∧ 0 < rs.length
def rGoal : List PyData → PyData → Prop := fun ds d => ∃ (rs : List Row) (t : Tg), ds = [cellsD rs] ∧ d = t.d ∧ FitT rs t
def preRule : List PyData → Prop := fun ds => ∃ (rs : List Row) (nm : Str), ds = [cellsD rs, .str nm] ∧ RowsIn rs ∧ 0 < rs.length ∧ PyData.strOk nm = true
def rRule : List PyData → PyData → Prop := fun ds d => ∃ (rs : List Row) (nm : Str) (r : Rl), ds = [cellsD rs, .str nm] ∧ d = r.d ∧ FitR rs r
end K

namespace K
open PySem L2 G
variable {M : Md}
/-! ### the meaning of expressions -/
def gt (st : St1) (j : Int) : Int := st.getD j.toNat 0
def b2 (p : Prop) [Decidable p] : Int := if p then 1 else 0
def un1 (op : Str) (v : Int) : Int := if op = "not" then b2 (v = 0) else -v
def cmp2 (op : Str) (a b : Int) : Bool := if op = "=" then decide (a = b) else if op = "<" then decide (a < b) else decide (a ≤ b)
def bin2 (op : Str) (a b : Int) : Int := if op = "+" then a + b else if op = "-" then a - b else if op = "*" then a * b else if op = "div" then a / b else if op = "mod" then a % b else
  if op = "least" then (if b < a then b else a) else if op = "most" then (if b > a then b else a) else if cmp2 op a b = true then 1 else 0
def ix (rs : List Row) (s : Str) : Int := (fIdx rs s none 0).getD 0
abbrev Res := Option Int × List Int
def thn1 (r : Res) (g : Int → Res) : Res := match r.1 with
  | none => (none, r.2)
  | some v => ((g v).1, r.2 ++ (g v).2)
def keyed (rs : List Row) (t : Str) (r : Res) : Res := match r.1 with
  | none => (none, r.2)
  | some v => (fIdx rs t (some v) 0, r.2)
def isLazy (op : Str) : Bool := decide (op = "and") || decide (op = "or")
def ev (rs : List Row) (st : St1) : Ex → Res
  | .int i => (some i, [])
  | .nm s => (some (gt st (ix rs s)), [ix rs s])
  | .at t e => thn1 (keyed rs t (ev rs st e)) fun j => (some (gt st j), [j])
  | .un op e => thn1 (ev rs st e) fun v => (some (un1 op v), [])
  | .bin op a b => if isLazy op = true then thn1 (ev rs st a) fun v => if decide (v ≠ 0) = decide (op = "or") then (some (b2 (v ≠ 0)), []) else thn1 (ev rs st b) fun w => (some (b2 (w ≠ 0)), [])
    else thn1 (ev rs st a) fun v => thn1 (ev rs st b) fun w => (some (bin2 op v w), [])
  | .kk op e n => thn1 (ev rs st e) fun v => (some (bin2 op v n), [])
  | .ite a b e => thn1 (ev rs st a) fun v => if v ≠ 0 then ev rs st b else ev rs st e
def resD (r : Res) : PyData := .tuple [optD r.1, .tuple (r.2.map .int)]
structure StOk (rs : List Row) (st : St1) : Prop where
  len : st.length = total rs
  val : ∀ v ∈ st, -10 ≤ v ∧ v ≤ 10
  tot : total rs ≤ 10
  nd : (rs.map nameOf).Nodup
  ri : RowsIn rs
  rng : ∀ (i : Nat) (r : Rng), (rg rs)[i]? = some r → r.1 ≤ gt st i ∧ gt st i ≤ r.2
theorem fIdx_in : ∀ {rs : List Row} {s : Str} {key : Option Int} {b j : Int}, fIdx rs s key b = some j → b ≤ j ∧ j < b + total rs
  | [], _, _, _, _, h => by cases h
  | r :: rs, s, key, b, j, h => by
    have e : total (r :: rs) = width r + total rs := by simp [total]
    have w1 : 1 ≤ width r := Nat.le_max_left _ _
    have w2 : r.2.1 ≤ width r := Nat.le_max_right _ _
    unfold fIdx at h
    split at h
    · cases key with
      | none =>
        rw [hit] at h
        split at h
        · cases h; omega
        · cases h
      | some k =>
        rw [hit] at h
        split at h
        · cases h; omega
        · cases h
    · have := fIdx_in h
      omega
theorem fIdx_plain : ∀ {rs : List Row} {s : Str} (b : Int), (rs.map nameOf).Nodup → (∃ r ∈ rs, r.1 = s ∧ r.2.1 = 0) → ∃ j, fIdx rs s none b = some j
  | [], _, _, _, h => by obtain ⟨r, hr, _⟩ := h; cases hr
  | r :: rs, s, b, nd, h => by
    rw [List.map_cons, List.nodup_cons] at nd
    unfold fIdx
    by_cases e : r.1 = s
    · rw [if_pos e]
      obtain ⟨r', hr', e', z'⟩ := h
      rcases List.mem_cons.mp hr' with rfl | hm
      · refine ⟨b, ?_⟩
        rw [hit]
        rw [if_pos (by omega)]
      · exact absurd (List.mem_map.mpr ⟨r', hm, show nameOf r' = nameOf r from e'.trans e.symm⟩) nd.1
    · rw [if_neg e]
      refine fIdx_plain _ nd.2 ?_
      obtain ⟨r', hr', e', z'⟩ := h
      rcases List.mem_cons.mp hr' with rfl | hm
      · exact absurd e' e
      · exact ⟨r', hm, e', z'⟩
theorem ix_ok {rs : List Row} {s : Str} (nd : (rs.map nameOf).Nodup) (h : ∃ r ∈ rs, r.1 = s ∧ r.2.1 = 0) : fIdx rs s none 0 = some (ix rs s) ∧ 0 ≤ ix rs s ∧ ix rs s < total rs := by
  obtain ⟨j, hj⟩ := fIdx_plain 0 nd h
  have e : ix rs s = j := by unfold ix; rw [hj]; rfl
  have := fIdx_in hj
  rw [e]
  exact ⟨hj, by omega, by omega⟩
theorem gt_at {rs : List Row} {st : St1} (S : StOk rs st) {j : Int} (h0 : 0 ≤ j) (h1 : j < total rs) : atI (st.map PyData.int) j = some (.int (gt st j)) := by
  have hl := S.len
  have hlt : j.toNat < st.length := by omega
  refine pl_at (j := j.toNat) (by omega) ?_
  rw [List.getElem?_map, List.getElem?_eq_getElem hlt]
  unfold gt
  rw [List.getD_eq_getElem?_getD, List.getElem?_eq_getElem hlt]
  rfl
theorem gt_val {rs : List Row} {st : St1} (S : StOk rs st) (j : Int) : -10 ≤ gt st j ∧ gt st j ≤ 10 := by
  unfold gt
  rw [List.getD_eq_getElem?_getD]
  cases e : st[j.toNat]? with
  | none => exact ⟨by decide, by decide⟩
  | some v => exact S.val v (List.mem_of_getElem? e)
theorem thn1_some {r : Res} {g : Int → Res} {w : Int} (h : (thn1 r g).1 = some w) : ∃ v, r.1 = some v ∧ (g v).1 = some w := by
  unfold thn1 at h
  cases e : r.1 with
  | none => rw [e] at h; cases h
  | some v => rw [e] at h; exact ⟨v, rfl, h⟩
def Bd : Nat → Nat
  | 0 => 1000000
  | n + 1 => Bd n * Bd n
theorem Bd_ge : ∀ n, 1000000 ≤ Bd n
  | 0 => Nat.le_refl _
  | n + 1 => Nat.le_trans (Bd_ge n) (Nat.le_mul_of_pos_left _ (Nat.lt_of_lt_of_le (by decide) (Bd_ge n)))
theorem Bd_two (n : Nat) : 2 * Bd n ≤ Bd (n + 1) := Nat.mul_le_mul_right _ (Nat.le_trans (by decide) (Bd_ge n))
theorem Bd_up (n : Nat) : Bd n ≤ Bd (n + 1) := by have := Bd_two n; omega
theorem un1_b {op : Str} {v : Int} {n : Nat} (h : v.natAbs ≤ Bd n) : (un1 op v).natAbs ≤ Bd (n + 1) := by
  have h1 := Bd_up n
  have h2 := Bd_ge n
  unfold un1 b2
  split
  · split <;> simp <;> omega
  · rw [Int.natAbs_neg]; omega
theorem bin2_b {op : Str} {a b : Int} {n : Nat} (ha : a.natAbs ≤ Bd n) (hb : b.natAbs ≤ Bd n) (hd : op = "div" ∨ op = "mod" → 1 ≤ b) : (bin2 op a b).natAbs ≤ Bd (n + 1) := by
  have h1 := Bd_two n
  have h2 := Bd_ge n
  unfold bin2
  split
  · omega
  split
  · omega
  split
  · rw [Int.natAbs_mul]; exact Nat.mul_le_mul ha hb
  split
  · rename_i h
    have hb1 := hd (.inl h)
    have : (a / b).natAbs ≤ a.natAbs := Int.natAbs_ediv_le_natAbs a b
    omega
  split
  · rename_i h
    have hb1 := hd (.inr h)
    have q1 := Int.emod_nonneg a (show b ≠ 0 by omega)
    have q2 := Int.emod_lt_of_pos a (show 0 < b by omega)
    omega
  split
  · split <;> omega
  split
  · split <;> omega
  split <;> simp <;> omega
theorem thn1_len {r : Res} {g : Int → Res} {a b : Nat} (h : r.2.length ≤ a) (h2 : ∀ v, r.1 = some v → (g v).2.length ≤ b) : (thn1 r g).2.length ≤ a + b := by
  unfold thn1
  cases e : r.1 with
  | none => simp; omega
  | some v => have := h2 v e; simp; omega
theorem kind_bin {op : Str} (h : op ∈ bins) : op ≠ "div" ∧ op ≠ "mod" := by
  have : ∀ op ∈ bins, op ≠ "div" ∧ op ≠ "mod" := by decide +kernel
  exact this op h
theorem b2_b (p : Prop) [Decidable p] (n : Nat) : (b2 p).natAbs ≤ Bd n := by
  have := Bd_ge n
  unfold b2
  split <;> simp <;> omega
theorem Bd_mono {m n : Nat} (h : m ≤ n) : Bd m ≤ Bd n := by
  induction h with
  | refl => exact Nat.le_refl _
  | step _ ih => exact Nat.le_trans ih (Bd_up _)
theorem evB {rs : List Row} {st : St1} (S : StOk rs st) : ∀ (e : Ex) (n : Nat) (v : Int), e.dep ≤ n → Fit rs e → (ev rs st e).1 = some v → v.natAbs ≤ Bd n
  | .int i, n, v, _, hf, h => by
    have h2 := Bd_ge n
    unfold ev at h
    cases h
    unfold Fit at hf
    omega
  | .nm s, n, v, _, hf, h => by
    have h2 := Bd_ge n
    unfold ev at h
    cases h
    have := gt_val S (ix rs s)
    omega
  | .at t e, n, v, hn, hf, h => by
    have h2 := Bd_ge n
    unfold ev at h
    obtain ⟨j, _, h3⟩ := thn1_some h
    cases h3
    have := gt_val S j
    omega
  | .un op e, n, v, hn, hf, h => by
    unfold Ex.dep at hn
    obtain ⟨m, rfl⟩ : ∃ m, n = m + 1 := ⟨n - 1, by omega⟩
    unfold ev at h
    obtain ⟨w, h3, h4⟩ := thn1_some h
    cases h4
    exact un1_b (evB S e m w (by omega) hf.2 h3)
  | .bin op a b, n, v, hn, hf, h => by
    unfold Ex.dep at hn
    obtain ⟨m, rfl⟩ : ∃ m, n = m + 1 := ⟨n - 1, by omega⟩
    unfold ev at h
    split at h
    · obtain ⟨w, h3, h4⟩ := thn1_some h
      split at h4
      · cases h4; exact b2_b _ _
      · obtain ⟨w2, h5, h6⟩ := thn1_some h4
        cases h6; exact b2_b _ _
    · obtain ⟨w, h3, h4⟩ := thn1_some h
      obtain ⟨w2, h5, h6⟩ := thn1_some h4
      cases h6
      exact bin2_b (evB S a m w (by omega) hf.2.1 h3) (evB S b m w2 (by omega) hf.2.2 h5) (fun z => z.elim (fun z => absurd z (kind_bin hf.1).1) (fun z => absurd z (kind_bin hf.1).2))
  | .kk op e k, n, v, hn, hf, h => by
    unfold Ex.dep at hn
    obtain ⟨m, rfl⟩ : ∃ m, n = m + 1 := ⟨n - 1, by omega⟩
    unfold ev at h
    obtain ⟨w, h3, h4⟩ := thn1_some h
    cases h4
    have h2 := Bd_ge m
    have h5 := hf.2.2
    exact bin2_b (evB S e m w (by omega) hf.2.1 h3) (by omega) (fun _ => h5.1)
  | .ite a b e, n, v, hn, hf, h => by
    unfold Ex.dep at hn
    obtain ⟨m, rfl⟩ : ∃ m, n = m + 1 := ⟨n - 1, by omega⟩
    unfold ev at h
    obtain ⟨w, h3, h4⟩ := thn1_some h
    have h2 := Bd_up m
    split at h4
    · exact Nat.le_trans (evB S b m v (by omega) hf.2.1 h4) h2
    · exact Nat.le_trans (evB S e m v (by omega) hf.2.2 h4) h2
theorem keyed_snd (rs : List Row) (t : Str) (r : Res) : (keyed rs t r).2 = r.2 := by
  unfold keyed
  split <;> rfl
theorem evL {rs : List Row} {st : St1} : ∀ (e : Ex) (n : Nat), e.dep ≤ n → (ev rs st e).2.length ≤ 2 ^ (n + 1)
  | .int i, n, _ => by unfold ev; exact Nat.zero_le _
  | .nm s, n, _ => by unfold ev; exact Nat.pos_of_ne_zero (by simp)
  | .at t e, n, hn => by
    unfold Ex.dep at hn
    obtain ⟨m, rfl⟩ : ∃ m, n = m + 1 := ⟨n - 1, by omega⟩
    have h1 := evL (rs := rs) (st := st) e m (by omega)
    have h2 : 0 < 2 ^ (m + 1) := Nat.pos_of_ne_zero (by simp)
    unfold ev
    rw [Nat.pow_succ, Nat.mul_two]
    exact thn1_len (by rw [keyed_snd]; exact h1) (fun v _ => h2)
  | .un op e, n, hn => by
    unfold Ex.dep at hn
    obtain ⟨m, rfl⟩ : ∃ m, n = m + 1 := ⟨n - 1, by omega⟩
    have h1 := evL (rs := rs) (st := st) e m (by omega)
    unfold ev
    rw [Nat.pow_succ, Nat.mul_two]
    exact thn1_len h1 (fun v _ => Nat.zero_le _)
  | .bin op a b, n, hn => by
    unfold Ex.dep at hn
    obtain ⟨m, rfl⟩ : ∃ m, n = m + 1 := ⟨n - 1, by omega⟩
    have h1 := evL (rs := rs) (st := st) a m (by omega)
    have h2 := evL (rs := rs) (st := st) b m (by omega)
    unfold ev
    rw [Nat.pow_succ, Nat.mul_two]
    split
    · refine thn1_len h1 fun v _ => ?_
      split
      · exact Nat.zero_le _
      · exact thn1_len (b := 0) h2 fun _ _ => Nat.le_refl _
    · refine thn1_len h1 fun v _ => ?_
      exact thn1_len (b := 0) h2 fun _ _ => Nat.le_refl _
  | .kk op e k, n, hn => by
    unfold Ex.dep at hn
    obtain ⟨m, rfl⟩ : ∃ m, n = m + 1 := ⟨n - 1, by omega⟩
    have h1 := evL (rs := rs) (st := st) e m (by omega)
    unfold ev
    rw [Nat.pow_succ, Nat.mul_two]
    exact thn1_len h1 (fun v _ => Nat.zero_le _)
  | .ite a b e, n, hn => by
    unfold Ex.dep at hn
    obtain ⟨m, rfl⟩ : ∃ m, n = m + 1 := ⟨n - 1, by omega⟩
    have h1 := evL (rs := rs) (st := st) a m (by omega)
    have h2 := evL (rs := rs) (st := st) b m (by omega)
    have h3 := evL (rs := rs) (st := st) e m (by omega)
    unfold ev
    rw [Nat.pow_succ, Nat.mul_two]
    refine thn1_len h1 fun v _ => ?_
    split
    · exact h2
    · exact h3
end K

namespace K
open PySem L2 G
variable {M : Md}
theorem dib {p : Prop} [Decidable p] : (if decide p = true then (1 : Int) else 0) = b2 p := by
  unfold b2
  by_cases h : p
  · rw [if_pos (decide_eq_true h), if_pos h]
  · rw [if_neg (by simp [h]), if_neg h]
def rIndex : List PyData → PyData → Prop := fun ds d => ∃ (rs : List Row) (s : Str) (j : Int), ds = [cellsD rs, .str s, .none] ∧ fIdx rs s none 0 = some j ∧ d = .int j
theorem ok_index {f fd} (F : Fun M.K "cell_index" "cell_index" s_cell_index f fd) (b : Bl M) (df : Dc M "found_index" ["cells", "name", "key"] 2 (spF rFound M.K)) : FnG M.prog M.w M.K M.mg M.base CX0 3 f fd ["cells", "name", "key"] (spF rIndex M.K) := by
  refine fn_ok F sc_cell_index (fun vs H Q E h => ?_) (fun H vs Q E h => ?_)
  · obtain ⟨ds, d, h, ⟨rs, s, j, rfl, _⟩, _⟩ := h
    exact h.len
  obtain ⟨ds, d, h, ⟨rs, s, j, rfl, hj, rfl⟩, k⟩ := h
  obtain _ | ⟨hc, h⟩ := h
  obtain _ | ⟨hs, h⟩ := h
  obtain _ | ⟨hn, h⟩ := h
  cases h
  cases hs
  cases hn
  tm_at "go"
  refine e_callF df ?_
  tm_at "go"
  refine ⟨_, _, .cons hc (.cons (.str _) (.cons .non .nil)), ⟨rs, s, none, rfl, rfl⟩, fun v H1 s1 hv => ?_⟩
  rw [hj] at hv
  cases hv
  tm_at "go"
  exact k _ _ s1 (.int _)
def isIntD : PyData → Bool
  | .int _ => true
  | _ => false
def plainD : PyData → Prop
  | .int _ | .str _ | .tuple _ => True
  | _ => False
theorem rc_isiD {c : Cd} {H : Hp} {Q : VK} {v : V} {x : PyData} (hp : plainD x) (hx : Dt c.K H v x) (q : Q (.bl (isIntD x)) H) : RC c (.builtin "isinstance") [v, .ty "int"] H Q := by
  cases x with
  | int i =>
    cases hx
    exact rc_isi (.base (.int i)) rfl q
  | str s =>
    cases hx
    exact rc_isi (.base (.str s)) rfl q
  | tuple ds =>
    obtain ⟨a, xs, rfl, ht, _⟩ := hx.tupE
    exact rc_isi (ty_tup ht) rfl q
  | none => exact hp.elim
  | bool => exact hp.elim
  | list => exact hp.elim
  | dict => exact hp.elim
def rOne : List PyData → PyData → Prop := fun ds d => ∃ (op : Str) (v : Int), ds = [.str op, .int v] ∧ d = .int (un1 op v)
theorem ok_one {f fd} (F : Fun M.K "_of_one" "_of_one" s__of_one f fd) (b : Bl M) : FnG M.prog M.w M.K M.mg M.base CX0 1 f fd ["op", "value"] (spF rOne M.K) := by
  refine fn_ok F sc__of_one (fun vs H Q E h => ?_) (fun H vs Q E h => ?_)
  · obtain ⟨ds, d, h, ⟨op, v, rfl, _⟩, _⟩ := h
    exact h.len
  obtain ⟨ds, d, h, ⟨op, v, rfl, rfl⟩, k⟩ := h
  obtain _ | ⟨h1, h⟩ := h
  obtain _ | ⟨h2, h⟩ := h
  cases h
  cases h1
  cases h2
  tm_at "go"
  refine ifd (fun c1 => ?_) (fun c1 => ?_)
  · tm_at "go"
    refine k _ _ (Same.refl _) ?_
    rw [un1, if_pos c1, dib]
    exact .int _
  · tm_at "go"
    refine k _ _ (Same.refl _) ?_
    rw [un1, if_neg c1]
    exact .int _
def rCmp : List PyData → PyData → Prop := fun ds d => ∃ (op : Str) (a b : Int), ds = [.str op, .int a, .int b] ∧ d = .bool (cmp2 op a b)
theorem ok_cmp {f fd} (F : Fun M.K "_compared" "_compared" s__compared f fd) (b : Bl M) : FnG M.prog M.w M.K M.mg M.base CX0 1 f fd ["op", "one", "other"] (spF rCmp M.K) := by
  refine fn_ok F sc__compared (fun vs H Q E h => ?_) (fun H vs Q E h => ?_)
  · obtain ⟨ds, d, h, ⟨op, v, w, rfl, _⟩, _⟩ := h
    exact h.len
  obtain ⟨ds, d, h, ⟨op, v, w, rfl, rfl⟩, k⟩ := h
  obtain _ | ⟨h1, h⟩ := h
  obtain _ | ⟨h2, h⟩ := h
  obtain _ | ⟨h3, h⟩ := h
  cases h
  cases h1
  cases h2
  cases h3
  tm_at "go"
  refine ifd (fun c1 => ?_) (fun c1 => ?_)
  · tm_at "go"
    refine k _ _ (Same.refl _) ?_
    rw [cmp2, if_pos c1]
    exact .bl _
  · tm_at "go"
    refine ifd (fun c2 => ?_) (fun c2 => ?_)
    · tm_at "go"
      refine k _ _ (Same.refl _) ?_
      rw [cmp2, if_neg c1, if_pos c2]
      exact .bl _
    · tm_at "go"
      refine k _ _ (Same.refl _) ?_
      rw [cmp2, if_neg c1, if_neg c2]
      exact .bl _
theorem ro_mulW {c : Cd} {H : Hp} {Q : VK} {i j : Int} (hc : CMulW i j) (q : Q (.int (i * j)) H) : RO c .Mult (.int i) (.int j) H Q := ro_of (fun _ _ => op_mulW) ⟨i, j, rfl, rfl, hc, q⟩
def rTwo : List PyData → PyData → Prop := fun ds d => ∃ (op : Str) (a b : Int), ds = [.str op, .int a, .int b] ∧ (a.natAbs < 2 ^ 400 ∧ b.natAbs < 2 ^ 400) ∧ (op = "div" ∨ op = "mod" → 1 ≤ b ∧ b < 1000) ∧ d = .int (bin2 op a b)
set_option maxHeartbeats 1000000 in
theorem ok_two {f fd} (F : Fun M.K "value_of_two" "value_of_two" s_value_of_two f fd) (b : Bl M) (dc : Dc M "_compared" ["op", "one", "other"] 1 (spF rCmp M.K)) : FnG M.prog M.w M.K M.mg M.base CX0 2 f fd ["op", "one", "other"] (spF rTwo M.K) := by
  refine fn_ok F sc_value_of_two (fun vs H Q E h => ?_) (fun H vs Q E h => ?_)
  · obtain ⟨ds, d, h, ⟨op, v, w, rfl, _⟩, _⟩ := h
    exact h.len
  obtain ⟨ds, d, h, ⟨op, x, y, rfl, hb, hdm, rfl⟩, k⟩ := h
  obtain _ | ⟨h1, h⟩ := h
  obtain _ | ⟨h2, h⟩ := h
  obtain _ | ⟨h3, h⟩ := h
  cases h
  cases h1
  cases h2
  cases h3
  tm_at "go"
  refine ifd (fun c1 => ?_) (fun c1 => ?_)
  · tm_at "go"
    refine k _ _ (Same.refl _) ?_
    rw [bin2, if_pos c1]
    exact .int _
  tm_at "go"
  refine ifd (fun c2 => ?_) (fun c2 => ?_)
  · tm_at "go"
    refine k _ _ (Same.refl _) ?_
    rw [bin2, if_neg c1, if_pos c2]
    exact .int _
  tm_at "go"
  refine ifd (fun c3 => ?_) (fun c3 => ?_)
  · tm_at "go"
    refine ro_mulW (wide_mul hb.1 hb.2 (by decide) (by decide) (by decide)) ?_
    refine k _ _ (Same.refl _) ?_
    rw [bin2, if_neg c1, if_neg c2, if_pos c3]
    exact .int _
  tm_at "go"
  refine ifd (fun c4 => ?_) (fun c4 => ?_)
  · tm_at "go"
    have := hdm (.inl c4)
    refine ro_div (by omega) (by omega) ?_
    refine k _ _ (Same.refl _) ?_
    rw [bin2, if_neg c1, if_neg c2, if_neg c3, if_pos c4]
    exact .int _
  tm_at "go"
  refine ifd (fun c5 => ?_) (fun c5 => ?_)
  · tm_at "go"
    have := hdm (.inr c5)
    refine ro_mod (by omega) ?_
    refine k _ _ (Same.refl _) ?_
    rw [bin2, if_neg c1, if_neg c2, if_neg c3, if_neg c4, if_pos c5]
    exact .int _
  tm_at "go"
  refine ifd (fun c6 => ?_) (fun c6 => ?_)
  · tm_at "go"
    refine k _ _ (Same.refl _) ?_
    rw [bin2, if_neg c1, if_neg c2, if_neg c3, if_neg c4, if_neg c5, if_pos c6]
    exact .int _
  tm_at "go"
  refine ifd (fun c7 => ?_) (fun c7 => ?_)
  · tm_at "go"
    refine k _ _ (Same.refl _) ?_
    rw [bin2, if_neg c1, if_neg c2, if_neg c3, if_neg c4, if_neg c5, if_neg c6, if_pos c7]
    exact .int _
  tm_at "go"
  refine e_callF dc ?_
  tm_at "go"
  refine ⟨_, _, .cons (.str _) (.cons (.int _) (.cons (.int _) .nil)), ⟨op, x, y, rfl, rfl⟩, fun v H1 s1 hv => ?_⟩
  cases hv
  tm_at "go"
  refine k _ _ s1 ?_
  rw [bin2, if_neg c1, if_neg c2, if_neg c3, if_neg c4, if_neg c5, if_neg c6, if_neg c7]
  exact .int _
end K

namespace K
open PySem L2 G
variable {M : Md}
/-- what evaluated is given, and what it answers, to the depth n -/
structure EvIn (rs : List Row) (st : St1) (e : Ex) (n : Nat) : Prop where
  S : StOk rs st
  fit : Fit rs e
  dep : e.dep ≤ n
  n4 : n ≤ 4
def rEv (n : Nat) : List PyData → PyData → Prop := fun ds d => ∃ (rs : List Row) (st : St1) (e : Ex), ds = [cellsD rs, stD st, e.d] ∧ EvIn rs st e n ∧ d = resD (ev rs st e)
abbrev dcEv (M : Md) (n : Nat) : Prop := Dc M "evaluated" ["cells", "state", "expression"] (2 * n + 4) (spF (rEv n) M.K)
def rKey (n : Nat) : List PyData → PyData → Prop := fun ds d => ∃ (rs : List Row) (st : St1) (t : Str) (e : Ex), ds = [cellsD rs, stD st, .str t, e.d] ∧ EvIn rs st e n ∧ d = resD (keyed rs t (ev rs st e))
theorem Ex.plain (e : Ex) : plainD e.d := by cases e <;> trivial
theorem optN {K : PySem.W.Frag} {H : Hp} {v : V} {o : Option Int} (h : Dt K H v (optD o)) : (o = none ∧ v = .non) ∨ ∃ i, o = some i ∧ v = .int i := by
  cases o with
  | none => cases h; exact .inl ⟨rfl, rfl⟩
  | some i => cases h; exact .inr ⟨i, rfl, rfl⟩
theorem ok_keyed (n : Nat) {f fd} (F : Fun M.K "keyed_index" "keyed_index" s_keyed_index f fd) (b : Bl M) (df : Dc M "found_index" ["cells", "name", "key"] 2 (spF rFound M.K)) (de : dcEv M n) : FnG M.prog M.w M.K M.mg M.base CX0 (2 * n + 5) f fd ["cells", "state", "table", "key"] (spF (rKey n) M.K) := by
  refine fn_ok F sc_keyed_index (fun vs H Q E h => ?_) (fun H vs Q E h => ?_)
  · obtain ⟨ds, d, h, ⟨rs, st, t, e, rfl, _⟩, _⟩ := h
    exact h.len
  obtain ⟨ds, d, h, ⟨rs, st, t, e, rfl, hi, rfl⟩, k⟩ := h
  obtain _ | ⟨hc, h⟩ := h
  obtain _ | ⟨hst, h⟩ := h
  obtain _ | ⟨ht, h⟩ := h
  obtain _ | ⟨he, h⟩ := h
  cases h
  cases ht
  refine b_cons (s_asg ?_)
  refine e_callF de ?_ (Nat.le_refl _)
  tm_at "go"
  refine ⟨_, _, .cons hc (.cons hst (.cons he .nil)), ⟨rs, st, e, rfl, hi, rfl⟩, fun v H1 s1 hv => ?_⟩
  refine g_unp2 (by tm_at "at") (by tm_at "at") hv fun v1 v2 h1 h2 => ?_
  rcases optN h1 with ⟨eo, rfl⟩ | ⟨i, eo, rfl⟩
  · tm_at "go"
    refine e_tupD ?_
    tm_at "go"
    refine tupend (ds := [.none, .tuple ((ev rs st e).2.map .int)]) (.cons .non (.cons h2 .nil)) (Nat.le_of_ble_eq_true rfl) fun v9 H9 s9 h9 => ?_
    refine k _ _ (s1.trans s9) ?_
    unfold keyed resD
    rw [eo]
    exact h9
  · tm_at "go"
    refine e_tupD ?_
    tm_at "go"
    refine e_callF df ?_
    tm_at "go"
    refine ⟨_, _, .cons (hc.mono (tp_same s1)) (.cons (.str _) (.cons (.int _) .nil)), ⟨rs, t, some i, rfl, rfl⟩, fun v3 H3 s3 hv3 => ?_⟩
    tm_at "go"
    refine tupend (ds := [optD (fIdx rs t (some i) 0), .tuple ((ev rs st e).2.map .int)]) (.cons hv3 (.cons (h2.mono (tp_same s3)) .nil)) (Nat.le_of_ble_eq_true rfl) fun v9 H9 s9 h9 => ?_
    refine k _ _ (s1.trans (s3.trans s9)) ?_
    unfold keyed resD
    rw [eo]
    exact h9
end K

namespace K
open PySem L2 G
variable {M : Md}
def lazyE : Ex → Prop
  | .bin op _ _ => isLazy op = true
  | .ite _ _ _ => True
  | _ => False
def rLazy (n : Nat) : List PyData → PyData → Prop := fun ds d => ∃ (rs : List Row) (st : St1) (e : Ex), ds = [cellsD rs, stD st, e.d] ∧ lazyE e ∧ EvIn rs st e (n + 1) ∧ d = resD (ev rs st e)
theorem thn1_none {r : Res} {g : Int → Res} (h : r.1 = none) : thn1 r g = (none, r.2) := by
  unfold thn1
  rw [h]
theorem thn1_val {r : Res} {g : Int → Res} {v : Int} (h : r.1 = some v) : thn1 r g = ((g v).1, r.2 ++ (g v).2) := by
  unfold thn1
  rw [h]
theorem thn1_map {r : Res} {f : Int → Int} : thn1 r (fun w => (some (f w), [])) = (r.1.map f, r.2) := by
  unfold thn1
  cases r.1 with
  | none => rfl
  | some w => simp
theorem nb2 (v : Int) : (!decide (v = 0)) = decide (v ≠ 0) := by simp
theorem intb {p : Bool} : (if p = true then (1 : Int) else 0) = b2 (p = true) := rfl
theorem b2e {p q : Prop} [Decidable p] [Decidable q] (h : p ↔ q) : b2 p = b2 q := by
  unfold b2
  by_cases hp : p
  · rw [if_pos hp, if_pos (h.mp hp)]
  · rw [if_neg hp, if_neg (fun z => hp (h.mpr z))]
theorem lenLooks {rs : List Row} {st : St1} {e : Ex} {n : Nat} (h : e.dep ≤ n) (h4 : n ≤ 4) : ((ev rs st e).2.map PyData.int).length ≤ 32 := by
  rw [List.length_map]
  exact Nat.le_trans (evL e n h) (Nat.pow_le_pow_right (n := 2) (by decide) (show n + 1 ≤ 5 by omega))
set_option maxHeartbeats 2000000 in
theorem ok_lazy (n : Nat) {f fd} (F : Fun M.K "_lazy_value" "_lazy_value" s__lazy_value f fd) (b : Bl M) (de : dcEv M n) : FnG M.prog M.w M.K M.mg M.base CX0 (2 * n + 5) f fd ["cells", "state", "expression"] (spF (rLazy n) M.K) := by
  refine fn_ok F sc__lazy_value (fun vs H Q E h => ?_) (fun H vs Q E h => ?_)
  · obtain ⟨ds, d, h, ⟨rs, st, e, rfl, _⟩, _⟩ := h
    exact h.len
  obtain ⟨ds, d, h, ⟨rs, st, e, rfl, hl, hi, rfl⟩, k⟩ := h
  obtain _ | ⟨hc, h⟩ := h
  obtain _ | ⟨hst, h⟩ := h
  obtain _ | ⟨he, h⟩ := h
  cases h
  obtain ⟨S, fit, dep, n4⟩ := hi
  cases e with
  | int => exact hl.elim
  | nm => exact hl.elim
  | «at» => exact hl.elim
  | un => exact hl.elim
  | kk => exact hl.elim
  | bin op ea eb =>
    unfold Ex.d at he
    unfold Fit at fit
    unfold Ex.dep at dep
    have hlz : isLazy op = true := hl
    have hop : op ≠ "if" := by
      rintro rfl
      exact absurd (show isLazy "if" = true from hl) (by decide)
    tm_at "go"
    refine s_asg ?_
    refine e_callF de ?_ (Nat.le_refl _)
    tm_at "go"
    refine rx_tup he (d := ea.d) rfl fun va hva => ?_
    tm_at "go"
    refine ⟨_, _, .cons hc (.cons hst (.cons hva .nil)), ⟨rs, st, ea, rfl, ⟨S, fit.2.1, by omega, by omega⟩, rfl⟩, fun v H1 s1 hv => ?_⟩
    refine g_unp2 (by tm_at "at") (by tm_at "at") hv fun v1 v2 h1 h2 => ?_
    rcases optN h1 with ⟨eo, rfl⟩ | ⟨i, eo, rfl⟩
    · tm_at "go"
      refine e_tupD ?_
      tm_at "go"
      refine tupend (ds := [.none, .tuple ((ev rs st ea).2.map .int)]) (.cons .non (.cons h2 .nil)) (Nat.le_of_ble_eq_true rfl) fun v9 H9 s9 h9 => ?_
      refine k _ _ (s1.trans s9) ?_
      have e1 : ev rs st (.bin op ea eb) = (none, (ev rs st ea).2) := by
        rw [ev, if_pos hlz, thn1_none eo]
      rw [e1]
      exact h9
    · tm_at "go"
      refine ifd (fun c1 => absurd c1 hop) (fun c1 => ?_)
      tm_at "go"
      rw [nb2]
      refine ifd (fun c2 => ?_) (fun c2 => ?_)
      · tm_at "go"
        refine e_tupD ?_
        tm_at "go"
        refine tupend (ds := [.int (b2 (i ≠ 0)), .tuple ((ev rs st ea).2.map .int)]) (.cons (by rw [intb, b2e (q := i ≠ 0) (by simp)]; exact .int _) (.cons h2 .nil)) (Nat.le_of_ble_eq_true rfl) fun v9 H9 s9 h9 => ?_
        refine k _ _ (s1.trans s9) ?_
        have e1 : ev rs st (.bin op ea eb) = (some (b2 (i ≠ 0)), (ev rs st ea).2 ++ []) := by
          rw [ev, if_pos hlz, thn1_val eo, if_pos c2]
        rw [e1, List.append_nil]
        exact h9
      · tm_at "go"
        refine s_asg ?_
        refine e_callF de ?_ (Nat.le_refl _)
        tm_at "go"
        refine rx_tup (he.mono (tp_same s1)) (d := eb.d) rfl fun vb hvb => ?_
        tm_at "go"
        refine ⟨_, _, .cons (hc.mono (tp_same s1)) (.cons (hst.mono (tp_same s1)) (.cons hvb .nil)), ⟨rs, st, eb, rfl, ⟨S, fit.2.2, by omega, by omega⟩, rfl⟩, fun v H2 s2 hv => ?_⟩
        refine g_unp2 (by tm_at "at") (by tm_at "at") hv fun v3 v4 h3 h4 => ?_
        have e1 : ev rs st (.bin op ea eb) = ((ev rs st eb).1.map (fun w => b2 (w ≠ 0)), (ev rs st ea).2 ++ (ev rs st eb).2) := by
          rw [ev, if_pos hlz, thn1_val eo, if_neg c2, thn1_map]
        refine b_one (s_ret (e_tupD ?_))
        refine a_cons (e_if (t_cmp ?_))
        rcases optN h3 with ⟨eo2, rfl⟩ | ⟨i2, eo2, rfl⟩
        · tm_at "go"
          refine ro_catT (h2.mono (tp_same s2)) h4 (by have := lenLooks (rs := rs) (st := st) (e := ea) (n := n) (by omega) (by omega); have := lenLooks (rs := rs) (st := st) (e := eb) (n := n) (by omega) (by omega); omega) fun v8 H8 s8 h8 => ?_
          tm_at "go"
          refine tupend (ds := [.none, .tuple ((ev rs st ea).2.map .int ++ (ev rs st eb).2.map .int)]) (.cons .non (.cons h8 .nil)) (Nat.le_of_ble_eq_true rfl) fun v9 H9 s9 h9 => ?_
          refine k _ _ (s1.trans (s2.trans (s8.trans s9))) ?_
          rw [e1, eo2, resD, List.map_append]
          exact h9
        · tm_at "go"
          refine ro_catT (h2.mono (tp_same s2)) h4 (by have := lenLooks (rs := rs) (st := st) (e := ea) (n := n) (by omega) (by omega); have := lenLooks (rs := rs) (st := st) (e := eb) (n := n) (by omega) (by omega); omega) fun v8 H8 s8 h8 => ?_
          tm_at "go"
          refine tupend (ds := [.int (b2 (i2 ≠ 0)), .tuple ((ev rs st ea).2.map .int ++ (ev rs st eb).2.map .int)]) (.cons (by rw [intb, b2e (q := i2 ≠ 0) (by simp)]; exact .int _) (.cons h8 .nil)) (Nat.le_of_ble_eq_true rfl) fun v9 H9 s9 h9 => ?_
          refine k _ _ (s1.trans (s2.trans (s8.trans s9))) ?_
          rw [e1, eo2, resD, List.map_append]
          exact h9
  | ite ea eb ed =>
    unfold Ex.d at he
    unfold Fit at fit
    unfold Ex.dep at dep
    tm_at "go"
    refine s_asg ?_
    refine e_callF de ?_ (Nat.le_refl _)
    tm_at "go"
    refine rx_tup he (d := ea.d) rfl fun va hva => ?_
    tm_at "go"
    refine ⟨_, _, .cons hc (.cons hst (.cons hva .nil)), ⟨rs, st, ea, rfl, ⟨S, fit.1, by omega, by omega⟩, rfl⟩, fun v H1 s1 hv => ?_⟩
    refine g_unp2 (by tm_at "at") (by tm_at "at") hv fun v1 v2 h1 h2 => ?_
    rcases optN h1 with ⟨eo, rfl⟩ | ⟨i, eo, rfl⟩
    · tm_at "go"
      refine e_tupD ?_
      tm_at "go"
      refine tupend (ds := [.none, .tuple ((ev rs st ea).2.map .int)]) (.cons .non (.cons h2 .nil)) (Nat.le_of_ble_eq_true rfl) fun v9 H9 s9 h9 => ?_
      refine k _ _ (s1.trans s9) ?_
      have e1 : ev rs st (.ite ea eb ed) = (none, (ev rs st ea).2) := by rw [ev, thn1_none eo]
      rw [e1]
      exact h9
    · tm_at "go"
      refine s_asg ?_
      refine e_callF de ?_ (Nat.le_refl _)
      tm_at "go"
      refine t_val ?_
      tm_at "go"
      rw [nb2]
      refine ifd (fun c2 => ?_) (fun c2 => ?_)
      · tm_at "go"
        refine rx_tup (he.mono (tp_same s1)) (d := eb.d) rfl fun vb hvb => ?_
        tm_at "go"
        refine ⟨_, _, .cons (hc.mono (tp_same s1)) (.cons (hst.mono (tp_same s1)) (.cons hvb .nil)), ⟨rs, st, eb, rfl, ⟨S, fit.2.1, by omega, by omega⟩, rfl⟩, fun v H2 s2 hv => ?_⟩
        refine g_unp2 (by tm_at "at") (by tm_at "at") hv fun v3 v4 h3 h4 => ?_
        have e1 : ev rs st (.ite ea eb ed) = ((ev rs st eb).1, (ev rs st ea).2 ++ (ev rs st eb).2) := by rw [ev, thn1_val eo, if_pos c2]
        tm_at "go"
        refine e_tupD ?_
        tm_at "go"
        refine ro_catT (h2.mono (tp_same s2)) h4 (by have := lenLooks (rs := rs) (st := st) (e := ea) (n := n) (by omega) (by omega); have := lenLooks (rs := rs) (st := st) (e := eb) (n := n) (by omega) (by omega); omega) fun v8 H8 s8 h8 => ?_
        tm_at "go"
        refine tupend (ds := [optD (ev rs st eb).1, .tuple ((ev rs st ea).2.map .int ++ (ev rs st eb).2.map .int)]) (.cons (h3.mono (tp_same s8)) (.cons h8 .nil)) (Nat.le_of_ble_eq_true rfl) fun v9 H9 s9 h9 => ?_
        refine k _ _ (s1.trans (s2.trans (s8.trans s9))) ?_
        rw [e1, resD, List.map_append]
        exact h9
      · tm_at "go"
        refine rx_tup (he.mono (tp_same s1)) (d := ed.d) rfl fun vb hvb => ?_
        tm_at "go"
        refine ⟨_, _, .cons (hc.mono (tp_same s1)) (.cons (hst.mono (tp_same s1)) (.cons hvb .nil)), ⟨rs, st, ed, rfl, ⟨S, fit.2.2, by omega, by omega⟩, rfl⟩, fun v H2 s2 hv => ?_⟩
        refine g_unp2 (by tm_at "at") (by tm_at "at") hv fun v3 v4 h3 h4 => ?_
        have e1 : ev rs st (.ite ea eb ed) = ((ev rs st ed).1, (ev rs st ea).2 ++ (ev rs st ed).2) := by rw [ev, thn1_val eo, if_neg c2]
        tm_at "go"
        refine e_tupD ?_
        tm_at "go"
        refine ro_catT (h2.mono (tp_same s2)) h4 (by have := lenLooks (rs := rs) (st := st) (e := ea) (n := n) (by omega) (by omega); have := lenLooks (rs := rs) (st := st) (e := ed) (n := n) (by omega) (by omega); omega) fun v8 H8 s8 h8 => ?_
        tm_at "go"
        refine tupend (ds := [optD (ev rs st ed).1, .tuple ((ev rs st ea).2.map .int ++ (ev rs st ed).2.map .int)]) (.cons (h3.mono (tp_same s8)) (.cons h8 .nil)) (Nat.le_of_ble_eq_true rfl) fun v9 H9 s9 h9 => ?_
        refine k _ _ (s1.trans (s2.trans (s8.trans s9))) ?_
        rw [e1, resD, List.map_append]
        exact h9
end K

namespace K
open PySem L2 G
variable {M : Md}
def fullE : Ex → Prop
  | .bin op _ _ => isLazy op = false
  | .un _ _ => True
  | .kk _ _ _ => True
  | _ => False
def pts : Ex → List Ex
  | .bin _ a b => [a, b]
  | .un _ e => [e]
  | .kk _ e n => [e, .int n]
  | _ => []
def opOf : Ex → Str
  | .bin op _ _ => op
  | .un op _ => op
  | .kk op _ _ => op
  | _ => ""
theorem full_d {e : Ex} (h : fullE e) : e.d = .tuple (.str (opOf e) :: (pts e).map Ex.d) := by
  cases e with
  | bin => rfl
  | un => rfl
  | kk => rfl
  | int => exact h.elim
  | nm => exact h.elim
  | «at» => exact h.elim
  | ite => exact h.elim
abbrev Ress := Option (List Int) × List Int
def evs (rs : List Row) (st : St1) : List Ex → Ress
  | [] => (some [], [])
  | p :: ps => match (ev rs st p).1 with
    | none => (none, (ev rs st p).2)
    | some v => ((evs rs st ps).1.map (v :: ·), (ev rs st p).2 ++ (evs rs st ps).2)
def fullR (op : Str) (r : Ress) : Res := match r.1 with
  | none => (none, r.2)
  | some [] => (none, r.2)
  | some [v] => (some (un1 op v), r.2)
  | some (v :: w :: _) => (some (bin2 op v w), r.2)
theorem evs_none {rs : List Row} {st : St1} {p : Ex} {ps : List Ex} (h : (ev rs st p).1 = none) : evs rs st (p :: ps) = (none, (ev rs st p).2) := by
  rw [evs, h]
theorem evs_some {rs : List Row} {st : St1} {p : Ex} {ps : List Ex} {v : Int} (h : (ev rs st p).1 = some v) : evs rs st (p :: ps) = ((evs rs st ps).1.map (v :: ·), (ev rs st p).2 ++ (evs rs st ps).2) := by
  rw [evs, h]
theorem two_full (rs : List Row) (st : St1) (op : Str) (a b : Ex) : thn1 (ev rs st a) (fun v => thn1 (ev rs st b) fun w => (some (bin2 op v w), [])) = fullR op (evs rs st [a, b]) := by
  cases ea : (ev rs st a).1 with
  | none => rw [thn1_none ea, evs_none ea]; rfl
  | some v =>
    rw [thn1_val ea, evs_some ea]
    cases eb : (ev rs st b).1 with
    | none => rw [thn1_none eb, evs_none eb]; rfl
    | some w => rw [thn1_val eb, evs_some eb]; rfl
theorem ev_full {rs : List Row} {st : St1} {e : Ex} (h : fullE e) : ev rs st e = fullR (opOf e) (evs rs st (pts e)) := by
  cases e with
  | bin op a b =>
    have hf : isLazy op = false := h
    rw [ev, if_neg (by rw [hf]; decide), two_full]
    rfl
  | un op a =>
    rw [ev]
    show _ = fullR op (evs rs st [a])
    cases ea : (ev rs st a).1 with
    | none => rw [thn1_none ea, evs_none ea]; rfl
    | some v => rw [thn1_val ea, evs_some ea]; rfl
  | kk op a n =>
    rw [ev]
    show _ = fullR op (evs rs st [a, .int n])
    rw [← two_full]
    cases ea : (ev rs st a).1 with
    | none => rw [thn1_none ea, thn1_none ea]
    | some v => rw [thn1_val ea, thn1_val ea]; rfl
  | int => exact h.elim
  | nm => exact h.elim
  | «at» => exact h.elim
  | ite => exact h.elim
theorem cut1 {α : Type} (x : α) (l : List α) (h : l.length = 1 ∨ l.length = 2) : cutD (x :: l) (some 1) none = l := by
  match l, h with
  | [a], _ => rfl
  | [a, b], _ => rfl
theorem pts_len {e : Ex} (h : fullE e) : (pts e).length = 1 ∨ (pts e).length = 2 := by
  cases e with
  | bin => exact .inr rfl
  | un => exact .inl rfl
  | kk => exact .inr rfl
  | int => exact h.elim
  | nm => exact h.elim
  | «at» => exact h.elim
  | ite => exact h.elim
def rFull (n : Nat) : List PyData → PyData → Prop := fun ds d => ∃ (rs : List Row) (st : St1) (e : Ex), ds = [cellsD rs, stD st, e.d] ∧ fullE e ∧ EvIn rs st e (n + 1) ∧ d = resD (ev rs st e)
theorem pts_in {rs : List Row} {st : St1} {e : Ex} {n : Nat} (h : EvIn rs st e (n + 1)) : ∀ p ∈ pts e, EvIn rs st p n := by
  obtain ⟨S, fit, dep, n4⟩ := h
  have h4 : n ≤ 4 := by omega
  cases e with
  | bin op a b =>
    unfold Fit at fit
    unfold Ex.dep at dep
    intro p hp
    rcases List.mem_cons.mp hp with rfl | hp
    · exact ⟨S, fit.2.1, by omega, h4⟩
    rcases List.mem_cons.mp hp with rfl | hp
    · exact ⟨S, fit.2.2, by omega, h4⟩
    cases hp
  | un op a =>
    unfold Fit at fit
    unfold Ex.dep at dep
    intro p hp
    rcases List.mem_cons.mp hp with rfl | hp
    · exact ⟨S, fit.2, by omega, h4⟩
    cases hp
  | kk op a k =>
    unfold Fit at fit
    unfold Ex.dep at dep
    intro p hp
    rcases List.mem_cons.mp hp with rfl | hp
    · exact ⟨S, fit.2.1, by omega, h4⟩
    rcases List.mem_cons.mp hp with rfl | hp
    · exact ⟨S, by unfold Fit; omega, Nat.zero_le _, h4⟩
    cases hp
  | int => exact fun _ h => nomatch h
  | nm => exact fun _ h => nomatch h
  | «at» => exact fun _ h => nomatch h
  | ite => exact fun _ h => nomatch h
theorem evs_bd {rs : List Row} {st : St1} {n : Nat} : ∀ {ps : List Ex} {vs : List Int}, (∀ p ∈ ps, EvIn rs st p n) → (evs rs st ps).1 = some vs → (∀ v ∈ vs, v.natAbs ≤ Bd n) ∧ vs.length = ps.length
  | [], vs, _, h => by
    rw [evs] at h
    cases h
    exact ⟨(fun _ h => nomatch h), rfl⟩
  | p :: ps, vs, hp, h => by
    have h1 := hp p (List.mem_cons_self ..)
    cases e : (ev rs st p).1 with
    | none => rw [evs_none e] at h; cases h
    | some v =>
      rw [evs_some e] at h
      obtain ⟨ws, hw, rfl⟩ := Option.map_eq_some_iff.mp h
      obtain ⟨h2, h3⟩ := evs_bd (fun q hq => hp q (List.mem_cons_of_mem _ hq)) hw
      refine ⟨fun w hw => ?_, by rw [List.length_cons, List.length_cons, h3]⟩
      rcases List.mem_cons.mp hw with rfl | hw
      · exact evB h1.S p n _ h1.dep h1.fit e
      · exact h2 w hw
set_option maxHeartbeats 2000000 in
theorem ok_full (n : Nat) {f fd} (F : Fun M.K "_full_value" "_full_value" s__full_value f fd) (b : Bl M) (de : dcEv M n) (d1 : Dc M "_of_one" ["op", "value"] 1 (spF rOne M.K)) (d2 : Dc M "value_of_two" ["op", "one", "other"] 2 (spF rTwo M.K)) : FnG M.prog M.w M.K M.mg M.base CX0 (2 * n + 5) f fd ["cells", "state", "expression"] (spF (rFull n) M.K) := by
  refine fn_ok F sc__full_value (fun vs H Q E h => ?_) (fun H vs Q E h => ?_)
  · obtain ⟨ds, d, h, ⟨rs, st, e, rfl, _⟩, _⟩ := h
    exact h.len
  obtain ⟨ds, d, h, ⟨rs, st, e, rfl, hl, hi, rfl⟩, k⟩ := h
  obtain _ | ⟨hc, h⟩ := h
  obtain _ | ⟨hst, h⟩ := h
  obtain _ | ⟨he, h⟩ := h
  cases h
  rename_i vc vst ve
  rw [full_d hl] at he
  have hpi := pts_in hi
  have hpl := pts_len hl
  have n3 : n ≤ 3 := by have := hi.n4; omega
  tm_at "go"
  refine e_lstD ?_
  tm_at "go"
  refine ⟨by decide, fun l H1 s1 n1 g1 => ?_⟩
  tm_at "go"
  refine e_tupD ?_
  tm_at "go"
  refine tupend (ds := []) .nil (Nat.le_of_ble_eq_true rfl) fun vk0 H2 s2 h2 => ?_
  tm_at "go"
  refine s_forT ?_
  tm_at "go"
  refine rsl_tup (he.mono (tp_same (s1.trans s2))) fun vp H3 s3 hvp => ?_
  rw [cut1 _ _ (by rw [List.length_map]; exact hpl)] at hvp
  obtain ⟨a, xs, rfl, hxs, hns⟩ := hvp.tupE
  have hle := hns.len
  rw [List.length_map] at hle
  have s13 := s1.trans (s2.trans s3)
  refine ⟨a, xs, rfl, hxs, fun i σ1 H' => ∃ (vs lk : List Int) (vlk : V) (v5 v6 v7 : Option V), σ1 = [some vc, some vst, some ve, some (.ref l), some vlk, v5, v6, v7] ∧ Same H H' ∧ Tp H3 H' ∧ H' l = some (.lst (vs.map V.int)) ∧ Dt M.K H' vlk (.tuple (lk.map .int)) ∧
    evs rs st (pts e) = ((evs rs st ((pts e).drop i)).1.map (vs ++ ·), lk ++ (evs rs st ((pts e).drop i)).2) ∧ vs.length ≤ i ∧ lk.length ≤ 32 * i, ⟨[], [], vk0, _, _, _, rfl, s13, Tp.refl _, (s2.trans s3) _ _ g1, h2.mono (tp_same s3), ?_, Nat.le_refl _, Nat.le_refl _⟩, ?_, ?_, ?_⟩
  · simp
  · rintro i σ' H' _ ⟨vs, lk, vlk, v5, v6, v7, rfl, s, t, _⟩
    exact t.sqt hxs
  · rintro i x σ' H4 hx ⟨vs, lk, vlk, v5, v6, v7, rfl, s4, t4, g4, hlk, hev, lv, llk⟩
    obtain ⟨d, hd, hx'⟩ := hns.getV hx
    rw [List.getElem?_map] at hd
    obtain ⟨p, hp, rfl⟩ := Option.map_eq_some_iff.mp hd
    have hpin := hpi p (List.mem_of_getElem? hp)
    have ed : (pts e).drop i = p :: (pts e).drop (i + 1) := by
      obtain ⟨h1, h2⟩ := List.getElem?_eq_some_iff.mp hp
      rw [← h2]; exact List.drop_eq_getElem_cons h1
    have hi2 : i < 2 := by
      have := (List.getElem?_eq_some_iff.mp hx).1
      omega
    rw [ed] at hev
    refine g_name (by tm_at "at") ?_
    refine b_cons (s_asg ?_)
    refine e_callF de ?_ (Nat.le_refl _)
    tm_at "go"
    refine ⟨_, _, .cons (hc.mono (tp_same s4)) (.cons (hst.mono (tp_same s4)) (.cons (hx'.mono t4) .nil)), ⟨rs, st, p, rfl, hpin, rfl⟩, fun v H5 s5 hv => ?_⟩
    refine g_unp2 (by tm_at "at") (by tm_at "at") hv fun v1 v2 h1 h2 => ?_
    have llp := lenLooks (rs := rs) (st := st) (e := p) hpin.dep hpin.n4
    tm_at "go"
    refine ro_catT (hlk.mono (tp_same s5)) h2 (by rw [List.length_map (as := lk)]; omega) fun v8 H8 s8 h8 => ?_
    rw [List.length_map] at llp
    rcases optN h1 with ⟨eo, rfl⟩ | ⟨w, eo, rfl⟩
    · tm_at "go"
      refine e_tupD ?_
      tm_at "go"
      refine tupend (ds := [.none, .tuple (lk.map .int ++ (ev rs st p).2.map .int)]) (.cons .non (.cons h8 .nil)) (Nat.le_of_ble_eq_true rfl) fun v9 H9 s9 h9 => ?_
      refine k _ _ (s4.trans (s5.trans (s8.trans s9))) ?_
      rw [ev_full hl, hev, evs_none eo, resD]
      show Dt _ _ _ (.tuple [.none, .tuple ((lk ++ (ev rs st p).2).map .int)])
      rw [List.map_append]
      exact h9
    · tm_at "go"
      refine s_expr ?_
      refine e_app ?_
      tm_at "go"
      have g8 := (s5.trans s8) _ _ g4
      have ku := kp_upd (o' := .lst (vs.map V.int ++ [.int w])) g8 (fun _ e => nomatch e) (fun _ _ e => nomatch e)
      refine ⟨l, _, rfl, g8, ?_⟩
      tm_at "go"
      refine ⟨_, g8, by rw [List.length_map]; omega, ?_⟩
      refine ⟨vs ++ [w], lk ++ (ev rs st p).2, v8, _, _, _, rfl, same_mut (s4.trans (s5.trans s8)) n1, t4.trans ((tp_same (s5.trans s8)).trans ku.t), ?_, ?_, ?_, ?_, ?_⟩
      · rw [List.map_append]; exact upd_same
      · rw [List.map_append]; exact h8.mono ku.t
      · rw [hev, evs_some eo]
        simp [Function.comp_def]
      · rw [List.length_append]; exact Nat.succ_le_succ lv
      · rw [List.length_append]; omega
  · rintro σ' H4 ⟨vs, lk, vlk, v5, v6, v7, rfl, s4, t4, g4, hlk, hev, lv, llk⟩
    rw [List.drop_eq_nil_of_le (by omega), evs] at hev
    have hev' : evs rs st (pts e) = (some vs, lk) := by rw [hev]; simp
    obtain ⟨hbd, hlen⟩ := evs_bd hpi (vs := vs) (by rw [hev'])
    have hB : Bd n < 2 ^ 400 := Nat.lt_of_le_of_lt (Bd_mono n3) (by decide)
    have hres : ev rs st e = fullR (opOf e) (some vs, lk) := by rw [ev_full hl, hev']
    tm_at "go"
    refine rc_lenL (.of g4) ?_
    tm_at "go"
    match vs, hlen with
    | [], h0 => exact absurd h0 (by simp; omega)
    | [v], h0 =>
      refine ifT rfl ?_
      tm_at "go"
      refine e_tupD ?_
      tm_at "go"
      refine e_callF d1 ?_
      tm_at "go"
      refine rx_str (he.mono (tp_same s4)) (n := opOf e) (pl_at (j := 0) rfl rfl) ?_
      tm_at "go"
      refine rx_list (.of g4) (v := .int v) (by rfl) ?_
      tm_at "go"
      refine ⟨_, _, .cons (.str _) (.cons (.int _) .nil), ⟨opOf e, v, rfl, rfl⟩, fun v3 H5 s5 hv3 => ?_⟩
      tm_at "go"
      refine tupend (ds := [.int (un1 (opOf e) v), .tuple (lk.map .int)]) (.cons hv3 (.cons (hlk.mono (tp_same s5)) .nil)) (Nat.le_of_ble_eq_true rfl) fun v9 H9 s9 h9 => ?_
      refine k _ _ (s4.trans (s5.trans s9)) ?_
      rw [hres]
      exact h9
    | [v, w], h0 =>
      refine ifF (by simp) ?_
      tm_at "go"
      refine e_tupD ?_
      tm_at "go"
      refine e_callF d2 ?_
      tm_at "go"
      refine rx_str (he.mono (tp_same s4)) (n := opOf e) (pl_at (j := 0) rfl rfl) ?_
      tm_at "go"
      refine rx_list (.of g4) (v := .int v) (by rfl) ?_
      tm_at "go"
      refine rx_list (.of g4) (v := .int w) (by rfl) ?_
      tm_at "go"
      have hv := Nat.lt_of_le_of_lt (hbd v (by simp)) hB
      have hw := Nat.lt_of_le_of_lt (hbd w (by simp)) hB
      have hdm : opOf e = "div" ∨ opOf e = "mod" → 1 ≤ w ∧ w < 1000 := by
        intro hop
        obtain ⟨_, fit, _, _⟩ := hi
        cases e with
        | bin op a b =>
          have := kind_bin fit.1
          exact hop.elim (fun z => absurd z this.1) (fun z => absurd z this.2)
        | un op a => exact absurd h0 (by show ¬ (2 = 1); decide)
        | kk op a kn =>
          have hk := fit.2.2
          have h2 : evs rs st [a, .int kn] = (some [v, w], lk) := hev'
          cases ea : (ev rs st a).1 with
          | none => rw [evs_none ea] at h2; cases (Prod.mk.inj h2).1
          | some x =>
            rw [evs_some ea] at h2
            have h3 := (Prod.mk.inj h2).1
            have h4 : (evs rs st [.int kn]).1 = some [kn] := rfl
            rw [h4] at h3
            simp at h3
            omega
        | int => exact hl.elim
        | nm => exact hl.elim
        | «at» => exact hl.elim
        | ite => exact hl.elim
      refine ⟨_, _, .cons (.str _) (.cons (.int _) (.cons (.int _) .nil)), ⟨opOf e, v, w, rfl, ⟨hv, hw⟩, hdm, rfl⟩, fun v3 H5 s5 hv3 => ?_⟩
      tm_at "go"
      refine tupend (ds := [.int (bin2 (opOf e) v w), .tuple (lk.map .int)]) (.cons hv3 (.cons (hlk.mono (tp_same s5)) .nil)) (Nat.le_of_ble_eq_true rfl) fun v9 H9 s9 h9 => ?_
      refine k _ _ (s4.trans (s5.trans s9)) ?_
      rw [hres]
      exact h9
    | _ :: _ :: _ :: _, h0 => exact absurd h0 (by simp; omega)
end K

namespace K
open PySem L2 G
variable {M : Md}
def lazyW : List Str := ["and", "or", "if"]
structure Lz (M : Md) : Prop where
  ex : ∃ aL, M.mg "LAZY" = some (.ref aL) ∧ ∀ H, SqT M.K H aL (lazyW.map V.str)
abbrev dcIx (M : Md) : Prop := DcV M "cell_index" ["cells", "name", "key"] [.non] 3 (spF rIndex M.K)
theorem thn1_keyed {rs : List Row} {st : St1} {t : Str} {e : Ex} : ev rs st (.at t e) = thn1 (keyed rs t (ev rs st e)) fun j => (some (gt st j), [j]) := by rw [ev]
theorem keyed_in {rs : List Row} {st : St1} {t : Str} {e : Ex} {j : Int} (h : (keyed rs t (ev rs st e)).1 = some j) : 0 ≤ j ∧ j < total rs := by
  unfold keyed at h
  split at h
  · cases h
  · have := fIdx_in h
    omega
theorem bins_at : ∀ op ∈ bins, op ≠ "at" ∧ (op ∈ lazyW → isLazy op = true) ∧ (op ∉ lazyW → isLazy op = false) := by decide +kernel
theorem uns_at : ∀ op ∈ uns, op ≠ "at" ∧ op ∉ lazyW := by decide +kernel
theorem kks_at : ∀ op ∈ kks, op ≠ "at" ∧ op ∉ lazyW := by decide +kernel
set_option maxHeartbeats 2000000 in
theorem ok_ev (n : Nat) {f fd} (F : Fun M.K "evaluated" "evaluated" s_evaluated f fd) (b : Bl M) (lz : Lz M) (dx : dcIx M)
    (rec : ∀ m, n = m + 1 → Dc M "keyed_index" ["cells", "state", "table", "key"] (2 * m + 5) (spF (rKey m) M.K) ∧ Dc M "_lazy_value" ["cells", "state", "expression"] (2 * m + 5) (spF (rLazy m) M.K) ∧ Dc M "_full_value" ["cells", "state", "expression"] (2 * m + 5) (spF (rFull m) M.K)) :
    FnG M.prog M.w M.K M.mg M.base CX0 (2 * n + 4) f fd ["cells", "state", "expression"] (spF (rEv n) M.K) := by
  refine fn_ok F sc_evaluated (fun vs H Q E h => ?_) (fun H vs Q E h => ?_)
  · obtain ⟨ds, d, h, ⟨rs, st, e, rfl, _⟩, _⟩ := h
    exact h.len
  obtain ⟨ds, d, h, ⟨rs, st, e, rfl, hi, rfl⟩, k⟩ := h
  obtain _ | ⟨hc, h⟩ := h
  obtain _ | ⟨hst, h⟩ := h
  obtain _ | ⟨he, h⟩ := h
  cases h
  rename_i vc vst ve
  have S := hi.S
  refine b_cut (fun σ1 H' => isIntD e.d = false ∧ Same H H' ∧ σ1 = [some vc, some vst, some ve, none, none]) ?_ ?_
  · tm_at "go"
    refine t_val ?_
    tm_at "go"
    refine rc_isiD e.plain he ?_
    have s1 := Same.refl H
    refine ⟨_, rfl, ifb (fun c1 => ?_) (fun c1 => ?_)⟩
    · tm_at "go"
      refine e_tupD ?_
      tm_at "go"
      refine e_tupD ?_
      tm_at "go"
      refine tupend (ds := []) .nil (Nat.le_of_ble_eq_true rfl) fun v2 H2 s2 h2 => ?_
      tm_at "go"
      refine tupend (ds := [e.d, .tuple []]) (.cons (he.mono (tp_same (s1.trans s2))) (.cons h2 .nil)) (Nat.le_of_ble_eq_true rfl) fun v9 H9 s9 h9 => ?_
      refine k _ _ (s1.trans (s2.trans s9)) ?_
      cases e with
      | int i => exact h9
      | nm => cases c1
      | «at» => cases c1
      | un => cases c1
      | bin => cases c1
      | kk => cases c1
      | ite => cases c1
    · tm_at "go"
      exact ⟨c1, s1, rfl⟩
  rintro _ H1 ⟨ci, s1, rfl⟩
  have he1 := he.mono (tp_same s1)
  cases e with
  | int => cases ci
  | nm s =>
    cases he1
    tm_at "go"
    refine t_val ?_
    tm_at "go"
    refine rc_isi (.base (.str s)) rfl ?_
    refine ⟨true, rfl, ift ?_⟩
    obtain ⟨hx, x0, x1⟩ := ix_ok S.nd hi.fit
    tm_at "go"
    refine e_callV dx ?_
    tm_at "go"
    refine ⟨_, _, .cons (hc.mono (tp_same s1)) (.cons (.str _) (.cons .non .nil)), ⟨rs, s, ix rs s, rfl, hx, rfl⟩, fun v H2 s2 hv => ?_⟩
    cases hv
    tm_at "go"
    refine e_tupD ?_
    tm_at "go"
    refine rx_int (hst.mono (tp_same (s1.trans s2))) (gt_at S x0 x1) ?_
    tm_at "go"
    refine e_tupD ?_
    tm_at "go"
    refine tupend (ds := [.int (ix rs s)]) (by tm_at "dts") (Nat.le_of_ble_eq_true rfl) fun v3 H3 s3 h3 => ?_
    tm_at "go"
    refine tupend (ds := [.int (gt st (ix rs s)), .tuple [.int (ix rs s)]]) (.cons (.int _) (.cons h3 .nil)) (Nat.le_of_ble_eq_true rfl) fun v9 H9 s9 h9 => ?_
    refine k _ _ (s1.trans (s2.trans (s3.trans s9))) ?_
    rw [ev]
    exact h9
  | «at» t e =>
    obtain ⟨m, rfl⟩ : ∃ m, n = m + 1 := ⟨n - 1, by have := hi.dep; unfold Ex.dep at this; omega⟩
    obtain ⟨dk, dl, df⟩ := rec m rfl
    have hi' : EvIn rs st e m := ⟨S, hi.fit.2, by have := hi.dep; unfold Ex.dep at this; omega, by have := hi.n4; omega⟩
    obtain ⟨ae, xe, rfl, hte, hde⟩ := he1.tupE
    tm_at "go"
    refine t_val ?_
    tm_at "go"
    refine rc_isi (ty_tup hte) rfl ?_
    refine ⟨false, rfl, iff0 ?_⟩
    tm_at "go"
    refine s_asg ?_
    refine e_callF dk ?_ (by show 2 * m + 5 ≤ 2 * (m + 1) + 3; omega)
    tm_at "go"
    refine rx_tup he1 (d := e.d) rfl fun v2 h2 => ?_
    tm_at "go"
    refine ⟨_, _, .cons (hc.mono (tp_same s1)) (.cons (hst.mono (tp_same s1)) (.cons (.str _) (.cons h2 .nil))), ⟨rs, st, t, e, rfl, hi', rfl⟩, fun v H2 s2 hv => ?_⟩
    refine g_unp2 (by tm_at "at") (by tm_at "at") hv fun v3 v4 h3 h4 => ?_
    rcases optN h3 with ⟨eo, rfl⟩ | ⟨j, eo, rfl⟩
    · tm_at "go"
      refine e_tupD ?_
      tm_at "go"
      refine tupend (ds := [.none, .tuple ((keyed rs t (ev rs st e)).2.map .int)]) (.cons .non (.cons h4 .nil)) (Nat.le_of_ble_eq_true rfl) fun v9 H9 s9 h9 => ?_
      refine k _ _ (s1.trans (s2.trans s9)) ?_
      rw [thn1_keyed, thn1_none eo]
      exact h9
    · obtain ⟨j0, j1⟩ := keyed_in eo
      tm_at "go"
      refine e_tupD ?_
      tm_at "go"
      refine rx_int (hst.mono (tp_same (s1.trans s2))) (gt_at S j0 j1) ?_
      tm_at "go"
      refine e_tupD ?_
      tm_at "go"
      refine tupend (ds := [.int j]) (by tm_at "dts") (Nat.le_of_ble_eq_true rfl) fun v5 H5 s5 h5 => ?_
      refine ro_catT (h4.mono (tp_same s5)) h5 (by have := lenLooks (rs := rs) (st := st) (e := e) hi'.dep hi'.n4; rw [keyed_snd, List.length_singleton]; omega) fun v8 H8 s8 h8 => ?_
      tm_at "go"
      refine tupend (ds := [.int (gt st j), .tuple ((keyed rs t (ev rs st e)).2.map .int ++ [.int j])]) (.cons (.int _) (.cons h8 .nil)) (Nat.le_of_ble_eq_true rfl) fun v9 H9 s9 h9 => ?_
      refine k _ _ (s1.trans (s2.trans (s5.trans (s8.trans s9)))) ?_
      rw [thn1_keyed, thn1_val eo, resD, List.map_append]
      exact h9
  | ite ea eb ed =>
    obtain ⟨m, rfl⟩ : ∃ m, n = m + 1 := ⟨n - 1, by have := hi.dep; unfold Ex.dep at this; omega⟩
    obtain ⟨dk, dl, df⟩ := rec m rfl
    obtain ⟨aL, hL, hS⟩ := lz.ex
    obtain ⟨ae, xe, rfl, hte, hde⟩ := he1.tupE
    tm_at "go"
    refine t_val ?_
    tm_at "go"
    refine rc_isi (ty_tup hte) rfl ?_
    refine ⟨false, rfl, iff0 ?_⟩
    tm_at "go"
    refine e_glob (v := .ref aL) hL rfl ?_
    refine ro_inST (ws := lazyW) (.tup (hS _) (dtStrs lazyW)) ?_
    refine ⟨_, rfl, ifT (by decide +kernel) ?_⟩
    tm_at "go"
    refine e_callF dl ?_ (by show 2 * m + 5 ≤ 2 * (m + 1) + 3; omega)
    tm_at "go"
    exact ⟨_, _, .cons (hc.mono (tp_same s1)) (.cons (hst.mono (tp_same s1)) (.cons he1 .nil)), ⟨rs, st, _, rfl, trivial, hi, rfl⟩, fun v H2 s2 hv => k _ _ (s1.trans s2) hv⟩
  | bin op ea eb =>
    obtain ⟨m, rfl⟩ : ∃ m, n = m + 1 := ⟨n - 1, by have := hi.dep; unfold Ex.dep at this; omega⟩
    obtain ⟨dk, dl, df⟩ := rec m rfl
    obtain ⟨aL, hL, hS⟩ := lz.ex
    obtain ⟨ae, xe, rfl, hte, hde⟩ := he1.tupE
    have hop := bins_at op hi.fit.1
    tm_at "go"
    refine t_val ?_
    tm_at "go"
    refine rc_isi (ty_tup hte) rfl ?_
    refine ⟨false, rfl, iff0 ?_⟩
    tm_at "go"
    refine ifd (fun c => absurd c hop.1) (fun _ => ?_)
    tm_at "go"
    refine e_glob (v := .ref aL) hL rfl ?_
    refine ro_inST (ws := lazyW) (.tup (hS _) (dtStrs lazyW)) ?_
    refine ⟨_, rfl, ifd (fun c2 => ?_) (fun c2 => ?_)⟩
    · tm_at "go"
      refine e_callF dl ?_ (by show 2 * m + 5 ≤ 2 * (m + 1) + 3; omega)
      tm_at "go"
      exact ⟨_, _, .cons (hc.mono (tp_same s1)) (.cons (hst.mono (tp_same s1)) (.cons he1 .nil)), ⟨rs, st, _, rfl, hop.2.1 c2, hi, rfl⟩, fun v H2 s2 hv => k _ _ (s1.trans s2) hv⟩
    · tm_at "go"
      refine e_callF df ?_ (by show 2 * m + 5 ≤ 2 * (m + 1) + 3; omega)
      tm_at "go"
      exact ⟨_, _, .cons (hc.mono (tp_same s1)) (.cons (hst.mono (tp_same s1)) (.cons he1 .nil)), ⟨rs, st, _, rfl, hop.2.2 c2, hi, rfl⟩, fun v H2 s2 hv => k _ _ (s1.trans s2) hv⟩
  | un op ea =>
    obtain ⟨m, rfl⟩ : ∃ m, n = m + 1 := ⟨n - 1, by have := hi.dep; unfold Ex.dep at this; omega⟩
    obtain ⟨dk, dl, df⟩ := rec m rfl
    obtain ⟨aL, hL, hS⟩ := lz.ex
    obtain ⟨ae, xe, rfl, hte, hde⟩ := he1.tupE
    have hop := uns_at op hi.fit.1
    tm_at "go"
    refine t_val ?_
    tm_at "go"
    refine rc_isi (ty_tup hte) rfl ?_
    refine ⟨false, rfl, iff0 ?_⟩
    tm_at "go"
    refine ifd (fun c => absurd c hop.1) (fun _ => ?_)
    tm_at "go"
    refine e_glob (v := .ref aL) hL rfl ?_
    refine ro_inST (ws := lazyW) (.tup (hS _) (dtStrs lazyW)) ?_
    refine ⟨_, rfl, ifd (fun c2 => absurd c2 hop.2) (fun c2 => ?_)⟩
    · tm_at "go"
      refine e_callF df ?_ (by show 2 * m + 5 ≤ 2 * (m + 1) + 3; omega)
      tm_at "go"
      exact ⟨_, _, .cons (hc.mono (tp_same s1)) (.cons (hst.mono (tp_same s1)) (.cons he1 .nil)), ⟨rs, st, _, rfl, trivial, hi, rfl⟩, fun v H2 s2 hv => k _ _ (s1.trans s2) hv⟩
  | kk op ea kn =>
    obtain ⟨m, rfl⟩ : ∃ m, n = m + 1 := ⟨n - 1, by have := hi.dep; unfold Ex.dep at this; omega⟩
    obtain ⟨dk, dl, df⟩ := rec m rfl
    obtain ⟨aL, hL, hS⟩ := lz.ex
    obtain ⟨ae, xe, rfl, hte, hde⟩ := he1.tupE
    have hop := kks_at op hi.fit.1
    tm_at "go"
    refine t_val ?_
    tm_at "go"
    refine rc_isi (ty_tup hte) rfl ?_
    refine ⟨false, rfl, iff0 ?_⟩
    tm_at "go"
    refine ifd (fun c => absurd c hop.1) (fun _ => ?_)
    tm_at "go"
    refine e_glob (v := .ref aL) hL rfl ?_
    refine ro_inST (ws := lazyW) (.tup (hS _) (dtStrs lazyW)) ?_
    refine ⟨_, rfl, ifd (fun c2 => absurd c2 hop.2) (fun c2 => ?_)⟩
    · tm_at "go"
      refine e_callF df ?_ (by show 2 * m + 5 ≤ 2 * (m + 1) + 3; omega)
      tm_at "go"
      exact ⟨_, _, .cons (hc.mono (tp_same s1)) (.cons (hst.mono (tp_same s1)) (.cons he1 .nil)), ⟨rs, st, _, rfl, trivial, hi, rfl⟩, fun v H2 s2 hv => k _ _ (s1.trans s2) hv⟩
end K

namespace K
open PySem L2 G
variable {M : Md}
def rVal (n : Nat) : List PyData → PyData → Prop := fun ds d => ∃ (rs : List Row) (st : St1) (e : Ex), ds = [cellsD rs, stD st, e.d] ∧ EvIn rs st e n ∧ d = optD (ev rs st e).1
def firsts (lk : List Int) : List Int := lk.foldl (fun seen j => if j ∈ seen then seen else seen ++ [j]) []
def lookD (st : St1) (j : Int) : PyData := .tuple [.int j, .int (gt st j)]
def looksD (st : St1) (lk : List Int) : PyData := .tuple ((firsts lk).map (lookD st))
theorem firsts_snoc {lk : List Int} {i : Nat} {j : Int} (h : lk[i]? = some j) : firsts (lk.take (i + 1)) = if j ∈ firsts (lk.take i) then firsts (lk.take i) else firsts (lk.take i) ++ [j] := by
  obtain ⟨h1, rfl⟩ := List.getElem?_eq_some_iff.mp h
  rw [List.take_succ_eq_append_getElem h1, firsts, List.foldl_append]
  rfl
theorem firsts_len (lk : List Int) : (firsts lk).length ≤ lk.length := by
  have : ∀ (l seen : List Int), (l.foldl (fun seen j => if j ∈ seen then seen else seen ++ [j]) seen).length ≤ seen.length + l.length := by
    intro l
    induction l with
    | nil => intro seen; exact Nat.le_refl _
    | cons j l ih =>
      intro seen
      have h := ih (if j ∈ seen then seen else seen ++ [j])
      rw [List.foldl_cons, List.length_cons]
      split at h
      · rename_i hj; rw [if_pos hj]; omega
      · rename_i hj; rw [if_neg hj]; rw [List.length_append, List.length_singleton] at h; omega
  have h := this lk []
  simpa [firsts] using h
theorem firsts_mem {lk : List Int} {j : Int} : j ∈ firsts lk ↔ j ∈ lk := by
  have : ∀ (l seen : List Int), j ∈ (l.foldl (fun seen j => if j ∈ seen then seen else seen ++ [j]) seen) ↔ j ∈ seen ∨ j ∈ l := by
    intro l
    induction l with
    | nil => intro seen; simp
    | cons x l ih =>
      intro seen
      rw [List.foldl_cons, ih, List.mem_cons]
      split
      · rename_i hx
        constructor
        · rintro (h | h)
          · exact .inl h
          · exact .inr (.inr h)
        · rintro (h | rfl | h)
          · exact .inl h
          · exact .inl hx
          · exact .inr h
      · rw [List.mem_append, List.mem_singleton, or_assoc]
  rw [firsts, this]
  simp
theorem firsts_nodup (lk : List Int) : (firsts lk).Nodup := by
  have : ∀ (l seen : List Int), seen.Nodup → (l.foldl (fun seen j => if j ∈ seen then seen else seen ++ [j]) seen).Nodup := by
    intro l
    induction l with
    | nil => intro seen h; exact h
    | cons x l ih =>
      intro seen h
      rw [List.foldl_cons]
      refine ih _ ?_
      split
      · exact h
      · rename_i hx
        rw [List.nodup_append]
        refine ⟨h, by simp, ?_⟩
        intro a ha b hb
        rw [List.mem_singleton.mp hb]
        rintro rfl
        exact hx ha
  exact this lk [] List.nodup_nil
theorem inI (j : Int) (l : List Int) : inV (.int j) (l.map .int) = decide (j ∈ l) := by
  unfold inV
  rw [Bool.eq_iff_iff, List.any_eq_true, decide_eq_true_iff]
  constructor
  · rintro ⟨y, hy, h⟩
    obtain ⟨z, hz, rfl⟩ := List.mem_map.mp hy
    have : z = j := by simpa [eqV] using h
    rw [← this]; exact hz
  · intro h
    exact ⟨.int j, List.mem_map.mpr ⟨j, h, rfl⟩, by simp [eqV]⟩
theorem ro_notInI {c : Cd} {H : Hp} {Q : VK} {l : Addr} {j : Int} {js : List Int} (hl : H l = some (.lst (js.map V.int))) (q : Q (.bl (!decide (j ∈ js))) H) : RQ c .NotIn (.int j) (.ref l) H Q := by
  refine rq_of (r := rIn c.K true) (fun X h => by rw [← h.K]; exact op_notIn_seq) ⟨l, _, rfl, .inl (.of hl), rfl, by simp [flatV], ?_⟩
  show Q (.bl (!inV (.int j) (js.map .int))) H
  rw [inI]
  exact q
def rFirst : List PyData → PyData → Prop := fun ds d => ∃ (rs : List Row) (st : St1) (lk : List Int), ds = [stD st, .tuple (lk.map .int)] ∧ StOk rs st ∧ (∀ j ∈ lk, 0 ≤ j ∧ j < total rs) ∧ lk.length ≤ 900 ∧ d = looksD st lk
theorem ev_in {rs : List Row} {st : St1} (S : StOk rs st) : ∀ (e : Ex), Fit rs e → ∀ j ∈ (ev rs st e).2, 0 ≤ j ∧ j < total rs := by
  have th : ∀ (r : Res) (g : Int → Res), (∀ j ∈ r.2, 0 ≤ j ∧ j < total rs) → (∀ v, r.1 = some v → ∀ j ∈ (g v).2, 0 ≤ j ∧ j < total rs) → ∀ j ∈ (thn1 r g).2, 0 ≤ j ∧ j < total rs := by
    intro r g h1 h2 j hj
    cases e : r.1 with
    | none => rw [thn1_none e] at hj; exact h1 j hj
    | some v =>
      rw [thn1_val e] at hj
      rcases List.mem_append.mp hj with hj | hj
      · exact h1 j hj
      · exact h2 v e j hj
  intro e
  induction e with
  | int => intro _ j hj; rw [ev] at hj; cases hj
  | nm s =>
    intro hf j hj
    rw [ev] at hj
    rw [List.mem_singleton.mp hj]
    exact (ix_ok S.nd hf).2
  | «at» t e ih =>
    intro hf j hj
    rw [thn1_keyed] at hj
    refine th _ _ (by rw [keyed_snd]; exact ih hf.2) (fun v hv j hj => ?_) j hj
    rw [List.mem_singleton.mp hj]
    exact keyed_in hv
  | un op e ih =>
    intro hf j hj
    rw [ev] at hj
    exact th _ _ (ih hf.2) (fun v hv j hj => by cases hj) j hj
  | bin op a b iha ihb =>
    intro hf j hj
    rw [ev] at hj
    split at hj
    · refine th _ _ (iha hf.2.1) (fun v hv j hj => ?_) j hj
      split at hj
      · cases hj
      · exact th _ _ (ihb hf.2.2) (fun v hv j hj => by cases hj) j hj
    · refine th _ _ (iha hf.2.1) (fun v hv j hj => ?_) j hj
      exact th _ _ (ihb hf.2.2) (fun v hv j hj => by cases hj) j hj
  | kk op e n ih =>
    intro hf j hj
    rw [ev] at hj
    exact th _ _ (ih hf.2.1) (fun v hv j hj => by cases hj) j hj
  | ite a b d iha ihb ihd =>
    intro hf j hj
    rw [ev] at hj
    refine th _ _ (iha hf.1) (fun v hv j hj => ?_) j hj
    split at hj
    · exact ihb hf.2.1 j hj
    · exact ihd hf.2.2 j hj
def rLooked (n : Nat) : List PyData → PyData → Prop := fun ds d => ∃ (rs : List Row) (st : St1) (e : Ex), ds = [cellsD rs, stD st, e.d] ∧ EvIn rs st e n ∧ d = looksD st (ev rs st e).2
end K

namespace K
open PySem L2 G
variable {M : Md}
def Tg.str : Tg → Bool
  | .nm _ => true
  | .at _ _ => false
def tgt (rs : List Row) (st : St1) : Tg → Res
  | .nm s => (fIdx rs s none 0, [])
  | .at t e => keyed rs t (ev rs st e)
structure TgIn (rs : List Row) (st : St1) (t : Tg) : Prop where
  S : StOk rs st
  fit : FitT rs t
def rTgt : List PyData → PyData → Prop := fun ds d => ∃ (rs : List Row) (st : St1) (t : Tg), ds = [cellsD rs, stD st, t.d] ∧ TgIn rs st t ∧ d = resD (tgt rs st t)
abbrev Ents := Option (List (Int × Int)) × List Int
def wo (rs : List Row) (st : St1) : List (Tg × Ex) → Ents
  | [] => (some [], [])
  | p :: ps => match (tgt rs st p.1).1 with
    | none => (none, (tgt rs st p.1).2)
    | some j => match (ev rs st p.2).1 with
      | none => (none, (tgt rs st p.1).2 ++ (ev rs st p.2).2)
      | some v => ((wo rs st ps).1.map ((j, v) :: ·), (tgt rs st p.1).2 ++ ((ev rs st p.2).2 ++ (wo rs st ps).2))
def work (rs : List Row) (st : St1) (r : Rl) : Ents := match (ev rs st r.guard).1 with
  | none => (none, (ev rs st r.guard).2)
  | some g => if g = 0 then (none, (ev rs st r.guard).2) else ((wo rs st r.as).1, (ev rs st r.guard).2 ++ (wo rs st r.as).2)
def entD (p : Int × Int) : PyData := .tuple [.int p.1, .int p.2]
/-- pairs of ints, each a tuple of ours -/
inductive PrAll (H : Hp) : List V → List (Int × Int) → Prop
  | nil : PrAll H [] []
  | cons {t : Addr} {i j : Int} {us : List V} {es : List (Int × Int)} : H t = some (.tup [.int i, .int j]) → PrAll H us es → PrAll H (.ref t :: us) ((i, j) :: es)
theorem PrAll.mono {H H' : Hp} (e : Tp H H') {us : List V} {es : List (Int × Int)} (h : PrAll H us es) : PrAll H' us es := by
  induction h with
  | nil => exact .nil
  | cons h1 _ ih => exact .cons (e.t _ _ h1) ih
theorem PrAll.app {H : Hp} {us vs : List V} {es fs : List (Int × Int)} (h : PrAll H us es) (k : PrAll H vs fs) : PrAll H (us ++ vs) (es ++ fs) := by
  induction h with
  | nil => exact k
  | cons h1 _ ih => exact .cons h1 ih
theorem PrAll.dt {K : PySem.W.Frag} {H : Hp} {us : List V} {es : List (Int × Int)} (h : PrAll H us es) : DtAll K H us (es.map entD) := by
  induction h with
  | nil => exact .nil
  | cons h1 _ ih => exact .cons (.tup (.of h1) (.cons (.int _) (.cons (.int _) .nil))) ih
/-- None or a new list of pairs -/
def EntV (K : PySem.W.Frag) (H0 H : Hp) : V → Option (List (Int × Int)) → Prop
  | v, none => v = .non
  | v, some es => ∃ l us, v = .ref l ∧ H0 l = none ∧ H l = some (.lst us) ∧ PrAll H us es
def spWork (K : PySem.W.Frag) : Sp := fun vs H Q _ => ∃ (rs : List Row) (st : St1) (r : Rl), DtAll K H vs [cellsD rs, r.d, stD st] ∧ StOk rs st ∧ FitR rs r ∧
  ∀ p v1 v2 H', Same H H' → SqT K H' p [v1, v2] → EntV K H H' v1 (work rs st r).1 → Dt K H' v2 (.tuple ((work rs st r).2.map .int)) → Q (.ref p) H'
theorem wo_j {rs : List Row} {st : St1} {p : Tg × Ex} {ps : List (Tg × Ex)} (h : (tgt rs st p.1).1 = none) : wo rs st (p :: ps) = (none, (tgt rs st p.1).2) := by rw [wo, h]
theorem wo_v {rs : List Row} {st : St1} {p : Tg × Ex} {ps : List (Tg × Ex)} {j : Int} (h : (tgt rs st p.1).1 = some j) (h2 : (ev rs st p.2).1 = none) : wo rs st (p :: ps) = (none, (tgt rs st p.1).2 ++ (ev rs st p.2).2) := by rw [wo, h]; simp only [h2]
theorem wo_s {rs : List Row} {st : St1} {p : Tg × Ex} {ps : List (Tg × Ex)} {j v : Int} (h : (tgt rs st p.1).1 = some j) (h2 : (ev rs st p.2).1 = some v) : wo rs st (p :: ps) = ((wo rs st ps).1.map ((j, v) :: ·), (tgt rs st p.1).2 ++ ((ev rs st p.2).2 ++ (wo rs st ps).2)) := by rw [wo, h]; simp only [h2]
theorem tgt_len {rs : List Row} {st : St1} {t : Tg} (h : FitT rs t) : (tgt rs st t).2.length ≤ 32 := by
  cases t with
  | nm => exact Nat.zero_le _
  | «at» t e =>
    unfold tgt
    rw [keyed_snd]
    have := lenLooks (rs := rs) (st := st) (e := e) (n := 2) h.2.2 (by decide)
    rwa [List.length_map] at this
end K

namespace K
open PySem PySem.Spec PyProof.Rows L2 G
variable {M : Md}
def tLenSetA (K : PySem.W.Frag) (ta : TE) : TE := fun σ H Q => ta σ H fun x H1 => ∃ (l : Addr) (ns : List Int), x = .ref l ∧ SqL K H1 l (ns.map V.int) ∧ ns.length ≤ 4000 ∧ Q (.int ((firsts ns).length : Nat)) H1
theorem met_firsts (ns : List Int) : firstMet (fun i => ns.getD i 0) ns.length = firsts ns := by
  have e : (List.range ns.length).map (fun i => ns.getD i 0) = ns := by
    apply List.ext_getElem
    · simp
    · intro i h1 h2
      simp [List.getD_eq_getElem?_getD, List.getElem?_eq_getElem h2]
  have e2 : (fun (seen : List Int) (j : Int) => if j ∈ seen then seen else seen ++ [j]) = step_dedup := by
    funext seen j
    unfold step_dedup
    by_cases h : j ∈ seen
    · rw [if_pos h, if_pos (by simpa [List.any_eq_true] using h)]
    · rw [if_neg h, if_neg (by simpa [List.any_eq_true] using h)]
  unfold firstMet firsts
  rw [e, e2]
theorem pe_lenSetA {X : Cx} {a : Expr} {ta : TE} {p p2 q pos : Pos} (hc : X.calm = true) (hg : Gl X "len") (hm : X.mg "len" = none) (hg2 : Gl X "set") (hm2 : X.mg "set" = none) (ha : PE X a ta)
    (na : starEach [a] X.env = (false, eval a X.env) :: starEach [] X.env := by rfl) : PE X (.Call (.Name "len" p) [.Call (.Name "set" p2) [a] [] q] [] pos) (tLenSetA X.K ta) := by
  constructor
  intro ps s0 σ H Q J w
  apply Call_ (ld_blt J hg hm boot_len _)
  apply PyProof.Rows.callWith_builtin1 (PyProof.Rows.args_cons _ rfl) rfl rfl
  apply Call_ (ld_blt J hg2 hm2 boot_set _)
  apply PyProof.Rows.callWith_type1 (PyProof.Rows.args_cons (thn (ha.run ps s0 σ H _ J w) _) na) na rfl
  rintro u t0 ⟨x, H1, J1, ru, l, ns, rfl, isL, few, k⟩
  cases ru
  apply PyProof.Rows.args_nil
  obtain ⟨ws, rw0, plain, _⟩ := J1.list isL
  have size : ws.toArray.size = ns.length := by rw [List.size_toArray, ← rw0.length, List.length_map]
  refine call_set_list (J1.ok.hd hc) plain.isList (by simpa using RZ.intsAre_vals rw0) (by rw [size]; unfold scanBound; omega) fun hp tk isS keep => ?_
  rw [size, met_firsts] at isS
  have few2 := firsts_len ns
  obtain ⟨ob, es, ep, tt, a1, a2, a3, -, -, -, a4, a5⟩ := isS
  apply PyProof.Rows.args_nil
  exact call_len_set a1 a2 a3 a4 (by rw [a5] <;> omega) ⟨.int (firsts ns).length, H1, (J1.kept (fun b o e => keep b o (Heap.lt_size e)  e)).tok _, ⟨_, by rw [a5]⟩, k⟩
theorem e_lenSet {c : Cd} {σ : L2.St} {H : Hp} {Q : VK} {a : Expr} {p p2 q pos : Pos} (b : Bl c.toMd) (w : RE c a σ H fun x H1 => ∃ (l : Addr) (ns : List Int), x = .ref l ∧ SqL c.K H1 l (ns.map V.int) ∧ ns.length ≤ 4000 ∧ Q (.int ((firsts ns).length : Nat)) H1)
    (hg : c.sc.names.lookup ("len" : Str) = some .globalImplicit := by rfl) (hg2 : c.sc.names.lookup ("set" : Str) = some .globalImplicit := by rfl) (na : ∀ env, starEach [a] env = (false, eval a env) :: starEach [] env := by intro _; rfl) : RE c (.Call (.Name "len" p) [.Call (.Name "set" p2) [a] [] q] [] pos) σ H Q :=
  re_of (t := tLenSetA c.K (RE c a)) (fun X h => by rw [← h.K]; exact pe_lenSetA h.calm (gl_of h hg) (by rw [h.mg]; exact b.len) (gl_of h hg2) (by rw [h.mg]; exact b.set) (pe_re h) (na _)) w
end K

local macro_rules | `(tactic| tm_at "s") => `(tactic| (refine gRE ?_; refine K.e_lenSet (by assumption) ?_))
namespace K
open PySem PySem.Spec PyProof.Rows L2 G
variable {M : Md}
def kf (H : Hp) : V → Int × Int
  | .ref t => match H t with
    | some (.tup [.int i, .int j]) => (i, j)
    | _ => (0, 0)
  | _ => (0, 0)
theorem PrAll.kf {H : Hp} {us : List V} {es : List (Int × Int)} (h : PrAll H us es) : es = us.map (K.kf H) ∧ ∀ x ∈ us, ∃ t, x = .ref t ∧ H t = some (.tup [.int (K.kf H x).1, .int (K.kf H x).2]) := by
  induction h with
  | nil => exact ⟨rfl, fun _ h => nomatch h⟩
  | @cons t i j us es h1 h2 ih =>
    have e : K.kf H (.ref t) = (i, j) := by
      show (match H t with | some (.tup [.int i, .int j]) => (i, j) | _ => (0, 0)) = _
      rw [h1]
    refine ⟨by rw [List.map_cons, e, ← ih.1], fun x hx => ?_⟩
    rcases List.mem_cons.mp hx with rfl | hx
    · exact ⟨t, rfl, by rw [e]; exact h1⟩
    · exact ih.2 x hx
theorem prAll_of {H : Hp} : ∀ {ys : List V}, (∀ x ∈ ys, ∃ t, x = .ref t ∧ H t = some (.tup [.int (kf H x).1, .int (kf H x).2])) → PrAll H ys (ys.map (kf H))
  | [], _ => .nil
  | y :: ys, h => by
    obtain ⟨t, rfl, ht⟩ := h y (List.mem_cons_self ..)
    exact .cons ht (prAll_of fun x hx => h x (List.mem_cons_of_mem _ hx))
def leB (a b : Int × Int) : Bool := !SrtO.lexB b a
def sortE (es : List (Int × Int)) : List (Int × Int) := es.mergeSort leB
theorem leB_iff {a b : Int × Int} : leB a b = true ↔ a.1 < b.1 ∨ (a.1 = b.1 ∧ a.2 ≤ b.2) := by
  unfold leB
  rw [Bool.not_eq_true', SrtO.lexB_no]
  omega
theorem sortE_pw (es : List (Int × Int)) : (sortE es).Pairwise fun a b => leB a b = true := by
  refine List.pairwise_mergeSort (fun a b c h1 h2 => ?_) (fun a b => ?_) es
  · rw [leB_iff] at *; omega
  · rw [Bool.or_eq_true, leB_iff, leB_iff]; omega
theorem sortE_perm (es : List (Int × Int)) : (sortE es).Perm es := List.mergeSort_perm es leB
theorem sortE_uniq {es fs : List (Int × Int)} (hp : fs.Perm es) (hs : fs.Pairwise fun a b => leB a b = true) : fs = sortE es := by
  refine List.Perm.eq_of_pairwise (le := fun a b => leB a b = true) (fun a b _ _ h1 h2 => ?_) hs (sortE_pw es) (hp.trans (sortE_perm es).symm)
  rw [leB_iff] at *
  exact Prod.ext (by omega) (by omega)
theorem rc_sortedP {c : Cd} {H : Hp} {Q : VK} {l : Addr} {us : List V} {es : List (Int × Int)} (hl : H l = some (.lst us)) (hp : PrAll H us es) (q : ∀ p ys H', Same H H' → H p = none → H' p = some (.lst ys) → PrAll H' ys (sortE es) → Q (.ref p) H') : RC c (.builtin "sorted") [.ref l] H Q := by
  obtain ⟨h1, h2⟩ := hp.kf
  refine rc_of (r := rSortedPO c.K) (fun X h => by rw [← h.K]; exact cr_sortedPO) ⟨l, us, kf H, rfl, .of hl, h2, fun ys p hs hb hn => ?_⟩
  have hm : ∀ x ∈ ys, x ∈ us := fun x hx => hb.perm.mem_iff.mp hx
  have e : ys.map (kf H) = sortE es := by
    refine sortE_uniq ?_ ?_
    · rw [h1]; exact hb.perm.map _
    · rw [List.pairwise_map]
      refine hs.imp fun {a b} h => ?_
      unfold leB
      rw [show SrtO.lexB (kf H b) (kf H a) = false from h]
      rfl
  refine q p ys _ (same_new hn) hn upd_same ?_
  rw [← e]
  exact (prAll_of fun x hx => h2 x (hm x hx)).mono (tp_same (same_new hn))
def inR (rs : List Row) (p : Int × Int) : Bool := match (rg rs)[p.1.toNat]? with
  | some r => decide (r.1 ≤ p.2) && decide (p.2 ≤ r.2)
  | none => false
def asg (rs : List Row) (st : St1) (r : Rl) : Option (List (Int × Int)) := match (work rs st r).1 with
  | none => none
  | some es => if (firsts (es.map (·.1))).length < es.length then none else if es.all (inR rs) then some (sortE es) else none
def asgD : Option (List (Int × Int)) → PyData
  | none => .none
  | some es => .tuple (es.map entD)
theorem tgt_in {rs : List Row} {st : St1} {t : Tg} {j : Int} (h : (tgt rs st t).1 = some j) : 0 ≤ j ∧ j < total rs := by
  cases t with
  | nm s => have := fIdx_in h; omega
  | «at» t e => exact keyed_in h
theorem wo_in {rs : List Row} {st : St1} : ∀ {as : List (Tg × Ex)} {es : List (Int × Int)}, (wo rs st as).1 = some es → (∀ p ∈ es, 0 ≤ p.1 ∧ p.1 < total rs) ∧ es.length = as.length
  | [], es, h => by
    rw [wo] at h
    cases h
    exact ⟨(fun _ h => nomatch h), rfl⟩
  | p :: ps, es, h => by
    cases e1 : (tgt rs st p.1).1 with
    | none => rw [wo_j e1] at h; cases h
    | some j =>
      cases e2 : (ev rs st p.2).1 with
      | none => rw [wo_v e1 e2] at h; cases h
      | some v =>
        rw [wo_s e1 e2] at h
        obtain ⟨ws, hw, rfl⟩ := Option.map_eq_some_iff.mp h
        obtain ⟨h2, h3⟩ := wo_in hw
        refine ⟨fun q hq => ?_, by rw [List.length_cons, List.length_cons, h3]⟩
        rcases List.mem_cons.mp hq with rfl | hq
        · exact tgt_in e1
        · exact h2 q hq
theorem work_in {rs : List Row} {st : St1} {r : Rl} {es : List (Int × Int)} (h : (work rs st r).1 = some es) : (∀ p ∈ es, 0 ≤ p.1 ∧ p.1 < total rs) ∧ es.length = r.as.length := by
  unfold work at h
  split at h
  · cases h
  · split at h
    · cases h
    · exact wo_in h
def rAsg : List PyData → PyData → Prop := fun ds d => ∃ (rs : List Row) (st : St1) (r : Rl), ds = [cellsD rs, r.d, stD st] ∧ StOk rs st ∧ FitR rs r ∧ d = asgD (asg rs st r)
theorem PrAll.len {H : Hp} {us : List V} {es : List (Int × Int)} (h : PrAll H us es) : us.length = es.length := by
  have := (h.dt (K := ([] : PySem.W.Frag))).len
  rwa [List.length_map] at this
end K

namespace K
open PySem PySem.Spec PyProof.Rows L2 G
variable {M : Md}
abbrev dcWork (M : Md) : Prop := Dc M "_worked_out" ["cells", "rule", "state"] 13 (spWork M.K)
abbrev dcRng (M : Md) : Prop := Dc M "cell_ranges" ["cells"] 2 (spF rRanges M.K)
theorem rg_get {rs : List Row} {p : Int × Int} (h0 : 0 ≤ p.1) (h1 : p.1 < total rs) : ∃ r : Rng, (rg rs)[p.1.toNat]? = some r ∧ atI (rngs rs) p.1 = some (rngD r) ∧ inR rs p = (decide (r.1 ≤ p.2) && decide (p.2 ≤ r.2)) := by
  have hlt : p.1.toNat < (rg rs).length := by rw [rg_len]; omega
  refine ⟨(rg rs)[p.1.toNat], List.getElem?_eq_getElem hlt, ?_, ?_⟩
  · refine pl_at (j := p.1.toNat) (by omega) ?_
    rw [rngs_eq, List.getElem?_map, List.getElem?_eq_getElem hlt]
    rfl
  · unfold inR
    rw [List.getElem?_eq_getElem hlt]
def gIx : PyData → Option PyData
  | .tuple [.int i, .int _] => some (.int i)
  | _ => none
theorem gIx_all (es : List (Int × Int)) : (es.map entD).filterMap gIx = (es.map (·.1)).map .int := by
  induction es with
  | nil => rfl
  | cons p es ih => rw [List.map_cons, List.filterMap_cons, List.map_cons, List.map_cons, ← ih]; rfl
theorem dtInts_eq {K : PySem.W.Frag} {H : Hp} : ∀ {ns : List Int} {xs : List V}, DtAll K H xs (ns.map .int) → xs = ns.map .int
  | [], _, h => by cases h; rfl
  | w :: ws, _, h => by
    cases h with
    | cons h1 h2 =>
      cases h1
      rw [dtInts_eq h2, List.map_cons]
theorem rc_tupP {c : Cd} {H : Hp} {Q : VK} {l : Addr} {ys : List V} {ds : List PyData} (hl : SqL c.K H l ys) (hd : DtAll c.K H ys ds) (q : ∀ v H2, Same H H2 → Dt c.K H2 v (.tuple ds) → Fz c.K H2 v (.tuple ds) → (∃ t, v = .ref t ∧ SqT c.K H2 t ys) → Q v H2) : RC c (.type "tuple") [.ref l] H Q :=
  rc_of (r := fun vs H Q => ∃ l zs, vs = [.ref l] ∧ SqL c.K H l zs ∧ ∀ t ob, H t = none → BareT ob → Q (.ref t) (upd H t (.frz ob (.tup zs)))) (fun X h => by rw [← h.K]; exact cr_tupF) ⟨l, ys, rfl, hl, fun t ob hn hb =>
    have m := hd.mono (tp_same (same_new (o := .frz ob (.tup ys)) hn))
    q _ _ (same_new hn) (.tup (.inl (.inr ⟨ob, upd_same⟩)) m) (.inr ⟨t, ob, ys, ds, rfl, rfl, upd_same, hb, m⟩) ⟨t, rfl, .inl (.inr ⟨ob, upd_same⟩)⟩⟩
def spAsg (K : PySem.W.Frag) : Sp := fun vs H Q _ => ∃ ds d, DtAll K H vs ds ∧ (∃ (rs : List Row) (st : St1) (r : Rl), ds = [cellsD rs, r.d, stD st] ∧ StOk rs st ∧ FitR rs r ∧ d = asgD (asg rs st r) ∧
  ∀ v H', Same H H' → Dt K H' v d → Fz K H' v d → (∀ es, asg rs st r = some es → ∃ a us, v = .ref a ∧ SqT K H' a us ∧ PrAll H' us es) → Q v H')
theorem spAsg_of {K : PySem.W.Frag} {vs : List V} {H : Hp} {Q : VK} {E : XK} (h : spZ rAsg K vs H Q E) : spAsg K vs H Q E := by
  obtain ⟨ds, d, h, ⟨rs, st, r, e, S, R, ed⟩, k⟩ := h
  exact ⟨ds, d, h, rs, st, r, e, S, R, ed, fun v H' s h1 h2 _ => k v H' s h1 h2⟩
theorem fn_imp {P : Program} {w : World} {K : PySem.W.Frag} {mg : Str → Option Value} {base : Heap} {CX : CXT} {k : Nat} {f : Addr} {fd : FuncData} {ps : List Str} {sp sp' : Sp} (F : FnG P w K mg base CX k f fd ps sp) (h : ∀ vs H Q E, sp' vs H Q E → sp vs H Q E) : FnG P w K mg base CX k f fd ps sp' :=
  ⟨fun vs H Q E z => F.len vs H Q E (h _ _ _ _ z), fun A o s H ag us vs Q E hr e0 bt v z => F.run A o s H ag us vs Q E hr e0 bt v (h _ _ _ _ z)⟩
end K

namespace K
open PySem L2 G
variable {M : Md}
abbrev dcAsg (M : Md) : Prop := Dc M "assigned" ["cells", "rule", "state"] 14 (spZ rAsg M.K)
def setAt (st : St1) (p : Int × Int) : St1 := st.set p.1.toNat p.2
def beh (rs : List Row) (st : St1) (r : Rl) : St1 := match asg rs st r with
  | none => st
  | some es => es.foldl setAt st
theorem firsts_nd {l : List Int} (h : l.length ≤ (firsts l).length) : l.Nodup := by
  have up : ∀ (l seen : List Int), (l.foldl (fun seen j => if j ∈ seen then seen else seen ++ [j]) seen).length ≤ seen.length + l.length := by
    intro l
    induction l with
    | nil => intro seen; exact Nat.le_refl _
    | cons j l ih =>
      intro seen
      have h := ih (if j ∈ seen then seen else seen ++ [j])
      rw [List.foldl_cons, List.length_cons]
      split at h
      · rename_i hj; rw [if_pos hj]; omega
      · rename_i hj; rw [if_neg hj]; rw [List.length_append, List.length_singleton] at h; omega
  have : ∀ (l seen : List Int), seen.length + l.length ≤ (l.foldl (fun seen j => if j ∈ seen then seen else seen ++ [j]) seen).length → (∀ x ∈ l, x ∉ seen) ∧ l.Nodup := by
    intro l
    induction l with
    | nil => intro seen _; exact ⟨(fun _ h => nomatch h), List.nodup_nil⟩
    | cons x l ih =>
      intro seen hs
      rw [List.foldl_cons, List.length_cons] at hs
      by_cases hx : x ∈ seen
      · rw [if_pos hx] at hs
        have := up l seen
        omega
      · rw [if_neg hx] at hs
        obtain ⟨h1, h2⟩ := ih (seen ++ [x]) (by rw [List.length_append, List.length_singleton]; omega)
        refine ⟨fun y hy => ?_, List.nodup_cons.mpr ⟨fun hxl => h1 x hxl (List.mem_append_right _ (List.mem_singleton.mpr rfl)), h2⟩⟩
        rcases List.mem_cons.mp hy with rfl | hy
        · exact hx
        · exact fun hys => h1 y hy (List.mem_append_left _ hys)
  exact (this l [] (by simpa [firsts] using h)).2
theorem asg_in {rs : List Row} {st : St1} {r : Rl} {es : List (Int × Int)} (h : asg rs st r = some es) : (∀ p ∈ es, (0 ≤ p.1 ∧ p.1 < total rs) ∧ inR rs p = true) ∧ es.length = r.as.length ∧ (es.map (·.1)).Nodup ∧ es.Pairwise (fun a b => leB a b = true) := by
  unfold asg at h
  split at h
  · cases h
  rename_i es0 hw
  split at h
  · cases h
  rename_i hnd
  split at h
  · rename_i hall
    cases h
    obtain ⟨h1, h2⟩ := work_in hw
    have hp := sortE_perm es0
    refine ⟨fun p hp' => ⟨h1 p (hp.mem_iff.mp hp'), List.all_eq_true.mp hall p (hp.mem_iff.mp hp')⟩, by rw [hp.length_eq, h2], ?_, sortE_pw es0⟩
    refine ((hp.map (·.1)).nodup_iff).mpr ?_
    refine firsts_nd ?_
    rw [List.length_map]
    omega
  · cases h
def rBeh : List PyData → PyData → Prop := fun ds d => ∃ (rs : List Row) (st : St1) (r : Rl), ds = [cellsD rs, r.d, stD st] ∧ StOk rs st ∧ FitR rs r ∧ d = stD (beh rs st r)
theorem setAt_len (es : List (Int × Int)) : ∀ st : St1, (es.foldl setAt st).length = st.length := by
  induction es with
  | nil => intro st; rfl
  | cons p es ih => intro st; rw [List.foldl_cons, ih, setAt, List.length_set]
def rWa : List PyData → PyData → Prop := fun ds d => ∃ (rs : List Row) (st : St1) (r : Rl), ds = [stD st, asgD (asg rs st r)] ∧ StOk rs st ∧ FitR rs r ∧ d = stD (beh rs st r)
def rLof : List PyData → PyData → Prop := fun ds d => ∃ (rs : List Row) (st : St1) (r : Rl), ds = [cellsD rs, r.d, stD st] ∧ StOk rs st ∧ FitR rs r ∧ d = looksD st (work rs st r).2
theorem wo_looks {rs : List Row} {st : St1} (S : StOk rs st) : ∀ {as : List (Tg × Ex)}, (∀ p ∈ as, FitT rs p.1 ∧ Fit rs p.2 ∧ p.2.dep ≤ 2) → (∀ j ∈ (wo rs st as).2, 0 ≤ j ∧ j < total rs) ∧ (wo rs st as).2.length ≤ 64 * as.length
  | [], _ => by
    rw [wo]
    exact ⟨(fun _ h => nomatch h), Nat.zero_le _⟩
  | p :: ps, hp => by
    obtain ⟨h1, h2, h3⟩ := hp p (List.mem_cons_self ..)
    obtain ⟨i1, i2⟩ := wo_looks S fun q hq => hp q (List.mem_cons_of_mem _ hq)
    have lt := tgt_len (rs := rs) (st := st) h1
    have le2 := lenLooks (rs := rs) (st := st) (e := p.2) (n := 2) h3 (by decide)
    rw [List.length_map] at le2
    have tin : ∀ j ∈ (tgt rs st p.1).2, 0 ≤ j ∧ j < total rs := by
      cases hpt : p.1 with
      | nm => intro j hj; cases hj
      | «at» t e =>
        rw [hpt] at h1
        intro j hj
        unfold tgt at hj
        rw [keyed_snd] at hj
        exact ev_in S e h1.2.1 j hj
    have ein := ev_in S p.2 h2
    rw [List.length_cons]
    cases e1 : (tgt rs st p.1).1 with
    | none => rw [wo_j e1]; exact ⟨tin, by show (tgt rs st p.1).2.length ≤ _; omega⟩
    | some j =>
      cases e2 : (ev rs st p.2).1 with
      | none =>
        rw [wo_v e1 e2]
        refine ⟨fun j hj => ?_, by show ((tgt rs st p.1).2 ++ _).length ≤ _; rw [List.length_append]; omega⟩
        rcases List.mem_append.mp hj with hj | hj
        · exact tin j hj
        · exact ein j hj
      | some v =>
        rw [wo_s e1 e2]
        refine ⟨fun j hj => ?_, by show ((tgt rs st p.1).2 ++ (_ ++ _)).length ≤ _; rw [List.length_append, List.length_append]; omega⟩
        rcases List.mem_append.mp hj with hj | hj
        · exact tin j hj
        · rcases List.mem_append.mp hj with hj | hj
          · exact ein j hj
          · exact i1 j hj
theorem work_looks {rs : List Row} {st : St1} {r : Rl} (S : StOk rs st) (R : FitR rs r) : (∀ j ∈ (work rs st r).2, 0 ≤ j ∧ j < total rs) ∧ (work rs st r).2.length ≤ 900 := by
  obtain ⟨h1, h2⟩ := wo_looks S R.as
  have lg := lenLooks (rs := rs) (st := st) (e := r.guard) (n := 4) R.guard.2 (by decide)
  rw [List.length_map] at lg
  have gin := ev_in S r.guard R.guard.1
  have hl := R.len
  unfold work
  split
  · exact ⟨gin, by show (ev rs st r.guard).2.length ≤ _; omega⟩
  · split
    · exact ⟨gin, by show (ev rs st r.guard).2.length ≤ _; omega⟩
    · refine ⟨fun j hj => ?_, by show ((ev rs st r.guard).2 ++ _).length ≤ _; rw [List.length_append]; omega⟩
      rcases List.mem_append.mp hj with hj | hj
      · exact gin j hj
      · exact h1 j hj
end K

namespace G
open PySem PySem.Spec PyProof.Rows L2
/-! ### dicts whose keys are tuples: made by a comprehension, made of a list of pairs -/
section
variable {X : Cx} {pins : List (Addr × Obj)} {σ : L2.St} {H : Hp} {s : Shared}
theorem putT_here {E : Value → Shared → Prop} {D b : Addr} {kvs : List (List Key × V)} {ks : List Key} {v : V} {r : Value} {Q : Unit → Shared → Prop} (hu : X.A.units + 1 < cLine) (J : Inv X pins σ H s)
    (at_ : H D = some (.dT kvs)) (few : kvs.length < sizeLine) (kb : H b = some (.tup (ks.map kV))) (rv : RelV v r)
    (go : ∀ s', Inv X pins σ (upd H D (.dT (putK kvs ks v))) s' → Q () s') : wpAny (model X.prog X.w) X.A (dictSet D (.ref b) r) Q E s := by
  obtain ⟨zl, nm, xs, rel, tb⟩ := dt_of J.hok at_
  have zx : xs.length ≤ sizeLine := by rw [← Paired.length rel]; exact zl
  have zp : (putK kvs ks v).length ≤ sizeLine := by have := length_putK kvs ks v; omega
  refine wpAny_dictSet_heap (knd := tupleKind (mixKind X.prog X.w)) (hsz := zx) (show X.A.units < cLine by omega) (key_of J.hok kb) tb fun h2 tb2 sb => go _ ?_
  obtain ⟨ob, es, ep, q1, q2, q3, q4, _, q5⟩ := tb2
  refine d_write J (by rw [at_]; exact True.intro) sb ⟨ob, q1⟩ ⟨zp, nm, _, (rel.put ks kb rv).keeps fun c ys ec => ?_, ob, es, ep, q1, q2, q3, q4, q5⟩
  rw [upd_ne (ne_of ec at_ fun z => nomatch z)]
  exact ec
end
section
variable {X : Cx}
/-- {k: v for tg in it}, the keys tuples; D the new dict -/
def tDcT (wi : TI) (g : TG) (tt : TT) (tk tv : TE) (vs : List Nat) : TE := fun σ H Q => wi σ H fun J H1 => ∀ D, H1 D = none → ∃ W : Nat → Nat → Hp → Prop, (∃ m, W 0 m (upd H1 D (.dT []))) ∧ ∀ i m H, W i m H →
  (J.stop i H ∧ Q (.ref D) H) ∨ (J.go i H ∧ ∃ Nx : Hp → Prop, (∀ H', Nx H' → ∃ m', m' < m ∧ W (i + 1) m' H') ∧
    ∀ x H', J.yld i H x H' → g x (wipe σ vs) H' fun σ2 H2 => wipe σ2 vs = wipe σ vs ∧ tt σ2 H2 fun b H3 => if b = true then tk σ2 H3 fun y H4 => tv σ2 H4 fun z H5 =>
      ∃ (kvs : List (List Key × V)) (ks : List Key) (a : Addr), y = .ref a ∧ H5 a = some (.tup (ks.map kV)) ∧ H5 D = some (.dT kvs) ∧ kvs.length < sizeLine ∧ Nx (upd H5 D (.dT (putK kvs ks z))) else Nx H3)
theorem dcT_run {pins : List (Addr × Obj)} {s : Shared} {σ : L2.St} {H : Hp} {Q : VK} {kx vx tg iter : Expr} {ifs : List Expr} {scope : Scope} {own : List (Str × Nat)} {pos pos' : Pos} {wi : TI} {g : TG} {tt : TT} {tk tv : TE} {use : Option (Value → Sem Unit)} {Qf : Value → Shared → Prop} (calm : X.calm = true) (ndN : X.N.Nodup) (hu : X.A.units + 1 < cLine) (J0 : Inv X pins σ H s)
    (it_ : PI X tg iter wi) (bk : BlkOk X.N X.env.scope scope own) (tgB : ∀ (s : Shared) (H : Hp) (C : Addr) (cl : List (Str × Addr)) (fp : List Addr), PG (X.blk s H scope (compEnvC scope cl C X.env) fp) tg g)
    (ttB : ∀ (s : Shared) (H : Hp) (C : Addr) (cl : List (Str × Addr)) (fp : List Addr), PTs (X.blk s H scope (compEnvC scope cl C X.env) fp) ifs tt) (tkB : ∀ (s : Shared) (H : Hp) (C : Addr) (cl : List (Str × Addr)) (fp : List Addr), PE (X.blk s H scope (compEnvC scope cl C X.env) fp) kx tk)
    (tvB : ∀ (s : Shared) (H : Hp) (C : Addr) (cl : List (Str × Addr)) (fp : List Addr), PE (X.blk s H scope (compEnvC scope cl C X.env) fp) vx tv) (fold0 : ∀ x, foldedSetIterable iter X.env x = pure x) (want : tDcT wi g tt tk tv (own.map (·.2)) σ H Q)
    (out : ∀ D C s' m H', Inv X pins σ H' s' → Q (.ref D) H' → s'.heap.Ns C m → FpOk X pins H' C → compPost (model X.prog X.w) X.A X.xe use Qf (.ref D) C (.ok .next) s') :
    wpAny (model X.prog X.w) X.A (comprehension (.DictComp kx vx [⟨tg, iter, ifs, 0⟩] scope pos) scope X.env pos' newDict false (eval iter X.env) use) Qf X.xe s := by
  have caught : ∀ y ∈ scope.names, y.2 = .free → ∃ c, X.env.cells.lookup y.1 = some c := by
    intro y hy e
    exact (bk.free y hy e).elim (fun z => J0.ok.has _ (.inl z)) fun z => J0.ok.has _ (.inr z)
  refine wpAny_comprehension_free (use := use) rfl fold0 (closure_ok caught) bk.kind (fun y hy e => by rw [bk.uniq y hy, e]) (thn (it_.run pins s σ H _ J0 want) fun _ s1 w1 => thn w1 fun _ s2 w2 => ?_)
  obtain ⟨I, fp, tn, Jt, H2, rfl, J2, TT, at0, fresh0, want2⟩ := w2
  refine wpAny_newObj_type (newEnv_comp ?_)
  generalize eD : s2.heap.objs.size = D
  have noD : H2 D = none := J2.hok.fresh (Nat.le_of_eq eD)
  obtain ⟨W, ⟨m0, begin_⟩, turn⟩ := want2 D noD
  generalize e3 : ({ s2 with heap := s2.heap.push { cls := .type "dict", data := .dict #[] } } : Shared) = s3
  have J3 : Inv X pins σ (upd H2 D (.dT [])) s3 := by
    rw [← e3]
    refine J2.laid (t' := s2.toks) (fun b o e => Heap.get?_push_of_some _ e) (Nat.le_of_eq eD) (eD ▸ dt_empty s2.heap J2.big)
  have heap3 : s3.heap = s2.heap.push { cls := .type "dict", data := .dict #[] } := by rw [← e3]
  have fresh3 : ∀ b ∈ fp, FpOk X pins (upd H2 D (.dT [])) b ∧ b < s3.heap.objs.size := by
    intro b hb
    obtain ⟨o, eo, _⟩ := TT.obj _ _ at0 b hb
    have lt := Heap.lt_size eo
    exact ⟨⟨by rw [upd_ne (by rw [← eD]; exact Nat.ne_of_lt lt)]; exact (fresh0 b hb).1, (fresh0 b hb).2⟩, by rw [heap3, Heap.size_push]; exact Nat.lt_succ_of_lt lt⟩
  have at3 : tn 0 s3.heap := TT.keep _ _ _ at0 fun b _ o e => by rw [heap3]; exact Heap.get?_push_of_some _ e
  have J4 := block_start J3 bk ndN fresh3
  have Pg := tgB s3 (upd H2 D (.dT [])) s3.heap.objs.size (cellsFrom (s3.heap.objs.size + 1) scope.names (cloFrom X.env.cells scope.names [])) fp
  have Pt := ttB s3 (upd H2 D (.dT [])) s3.heap.objs.size (cellsFrom (s3.heap.objs.size + 1) scope.names (cloFrom X.env.cells scope.names [])) fp
  have Pk := tkB s3 (upd H2 D (.dT [])) s3.heap.objs.size (cellsFrom (s3.heap.objs.size + 1) scope.names (cloFrom X.env.cells scope.names [])) fp
  have Pv := tvB s3 (upd H2 D (.dT [])) s3.heap.objs.size (cellsFrom (s3.heap.objs.size + 1) scope.names (cloFrom X.env.cells scope.names [])) fp
  have bare3 : ∀ b ∈ fp, (upd H2 D (.dT [])) b = none := fun b hb => (fresh3 b hb).1.1
  show codeAny _ _ (.compStart (.DictComp kx vx [⟨tg, iter, ifs, 0⟩] scope pos) 0 (.ref I) (.ref D) (compEnvC scope (cellsFrom (s3.heap.objs.size + 1) scope.names (cloFrom X.env.cells scope.names [])) s3.heap.objs.size X.env))
    (compPost (model X.prog X.w) X.A X.xe use Qf (.ref D) s3.heap.objs.size) { s3 with heap := pushCells (s3.heap.push { cls := .type "dict", data := .dict #[] }) scope.names }
  generalize eE : compEnvC scope (cellsFrom (s3.heap.objs.size + 1) scope.names (cloFrom X.env.cells scope.names [])) s3.heap.objs.size X.env = cE at J4 Pg Pt Pk Pv ⊢
  have locE : cE.locals = s3.heap.objs.size := by subst eE; rfl
  generalize eH : upd H2 D (.dT []) = H3 at J3 J4 Pg Pt Pk Pv begin_ bare3 fresh3
  generalize e4 : ({ s3 with heap := pushCells (s3.heap.push { cls := .type "dict", data := .dict #[] }) scope.names } : Shared) = s4 at J4 ⊢
  have at4 : tn 0 s4.heap := TT.keep _ _ _ at3 fun b _ o e => by rw [← e4]; exact pushCells_keeps _ _ _ _ (Heap.get?_push_of_some _ e)
  have still : ∀ {σ' : L2.St} {H' : Hp} {s' : Shared}, Inv (X.blk s3 H3 scope cE fp) [] σ' H' s' → (∀ b ∈ fp, H' b = none) → ∀ b ∈ fp, FpOk (X.blk s3 H3 scope cE fp) [] H' b := by
    intro σ' H' s' K' no b hb
    exact ⟨no b hb, (K'.ok.exf b hb).1, K'.ok.exfs b hb, .inl hb, fun x c e => (K'.ok.exf b hb).2 x c e, fun p hp => absurd (show p ∈ ([] : List (Addr × Obj)) ++ [] from hp) (by simp)⟩
  have walk : codeAny (model X.prog X.w) X.A (.compLoop (.DictComp kx vx [⟨tg, iter, ifs, 0⟩] scope pos) 0 (.ref I) (.ref D) cE) (compPost (model X.prog X.w) X.A X.xe use Qf (.ref D) s3.heap.objs.size) s4 := by
    refine compLoop_anyD (fun n t => ∃ i H', Inv (X.blk s3 H3 scope cE fp) [] (wipe σ (own.map (·.2))) H' t ∧ tn i t.heap ∧ (∀ b ∈ fp, H' b = none) ∧ W i n H') ?_ m0 ⟨0, H3, J4, at4, bare3, begin_⟩
    rintro n s5 ⟨i, H5, J5, at5, no5, w5⟩
    rcases turn i n H5 w5 with ⟨halt, fin⟩ | ⟨more, Nx, less, step⟩
    · refine thnF (TT.done (X.blk s3 H3 scope cE fp) rfl rfl rfl calm i [] s5 _ H5 (fun _ _ => False) J5 (still J5 no5) at5 halt) fun r s6 ⟨er, J6⟩ => ?_
      subst er
      have back : Inv X pins σ H5 s6 := J3.call' (ch := fp) J6.os J6.base J6.hok J6.bare fun b hb => let z := (fresh3 b hb).1; ⟨z.2.2.2.1, z.2.1, z.2.2.2.2.1, z.2.2.2.2.2⟩
      have noC : H5 s3.heap.objs.size = none := locE ▸ (J6.free : H5 cE.locals = none)
      obtain ⟨m, ns, _⟩ := J6.loc
      exact out D s3.heap.objs.size s6 m H5 back fin (locE ▸ (ns : s6.heap.Ns cE.locals m)) (J3.fpOk (Nat.le_refl _) noC)
    · refine thnF (TT.item (X.blk s3 H3 scope cE fp) rfl rfl rfl calm i [] s5 _ H5 (fun _ _ => False) J5 (still J5 no5) at5 more) fun r s6 ⟨u, er, w6⟩ => ?_
      subst er
      refine thnF w6 fun _ s7 ⟨x, H7, J7, ru, y7, at7, no7⟩ => ?_
      refine thnF (Pg.run _ s7 _ H7 x u _ (J7.pinned (still J7 no7) (TT.obj _ _ at7)) ru (step x H7 y7)) fun _ s8 ⟨σ8, H8, J8, ew, w8⟩ => ?_
      refine thnF (Pt.run _ s8 σ8 H8 _ J8 w8) fun b s9 ⟨H9, J9, w9⟩ => ?_
      have again_ : ∀ {t : Shared} {H' : Hp}, Inv (X.blk s3 H3 scope cE fp) ([] ++ pinsAt fp s7.heap) σ8 H' t → Nx H' → ∃ m, m < n ∧ ∃ i H', Inv (X.blk s3 H3 scope cE fp) [] (wipe σ (own.map (·.2))) H' t ∧ tn i t.heap ∧ (∀ b ∈ fp, H' b = none) ∧ W i m H' := by
        intro t H' K' nx
        obtain ⟨m', lt, w'⟩ := less H' nx
        have held : ∀ b ∈ fp, ∀ o, s7.heap.get? b = some o → t.heap.get? b = some o ∧ H' b = none := by
          intro b hb o e
          have z := K'.pin (b, o) (List.mem_append_right _ (List.mem_append_right _ (mem_pinsAt hb e)))
          exact ⟨z.1, z.2.1⟩
        refine ⟨m', lt, i + 1, H', (K'.unpinned (pins := [])).weak (by rw [← ew, wipe_length]) (fun j v e => ?_), TT.keep _ _ _ at7 fun b hb o e => (held b hb o e).1, fun b hb => ?_, w'⟩
        · rw [← ew] at e; exact (wipe_some e).1
        · exact let ⟨o, e, _⟩ := TT.obj _ _ at7 b hb; (held b hb o e).2
      cases b with
      | false => simp only [Bool.false_eq_true, if_false] at w9 ⊢; exact again_ J9 w9
      | true =>
        simp only [if_true] at w9 ⊢
        refine thnF (Pk.run _ s9 σ8 H9 _ J9 w9) fun _ s10 ⟨yk, H10, J10, r10, w10⟩ => ?_
        refine thnF (Pv.run _ s10 σ8 H10 _ J10 w10) fun _ s11 ⟨yv, H11, J11, r11, kvs, ks, a, ek, kb, dD, few, nx⟩ => ?_
        subst ek
        cases r10
        exact putT_here (X := X.blk s3 H3 scope cE fp) hu J11 dD few kb r11 fun s12 J12 => again_ J12 nx
  exact codeAny_compStart_dict walk (TT.self X.A 0 _ _ _ at4 walk)
theorem pe_dcT {kx vx tg iter : Expr} {ifs : List Expr} {scope : Scope} {own : List (Str × Nat)} {pos : Pos} {wi : TI} {g : TG} {tt : TT} {tk tv : TE} (calm : X.calm = true) (ndN : X.N.Nodup) (hu : X.A.units + 1 < cLine) (it_ : PI X tg iter wi) (bk : BlkOk X.N X.env.scope scope own)
    (tgB : ∀ (s : Shared) (H : Hp) (C : Addr) (cl : List (Str × Addr)) (fp : List Addr), PG (X.blk s H scope (compEnvC scope cl C X.env) fp) tg g) (ttB : ∀ (s : Shared) (H : Hp) (C : Addr) (cl : List (Str × Addr)) (fp : List Addr), PTs (X.blk s H scope (compEnvC scope cl C X.env) fp) ifs tt)
    (tkB : ∀ (s : Shared) (H : Hp) (C : Addr) (cl : List (Str × Addr)) (fp : List Addr), PE (X.blk s H scope (compEnvC scope cl C X.env) fp) kx tk) (tvB : ∀ (s : Shared) (H : Hp) (C : Addr) (cl : List (Str × Addr)) (fp : List Addr), PE (X.blk s H scope (compEnvC scope cl C X.env) fp) vx tv)
    (fold0 : ∀ x, foldedSetIterable iter X.env x = pure x) : PE X (.DictComp kx vx [⟨tg, iter, ifs, 0⟩] scope pos) (tDcT wi g tt tk tv (own.map (·.2))) := by
  refine ⟨fun pins s σ H Q J want => ?_⟩
  rw [arm_eval_DictComp]
  refine dcT_run calm ndN hu J it_ bk tgB ttB tkB tvB fold0 want fun D C t m H' J' q ns fk => ⟨m, ns, fun h2 sb => ?_⟩
  exact ⟨.ref D, H', J'.turned (t' := t.toks) (fun b o hb e => (sb.2 b hb).trans e) fk.1 fk.2.1 fk.2.2.2.1 fk.2.2.2.2.1 fk.2.2.2.2.2, rfl, q⟩
end
/-! dict(xs) of a list of pairs whose keys are tuples -/
/-- a pair of the list: its address, the key's, the key, the value -/
abbrev PT4 := Addr × Addr × List Key × V
def okP (K : PySem.W.Frag) (H : Hp) (t : PT4) : Prop := SqT K H t.1 [.ref t.2.1, t.2.2.2] ∧ H t.2.1 = some (.tup (t.2.2.1.map kV))
def mergeT (kvs : List (List Key × V)) (ts : List PT4) : List (List Key × V) := ts.foldl (fun acc t => putK acc t.2.2.1 t.2.2.2) kvs
theorem mergeT_len : ∀ (ts : List PT4) (kvs : List (List Key × V)), (mergeT kvs ts).length ≤ kvs.length + ts.length
  | [], _ => Nat.le_refl _
  | t :: ts, kvs => by
    have h1 := mergeT_len ts (putK kvs t.2.2.1 t.2.2.2)
    have h2 := length_putK kvs t.2.2.1 t.2.2.2
    rw [List.length_cons]
    show (mergeT (putK kvs t.2.2.1 t.2.2.2) ts).length ≤ _
    omega
abbrev PT5 := Addr × Addr × List Key × V × Value
def fst4 (r : PT5) : PT4 := (r.1, r.2.1, r.2.2.1, r.2.2.2.1)
theorem rows5 {X : Cx} {pins : List (Addr × Obj)} {σ : L2.St} {H : Hp} {s : Shared} (J : Inv X pins σ H s) : ∀ ts : List PT4, (∀ t ∈ ts, okP X.K H t) → ∃ rs : List PT5, rs.map fst4 = ts ∧ ∀ r ∈ rs, RelV r.2.2.2.1 r.2.2.2.2 ∧ IsTup s.heap r.1 #[.ref r.2.1, r.2.2.2.2] ∧ H r.2.1 = some (.tup (r.2.2.1.map kV))
  | [], _ => ⟨[], rfl, fun _ h => nomatch h⟩
  | t :: ts, h => by
    obtain ⟨rs, e, k⟩ := rows5 J ts fun u hu => h u (List.mem_cons_of_mem _ hu)
    obtain ⟨h1, h2⟩ := h t (List.mem_cons_self ..)
    obtain ⟨its, rv, it, _⟩ := J.tuple h1
    obtain ⟨u, y, rfl, ru, ry⟩ := vals2 rv
    cases ru
    refine ⟨(t.1, t.2.1, t.2.2.1, t.2.2.2, y) :: rs, by rw [List.map_cons, e]; rfl, fun r hr => ?_⟩
    rcases List.mem_cons.mp hr with rfl | hr
    · exact ⟨ry, it, h2⟩
    · exact k r hr
theorem refs5 : ∀ {rs : List PT5} {us : List Value}, Vals ((rs.map fst4).map fun t => V.ref t.1) us → us = rs.map fun r => Value.ref r.1
  | [], us, r => by cases r; rfl
  | r :: rs, us, h => by
    cases h with
    | cons h t =>
      cases h
      rw [List.map_cons, ← refs5 t]
      rfl
def h5 (r : PT5) : List Key × Addr × Value := (r.2.2.1, r.2.1, r.2.2.2.2)
theorem mergeT_kt {H : Hp} : ∀ (rs : List PT5) {kvs : List (List Key × V)} {xs : List (List Key × Addr × Value)}, (∀ r ∈ rs, RelV r.2.2.2.1 r.2.2.2.2 ∧ H r.2.1 = some (.tup (r.2.2.1.map kV))) → KT H kvs xs → KT H (mergeT kvs (rs.map fst4)) (storedAllH xs (rs.map h5))
  | [], _, _, _, k => k
  | r :: rs, kvs, xs, h, k => by
    obtain ⟨h1, h2⟩ := h r (List.mem_cons_self ..)
    exact mergeT_kt rs (fun q hq => h q (List.mem_cons_of_mem _ hq)) (k.put r.2.2.1 h2 h1)
def rDictT (K : PySem.W.Frag) : List V → Hp → VK → Prop := fun vs H Q => ∃ (a : Addr) (ts : List PT4), vs = [.ref a] ∧ SqL K H a (ts.map fun t => V.ref t.1) ∧ (∀ t ∈ ts, okP K H t) ∧ ∀ p, H p = none → Q (.ref p) (upd H p (.dT (mergeT [] ts)))
theorem cr_dictT {X : Cx} (calm : X.calm = true) (hu : X.A.units + 64 < cLine) : CallR X (.type "dict") (rDictT X.K) := by
  rintro pins s σ H vs us Q J rv ⟨a, ts, rfl, hl, hp, k⟩
  obtain ⟨u, rfl, ru⟩ := vals1 rv
  cases ru
  obtain ⟨its, rit, pl, hz⟩ := J.list hl
  obtain ⟨rs, rfl, hr⟩ := rows5 J ts hp
  obtain rfl := refs5 rit
  have len : rs.length ≤ sizeLine := by rw [List.length_map, List.length_map] at hz; exact hz
  have PA := PairArg.list (prog := X.prog) (w := X.w) a (rs.map fun r => Value.ref r.1).toArray (fun j => ((rs[j]?).map (·.1)).getD 0) (rs.map fun r => (Value.ref r.2.1, r.2.2.2.2))
  obtain ⟨o, n, ho, hc, hd, hdat⟩ := pl
  have nm : (s.heap.objs.size == sysModules) = false := beq_eq_false_iff_ne.mpr (Nat.ne_of_gt J.big)
  refine call_dict_pairsH (knd := tupleKind (mixKind X.prog X.w)) (ps := rs.map h5) PA (J.ok.hd calm) (show X.A.units + 1 + 1 < cLine by omega) ⟨⟨o, n, ho, hc, hd, hdat⟩, by simp, fun j key v hj => ?_⟩ ⟨by simp, fun j key v hj => ?_⟩ (fun h2 keep x hx => ?_) (by rw [List.length_map]; exact len) fun h2 tk tb keep => ?_
  · rw [List.getElem?_map] at hj
    obtain ⟨r, er, e2⟩ := Option.map_eq_some_iff.mp hj
    have e3 := Prod.mk.inj e2
    obtain ⟨_, it, _⟩ := hr r (List.mem_of_getElem? er)
    refine ⟨by simp [er], .inl ?_⟩
    show Heap.IsTuple s.heap (((rs[j]?).map (·.1)).getD 0) #[key, v]
    rw [er, ← e3.1, ← e3.2]
    exact it
  · have hj : (rs.map fun r => (Value.ref r.2.1, r.2.2.2.2))[j]? = some (key, v) := hj
    rw [List.getElem?_map] at hj
    obtain ⟨r, er, e2⟩ := Option.map_eq_some_iff.mp hj
    have e3 := Prod.mk.inj e2
    exact ⟨r.2.2.1, r.2.1, by rw [List.getElem?_map, er, ← e3.2]; rfl, e3.1.symm⟩
  · obtain ⟨r, hm, rfl⟩ := List.mem_map.mp hx
    obtain ⟨_, _, kb⟩ := hr r hm
    obtain ⟨ob, iv, nn, z1, z2, z3, z4⟩ := (key_of J.hok kb : (tupleKind (mixKind X.prog X.w)).is s.heap r.2.2.1 r.2.1)
    exact ⟨ob, iv, nn, keep _ _ (Nat.ne_of_lt (Heap.lt_size z1)) (fun h => nomatch h) z1, z2, z3, z4⟩
  · have kt : KT H (mergeT [] (rs.map fst4)) (storedAllH [] (rs.map h5)) := mergeT_kt rs (fun r hm => ⟨(hr r hm).1, (hr r hm).2.2⟩) .nil
    obtain ⟨ob, es, ep, q1, q2, q3, q4, _, q5⟩ := tb
    have free := J.hok.fresh (Nat.le_refl s.heap.objs.size)
    have zl : (mergeT [] (rs.map fst4)).length ≤ sizeLine := by
      refine Nat.le_trans (mergeT_len _ _) ?_
      rw [List.length_nil, Nat.zero_add, List.length_map]; exact len
    refine ⟨.ref s.heap.objs.size, upd H s.heap.objs.size (.dT (mergeT [] (rs.map fst4))), J.laid (t' := tk) (fun b o e => keep b o (fun h => nomatch h) e) (Nat.le_refl _) ⟨zl, nm, _, kt.keeps fun c ys ec => ?_, ob, es, ep, q1, q2, q3, q4, q5⟩, rfl, k _ free⟩
    rw [upd_ne (ne_of_none ec free)]
    exact ec
section
variable {c : Cd} {σ : L2.St} {H : Hp} {Q : VK} {pos : Pos}
theorem rc_dictT {a : Addr} {ts : List PT4} (hl : SqL c.K H a (ts.map fun t => V.ref t.1)) (hp : ∀ t ∈ ts, okP c.K H t) (q : ∀ p, H p = none → Q (.ref p) (upd H p (.dT (mergeT [] ts)))) : RC c (.type "dict") [.ref a] H Q :=
  rc_of (r := rDictT c.K) (fun X h => by rw [← h.K]; exact cr_dictT h.calm h.room.units) ⟨a, ts, rfl, hl, hp, q⟩
theorem e_dcT {kx vx tg iter : Expr} {scope : Scope} {own : List (Str × Nat)} (ok : Blk c scope own)
    (q : tDcT (RI c tg iter) (RG (blkCd c scope) tg) (RTs (blkCd c scope) []) (RE (blkCd c scope) kx) (RE (blkCd c scope) vx) (own.map (·.2)) σ H Q) (hs : ∀ env x, foldedSetIterable iter env x = pure x := by intro _ _; rfl) : RE c (.DictComp kx vx [⟨tg, iter, [], 0⟩] scope pos) σ H Q :=
  re_of (fun X h => pe_dcT h.calm (by rw [h.N]; exact h.nd) (by have := h.room.units; omega) (pi_ri h) (by rw [h.N, h.sc]; exact ok.ok) (fun s H C cl fp => pg_rg (is_blk h s H C cl fp)) (fun s H C cl fp => pts_rts (is_blk h s H C cl fp)) (fun s H C cl fp => pe_re (is_blk h s H C cl fp)) (fun s H C cl fp => pe_re (is_blk h s H C cl fp)) (hs _)) q
theorem s_setCellD {D : Ends} {pos2 pos' : Pos} {i : Nat} {x : Str} {kx vx : Expr} {gs : List Comprehension} {scope : Scope} (hA : At c.N i x) (q : RE c (.DictComp kx vx gs scope pos2) σ H fun v H1 => D.nx (σ.set i (some v)) H1) (hx : c.sc.names.lookup x = some .cell := by rfl) (ht : c.top = true := by rfl) :
    RS c (.Assign [.Name x pos'] (.DictComp kx vx gs scope pos2) pos) D σ H := by
  refine rs_of (t := tAsg (RE c (.DictComp kx vx gs scope pos2)) (gName i)) (fun X h => ?_) q
  refine ps_set (by rw [h.N]; exact h.nd) (by rw [h.N]; exact hA.get) (.inr (by rw [h.sc]; exact hx)) (pe_re h) ?_ (.inl (h.top ht _))
  have ky : X.env.kindOf x = some .cell := by
    show X.env.scope.names.lookup x = some .cell
    rw [h.sc]
    exact hx
  unfold swapsWith
  simp only [ky]
  have no : ((some NameKind.cell : Option NameKind) == some NameKind.local) = false := by decide
  rw [no]
  simp
end
end G

namespace G
open PySem PySem.Spec PyProof.Rows L2
/-! ### enumerate over a tuple -/
set_option maxHeartbeats 1000000 in
theorem enum_newT (tp : Addr) (items : Array Value) (n : Nat) (dct : Option Addr) (sl : Array (Option Value)) :
    Meets (Builtin.«enumerate.__new__» ⟨[.type "enumerate", .ref tp], []⟩) (fun _ R st => st.heap.get? tp = some ⟨.type "tuple", dct, .seq items n, sl⟩ ∧
      R (.ok (.ret (.ref (st.heap.push { cls := .type "tuple_iterator", data := .fields #[.ref tp, .int 0 0] }).objs.size)))
        { st with heap := (st.heap.push { cls := .type "tuple_iterator", data := .fields #[.ref tp, .int 0 0] }).push { cls := .type "enumerate", data := .fields #[.none, .bool false, .ref st.heap.objs.size, rawInt 0, .none, .none] } }) :=
  .of_wp fun prog w A R st h => by
    obtain ⟨hp, g, d, tk, os⟩ := st
    obtain ⟨here, h⟩ := h
    have hsub := sub_enumerate
    have tup : Heap.IsTuple (Shared.heap ⟨hp, g, d, tk, os⟩) tp items := ⟨_, here, rfl, n, rfl⟩
    wp_walk using wpAny_loadPart' here
    refine wpAny_stack_any fun st => wpAny_pure ?_
    split
    · rename_i c _ _ _ _ _
      cases (c == Value.type "enumerate")
      · wp_walk using wpAny_loadPart' here, wpAny_pyIter_tuple tup
        exact ⟨_, rfl, h⟩
      · wp_walk using wpAny_loadPart' here, wpAny_pyIter_tuple tup
        exact ⟨_, rfl, h⟩
    · wp_walk using wpAny_loadPart' here, wpAny_pyIter_tuple tup
      exact ⟨_, rfl, h⟩
section
variable {prog : Program} {w : World} {A : Around} {E : Value → Shared → Prop} {s : Shared}
theorem call_enumT {tp : Addr} {items : Array Value} {Q : Value → Shared → Prop} (ht : s.heap.IsTuple tp items)
    (go : ∀ h', IsEnum h' (s.heap.objs.size + 1) s.heap.objs.size 0 .none → h'.IsTupleIter s.heap.objs.size tp 0 →
      (∀ b o, s.heap.get? b = some o → h'.get? b = some o) → Q (.ref (s.heap.objs.size + 1)) { s with heap := h' }) :
    wpAny (model prog w) A (call (.type "enumerate") [.ref tp]) Q E s := by
  obtain ⟨⟨c, dct, dt, sl⟩, here, hc, n, hd⟩ := ht
  obtain rfl : c = .type "tuple" := hc
  obtain rfl : dt = .seq items n := hd
  refine callType_new F.called_enumerate (by decide) (F.typeCall_enumerate_1 _) (F.newCall_enumerate_1 _) (fun obj => F.args_object_init_2 obj _) F.entry_enumerate_new
    (enum_newT tp items n dct sl) ⟨here, ?_⟩
  have z1 : (s.heap.push { cls := .type "tuple_iterator", data := .fields #[.ref tp, .int 0 0] }).objs.size = s.heap.objs.size + 1 := Heap.size_push ..
  have en := Heap.get?_push_size (s.heap.push { cls := .type "tuple_iterator", data := .fields #[.ref tp, .int 0 0] })
    (o := { cls := .type "enumerate", data := .fields #[.none, .bool false, .ref s.heap.objs.size, rawInt 0, .none, .none] }) rfl
  show _ ∧ _
  rw [z1] at en ⊢
  exact ⟨⟨_, en, rfl⟩, go _ en ⟨_, Heap.get?_push_of_some _ (Heap.get?_push_size _ rfl), rfl, rfl⟩ fun b o x => Heap.get?_push_of_some _ (Heap.get?_push_of_some _ x)⟩
end
theorem tup_ne_iter {h : Heap} {b it : Addr} {i : Nat} {its : Array Value} (p : h.IsTuple b its) (q : h.IsTupleIter it b i) : b ≠ it := by
  rintro rfl
  obtain ⟨o1, e1, c1, _⟩ := p
  obtain ⟨o2, e2, c2, _⟩ := q
  rw [e1] at e2
  cases e2
  rw [c1] at c2
  exact absurd (Value.type.inj c2) (by decide)
/-- the items of the tuple at b, each in a new pair behind its place -/
def Itet (K : PySem.W.Frag) (b : Addr) (n : Nat) : It := ⟨fun i H => ∃ ys, SqT K H b ys ∧ ys.length = n ∧ i < n,
  fun i H v H' => ∃ (T : Addr) (y : V), v = .ref T ∧ H T = none ∧ H' = upd H T (.tup [.int (i : Nat), y]) ∧ ∀ ys, SqT K H b ys → ys[i]? = some y, fun i H => ∃ ys, SqT K H b ys ∧ ys.length = n ∧ n ≤ i⟩
section
variable {P : Program} {w : World} {K : PySem.W.Frag}
theorem turn_enumT {elts : List Expr} {kk : Nat} {tpos : Pos} (b en si : Addr) (n : Nat) (apart : en ≠ si) :
    Turn P w K (.Tuple elts kk tpos) (Itet K b n) [en, si] en (fun i h => (∃ old, IsEnum h en si ((i : Nat) : Int) old) ∧ h.IsTupleIter si b i ∧ i ≤ n) := by
  have both : ∀ {b : Addr}, b ∈ [en, si] → b = en ∨ b = si := fun {b} h => by simpa using h
  refine { mem := by simp, obj := ?_, keep := ?_, item := ?_, done := ?_, self := ?_ }
  · rintro i h ⟨⟨old, he⟩, ⟨o, ho, _, hd⟩, _⟩ b hb
    rcases both hb with rfl | rfl
    · exact ⟨_, he, fun v q => nomatch q⟩
    · exact ⟨o, ho, fun v q => by rw [hd] at q; exact nomatch q⟩
  · rintro i h h' ⟨⟨old, he⟩, hs, le⟩ kept
    exact ⟨⟨old, kept en (by simp) _ he⟩, hs.at fun o q => kept si (by simp) o q, le⟩
  · rintro X rfl rfl rfl calm i pins st σ H E I far ⟨⟨old, he⟩, hs, _⟩ ⟨ys, hq, hn, lt⟩
    obtain ⟨its, rv, pt, _⟩ := I.tuple hq
    obtain ⟨y, hy⟩ : ∃ y, ys[i]? = some y := ⟨_, List.getElem?_eq_getElem (by omega)⟩
    obtain ⟨u, hu, ru⟩ := rv.get hy
    have ne := tup_ne_iter pt hs
    have D := Draws.tuple (prog := X.prog) (w := X.w) (A := X.A.in1) (I.ok.hd calm) si b ne its.toArray
    have len := rv.length
    have lt1 := Heap.lt_size he
    have lt2 : si < st.heap.objs.size := by obtain ⟨_, q, _⟩ := hs; exact Heap.lt_size q
    have ptT : st.heap.IsTuple b its.toArray := pt
    have ben : b ≠ en := by
      rintro rfl
      obtain ⟨o1, e1, c1, _⟩ := pt
      rw [he] at e1
      cases e1
      exact absurd (Value.type.inj c1) (by decide)
    refine wpAny_pyNext_enum_itemD D he ⟨hs, ptT⟩ (by rw [List.size_toArray]; omega) apart (by simp [apart, ben.symm]) fun x h1 tk item out hs1 pair _ stay => ?_
    have ex : x = u := by
      have : its.toArray[i]? = some u := by simpa using hu
      rw [this] at item
      exact (Option.some.inj item).symm
    subst ex
    refine ⟨_, rfl, wpAny_letOwnedTupleGo_enum (s := { st with heap := h1, toks := tk + 1 }) out fun h2 he2 but => ?_⟩
    have pair2 : h2.get? st.heap.objs.size = some { cls := .type "tuple", data := .seq #[.int i tk, x] } := (but.2 _ (Nat.ne_of_gt lt1)).trans pair
    have made : ObjOk X.prog X.w (upd H st.heap.objs.size (.tup [.int (i : Nat), y])) h2 st.heap.objs.size (.tup [.int (i : Nat), y]) :=
      ⟨by show 2 ≤ sizeLine; decide, _, .cons ⟨_, rfl⟩ (.cons ru .nil), ⟨_, pair2, rfl, _, rfl⟩⟩
    have J : Inv X pins σ (upd H st.heap.objs.size (.tup [.int (i : Nat), y])) { st with heap := h2, toks := tk + 1 } := by
      refine I.turnedNew (ch := [en, si]) (fun b o nb q => ?_) far (Nat.le_refl _) made
      have n1 : b ≠ en := fun e => nb (by simp [e])
      have n2 : b ≠ si := fun e => nb (by simp [e])
      exact (but.2 b n1).trans (stay b o n1 (by simp [n2]) q)
    refine ⟨.ref st.heap.objs.size, _, J, rfl, ⟨_, y, rfl, I.hok.fresh (Nat.le_refl _), rfl, fun zs hz => by rw [I.tuple_inj hz hq]; exact hy⟩, ⟨⟨x, ?_⟩, hs1.1.at fun o q => (but.2 si apart.symm).trans q, by omega⟩, fun b hb => ?_⟩
    · have e1 : ((i + 1 : Nat) : Int) = (i : Int) + 1 := by omega
      rw [e1]
      exact he2
    · have lb : b < st.heap.objs.size := by
        rcases both hb with rfl | rfl
        · exact lt1
        · exact lt2
      rw [upd_ne (Nat.ne_of_lt lb)]
      exact (far b hb).1
  · rintro X rfl rfl rfl calm i pins st σ H E I far ⟨⟨old, he⟩, hs, le⟩ ⟨ys, hq, hn, ge⟩
    obtain ⟨its, rv, pt, _⟩ := I.tuple hq
    have ne := tup_ne_iter pt hs
    have D := Draws.tuple (prog := X.prog) (w := X.w) (A := X.A.in1) (I.ok.hd calm) si b ne its.toArray
    have len := rv.length
    obtain ⟨f0, f1, _, f3, f4, f5⟩ := far si (by simp)
    have ei : i = its.toArray.size := by rw [List.size_toArray]; omega
    subst ei
    exact wpAny_pyNext_enum_endD D he ⟨hs, pt⟩ fun h' but => ⟨rfl, I.turned (t' := st.toks) (fun b o nb q => but b o nb q) f0 f1 f3 f4 f5⟩
  · rintro A i st Q E ⟨⟨_, he⟩, _, _⟩ q
    exact wpAny_pyIter_enum he q
theorem pi_enumT {X : Cx} {e : Expr} {ta : TA} {p pos tpos : Pos} {elts : List Expr} {kk : Nat} (gl : Gl X "enumerate") (none_ : X.mg "enumerate" = none) (ha : PA X [e] ta) (hs : starEach [e] X.env = [(false, eval e X.env)]) :
    PI X (.Tuple elts kk tpos) (.Call (.Name "enumerate" p) [e] [] pos) (fun σ H R => ta σ H fun vs H1 => ∃ b ys, vs = [.ref b] ∧ SqT X.K H1 b ys ∧ R (Itet X.K b ys.length) H1) := by
  constructor
  intro pins st σ H R I want
  have args := ha.run pos pins st σ H _ I want
  refine Call_ (ld_blt I gl none_ boot_enumerate ?_)
  refine PyProof.Rows.callWith_type1 (thn args fun us s1 got => ?_) hs rfl
  obtain ⟨vs, H1, I1, rv, b, ys, rfl, hq, q⟩ := got
  match us, rv with
  | [_], .cons rfl .nil =>
    obtain ⟨its, rv2, pt, _⟩ := I1.tuple hq
    refine call_enumT (show s1.heap.IsTuple b its.toArray from pt) fun h' he hsi keep => wpAny_pyIter_enum he ?_
    have I2 : Inv X pins σ H1 { s1 with heap := h' } := I1.kept (t' := s1.toks) keep
    have T := turn_enumT (P := X.prog) (w := X.w) (K := X.K) (elts := elts) (kk := kk) (tpos := tpos) b (s1.heap.objs.size + 1) s1.heap.objs.size ys.length (Nat.succ_ne_self _)
    refine ⟨_, _, _, _, H1, rfl, I2, T, ⟨⟨.none, he⟩, hsi, Nat.zero_le _⟩, fun b hb => ?_, q⟩
    have old : s1.heap.objs.size ≤ b := by
      rcases (by simpa using hb : b = s1.heap.objs.size + 1 ∨ b = s1.heap.objs.size) with rfl | rfl
      · exact Nat.le_succ _
      · exact Nat.le_refl _
    exact I1.fpOk old (I1.hok.fresh old)
end
/-! ### zip of a list and a tuple -/
/-- the items of the list at a beside those of the tuple at b, in new pairs -/
def Itlt (K : PySem.W.Frag) (a b : Addr) (n : Nat) : It :=
  ⟨fun i H => ∃ xs ys, SqL K H a xs ∧ xs.length = n ∧ SqT K H b ys ∧ ys.length = n ∧ i < n,
    fun i H v H' => ∃ (T : Addr) (x y : V), v = .ref T ∧ H T = none ∧ H' = upd H T (.tup [x, y]) ∧ (∀ xs, SqL K H a xs → xs[i]? = some x) ∧ ∀ ys, SqT K H b ys → ys[i]? = some y,
    fun i H => ∃ xs ys, SqL K H a xs ∧ xs.length = n ∧ SqT K H b ys ∧ ys.length = n ∧ n ≤ i⟩
set_option maxHeartbeats 400000 in
theorem turn_zipLT {P : Program} {w : World} {K : PySem.W.Frag} {elts : List Expr} {kk : Nat} {tpos : Pos} (a b z TI TO i1 i2 : Addr) (n : Nat) (S : ZipSep2 z TI TO i1 i2 [i1, a] [i2, b]) (ha1 : a ≠ i1) :
    Turn P w K (.Tuple elts kk tpos) (Itlt K a b n) [z, TI, TO, i1, i2] z (fun i h => (IsZip h z TI TO .none ∧ IsPair h TI (.ref i1) (.ref i2) ∧ (∃ x y, IsPair h TO x y) ∧ h.IsListIter i1 a i ∧ h.IsTupleIter i2 b i) ∧ i ≤ n) where
  mem := by simp
  obj := fun i h st c hc => by
    obtain ⟨⟨hz, hTI, ⟨x, y, hTO⟩, ⟨o1, e1, _, d1⟩, ⟨o2, e2, _, d2⟩⟩, _⟩ := st
    have e' : c = z ∨ c = TI ∨ c = TO ∨ c = i1 ∨ c = i2 := by simpa using hc
    rcases e' with q | q | q | q | q
    · rw [q]; exact ⟨_, hz, fun v q => nomatch q⟩
    · rw [q]; exact ⟨_, hTI, fun v q => nomatch q⟩
    · rw [q]; exact ⟨_, hTO, fun v q => nomatch q⟩
    · rw [q]; exact ⟨o1, e1, fun v q => by rw [d1] at q; cases q⟩
    · rw [q]; exact ⟨o2, e2, fun v q => by rw [d2] at q; cases q⟩
  keep := fun i h h' st k => by
    obtain ⟨⟨hz, hTI, ⟨x, y, hTO⟩, h1, h2⟩, le⟩ := st
    exact ⟨⟨k z (by simp) _ hz, k TI (by simp) _ hTI, ⟨x, y, k TO (by simp) _ hTO⟩, h1.at fun o q => k i1 (by simp) o q, h2.at fun o q => k i2 (by simp) o q⟩, le⟩
  item := by
    intro X hP hw hK hc i pins s σ H E I hf st hg
    subst hP hw hK
    obtain ⟨⟨hz, hTI, ⟨x0, y0, hTO⟩, h1, h2⟩, le1⟩ := st
    obtain ⟨xs, ys, hqx, hm, hqy, hn, lt1⟩ := hg
    obtain ⟨its1, rv1, p1, _⟩ := I.list hqx
    obtain ⟨its2, rv2, p2, _⟩ := I.tuple hqy
    have l1 := rv1.length
    have l2 := rv2.length
    obtain ⟨x, hx⟩ : ∃ x, xs[i]? = some x := ⟨_, List.getElem?_eq_getElem (by omega)⟩
    obtain ⟨u1, hu1, ru1⟩ := rv1.get hx
    obtain ⟨y, hy⟩ : ∃ y, ys[i]? = some y := ⟨_, List.getElem?_eq_getElem (by omega)⟩
    obtain ⟨u2, hu2, ru2⟩ := rv2.get hy
    have hzl : z < s.heap.objs.size := Heap.lt_size hz
    have D1 := Draws.list (prog := X.prog) (w := X.w) (A := X.A.in1) (I.ok.hd hc) i1 a ha1 its1.toArray
    have D2 := Draws.tuple (prog := X.prog) (w := X.w) (A := X.A.in1) (I.ok.hd hc) i2 b (tup_ne_iter p2 h2) its2.toArray
    refine wpAny_pyNext_zipD2_item S D1 D2 hz hTI hTO ⟨h1, p1.isList⟩ ⟨h2, p2⟩ (by rw [List.size_toArray]; omega) (by rw [List.size_toArray]; omega) fun x1 x2 h' tk it1 it2 z' TO' h1' h2' hT hsz hk => ?_
    have ex1 : x1 = u1 := by
      have : its1.toArray[i]? = some u1 := by simpa using hu1
      rw [this] at it1
      exact (Option.some.inj it1).symm
    have ex2 : x2 = u2 := by
      have : its2.toArray[i]? = some u2 := by simpa using hu2
      rw [this] at it2
      exact (Option.some.inj it2).symm
    subst ex1
    subst ex2
    refine ⟨_, rfl, wpAny_letOwnedTupleGo_zip (s := { s with heap := h', toks := tk }) z' fun h'' z'' sb => ?_⟩
    have hT2 : h''.get? s.heap.objs.size = some { cls := .type "tuple", data := .seq #[x1, x2] } := (sb.2 _ (Nat.ne_of_gt hzl)).trans hT
    have new : ObjOk X.prog X.w (upd H s.heap.objs.size (.tup [x, y])) h'' s.heap.objs.size (.tup [x, y]) :=
      ⟨by show 2 ≤ sizeLine; decide, [x1, x2], .cons ru1 (.cons ru2 .nil), ⟨_, hT2, rfl, _, rfl⟩⟩
    have I1 : Inv X pins σ (upd H s.heap.objs.size (.tup [x, y])) { s with heap := h'', toks := tk } :=
      I.turnedNew (ch := [z, TI, TO, i1, i2]) (fun c o hb q => (sb.2 c (fun q' => hb (by simp [q']))).trans (hk c o (fun q' => hb (by simp [q'])) (fun q' => hb (by simp [q'])) (fun q' => hb (by simp [q'])) (fun q' => hb (by simp [q'])) q)) hf (Nat.le_refl _) new
    have zi1 : i1 ≠ z := fun e => S.zf1 (by simp [e])
    have zi2 : i2 ≠ z := fun e => S.zf2 (by simp [e])
    refine ⟨.ref s.heap.objs.size, _, I1, rfl, ⟨_, x, y, rfl, I.hok.fresh (Nat.le_refl _), rfl, fun l hl => by rw [I.list_inj hl hqx]; exact hx, fun l hl => by rw [I.tuple_inj hl hqy]; exact hy⟩, ⟨⟨z'', ?_, ⟨x1, x2, ?_⟩, ?_, ?_⟩, by omega⟩, fun c hcm => ?_⟩
    · exact (sb.2 _ S.TIz).trans (hk _ _ S.TIz S.TITO S.TIi1 S.TIi2 hTI)
    · exact (sb.2 _ S.TOz).trans TO'
    · exact h1'.1.at fun o q => (sb.2 _ zi1).trans q
    · exact h2'.1.at fun o q => (sb.2 _ zi2).trans q
    · have hlt : c < s.heap.objs.size := by
        have e' : c = z ∨ c = TI ∨ c = TO ∨ c = i1 ∨ c = i2 := by simpa using hcm
        rcases e' with q | q | q | q | q
        · rw [q]; exact hzl
        · rw [q]; exact Heap.lt_size hTI
        · rw [q]; exact Heap.lt_size hTO
        · rw [q]; obtain ⟨_, e1, _⟩ := h1; exact Heap.lt_size e1
        · rw [q]; obtain ⟨_, e2, _⟩ := h2; exact Heap.lt_size e2
      rw [upd_ne (Nat.ne_of_lt hlt)]
      exact (hf c hcm).1
  done := by
    intro X hP hw hK hc i pins s σ H E I hf st hg
    subst hP hw hK
    obtain ⟨⟨hz, hTI, ⟨x0, y0, hTO⟩, h1, h2⟩, le1⟩ := st
    obtain ⟨xs, ys, hqx, hm, hqy, hn, ge⟩ := hg
    obtain ⟨its1, rv1, p1, _⟩ := I.list hqx
    obtain ⟨its2, rv2, p2, _⟩ := I.tuple hqy
    have l1 := rv1.length
    have l2 := rv2.length
    have D1 := Draws.list (prog := X.prog) (w := X.w) (A := X.A.in1) (I.ok.hd hc) i1 a ha1 its1.toArray
    have D2 := Draws.tuple (prog := X.prog) (w := X.w) (A := X.A.in1) (I.ok.hd hc) i2 b (tup_ne_iter p2 h2) its2.toArray
    have sz1 : its1.toArray.size = xs.length := by rw [List.size_toArray]; exact l1.symm
    have sz2 : its2.toArray.size = ys.length := by rw [List.size_toArray]; exact l2.symm
    exact wpAny_pyNext_zipD2_end S D1 D2 hz hTI hTO ⟨h1, p1.isList⟩ ⟨h2, p2⟩ (by rw [sz1]; omega) (by rw [sz2]; omega) (by rw [sz1, sz2]; omega) fun h' tk hk => ⟨rfl, I.turnedL (t' := tk) (ch := [z, TI, TO, i1, i2]) (fun c o hb q =>
      hk c o (fun q' => hb (by simp [q'])) (fun q' => hb (by simp [q'])) (fun q' => hb (by simp [q'])) (fun q' => hb (by simp [q'])) q) hf⟩
  self := fun A i s Q E st h => wpAny_pyIter_zip st.1.1 h
theorem neA {a b : Nat} (h : ¬ a = b) : @Ne Addr a b := h
theorem nmem2 {a b c : Addr} (h : a ≠ b) (h2 : a ≠ c) : a ∉ [b, c] := fun z => by
  rcases List.mem_cons.mp z with z | z
  · exact h z
  · exact h2 (List.mem_singleton.mp z)
theorem zs_le {n c : Addr} (h : c ∈ [n + 4, n + 2, n + 3, n, n + 1]) : n ≤ c := by
  have e' : c = n + 4 ∨ c = n + 2 ∨ c = n + 3 ∨ c = n ∨ c = n + 1 := by simpa using h
  rcases e' with z | z | z | z | z
  · rw [z]; exact Nat.le_add_right _ _
  · rw [z]; exact Nat.le_add_right _ _
  · rw [z]; exact Nat.le_add_right _ _
  · rw [z]; exact Nat.le_refl _
  · rw [z]; exact Nat.le_add_right _ _
theorem zsepLT {n a b : Nat} (ha : a < n) (h : b < n) : ZipSep2 (n + 4) (n + 2) (n + 3) n (n + 1) [n, a] [n + 1, b] :=
  ⟨neA (a := n + 2) (b := n + 4) (by omega), neA (a := n + 3) (b := n + 4) (by omega), neA (a := n + 2) (b := n + 3) (by omega), neA (a := n + 2) (b := n) (by omega), List.mem_cons_self ..,
    nmem2 (neA (a := n + 4) (b := n) (by omega)) (neA (a := n + 4) (b := a) (by omega)), nmem2 (neA (a := n + 3) (b := n) (by omega)) (neA (a := n + 3) (b := a) (by omega)), neA (a := n + 2) (b := n + 1) (by omega), List.mem_cons_self ..,
    nmem2 (neA (a := n + 4) (b := n + 1) (by omega)) (neA (a := n + 4) (b := b) (by omega)), nmem2 (neA (a := n + 3) (b := n + 1) (by omega)) (neA (a := n + 3) (b := b) (by omega)),
    nmem2 (neA (a := n) (b := n + 1) (by omega)) (neA (a := n) (b := b) (by omega)), nmem2 (neA (a := n + 1) (b := n) (by omega)) (neA (a := n + 1) (b := a) (by omega))⟩
set_option maxHeartbeats 400000 in
theorem pi_zipLT {X : Cx} {e e2 : Expr} {ta : TA} {p pos tpos : Pos} {elts : List Expr} {kk : Nat} (hg : Gl X "zip") (hm : X.mg "zip" = none) (ha : PA X [e, e2] ta)
    (hs : starEach [e, e2] X.env = (false, eval e X.env) :: starEach [e2] X.env := by rfl) (hpl : (backTo pos (starEach [e2] X.env)).any (·.1) = false := by rfl) :
    PI X (.Tuple elts kk tpos) (.Call (.Name "zip" p) [e, e2] [] pos) (fun σ H R => ta σ H fun vs H1 => ∃ a b xs ys, vs = [.ref a, .ref b] ∧ SqL X.K H1 a xs ∧ SqT X.K H1 b ys ∧ xs.length = ys.length ∧ R (Itlt X.K a b ys.length) H1) := by
  refine ⟨fun pins s σ H R I h => ?_⟩
  refine Call_ (ld_blt I hg hm PyProof.Rows.boot_zip (PyProof.Rows.callWith_type1 (thn (ha.run pos pins s σ H _ I h) fun us s1 ⟨vs, H1, I1, r1, q1⟩ => ?_) hs hpl))
  obtain ⟨a, b, xs, ys, ex, hx, hy, hl, q1⟩ := q1
  subst ex
  cases r1 with
  | cons r rr =>
    cases rr with
    | cons r' rr =>
      cases rr
      cases r
      cases r'
      obtain ⟨its1, rv1, p1, _⟩ := I1.list hx
      obtain ⟨its2, rv2, p2, _⟩ := I1.tuple hy
      obtain ⟨o1, ho1, _⟩ := id p1.isList
      obtain ⟨o2, ho2, _⟩ := id p2
      have la : a < s1.heap.objs.size := Heap.lt_size ho1
      have lb : b < s1.heap.objs.size := Heap.lt_size ho2
      refine zip_begins2 (begins_list a its1.toArray) (begins_tuple b its2.toArray) p1.isList p2 fun h' hz hTI hTO h1 h2 hsz keep => wpAny_pyIter_zip hz ?_
      have I2 : Inv X pins σ H1 { s1 with heap := h' } := I1.kept (t' := s1.toks) keep
      exact ⟨s1.heap.objs.size + 4, [s1.heap.objs.size + 4, s1.heap.objs.size + 2, s1.heap.objs.size + 3, s1.heap.objs.size, s1.heap.objs.size + 1], _, _, H1, rfl, I2, turn_zipLT a b _ _ _ _ _ ys.length (zsepLT la lb) (Nat.ne_of_lt la), ⟨⟨hz, hTI, ⟨_, _, hTO⟩, ⟨_, h1, rfl, rfl⟩, ⟨_, h2, rfl, rfl⟩⟩, Nat.zero_le _⟩, fun c hcm => I1.fpOk (zs_le hcm) (I1.hok.fresh (zs_le hcm)), q1⟩
end G

namespace G
open PySem PySem.Spec PyProof.Rows L2
/-! ### lists told item by item, by any relation that tuples and locked things keep -/
inductive RAll {α : Type} (R : Hp → V → α → Prop) (H : Hp) : List V → List α → Prop
  | nil : RAll R H [] []
  | cons {v : V} {vs : List V} {a : α} {as : List α} : R H v a → RAll R H vs as → RAll R H (v :: vs) (a :: as)
structure Keeps {α : Type} (R : Hp → V → α → Prop) : Prop where
  k : ∀ {H H' : Hp} {v : V} {a : α}, Tp H H' → R H v a → R H' v a
section
variable {α : Type} {R : Hp → V → α → Prop} {H H' : Hp}
theorem RAll.mono (k : Keeps R) (t : Tp H H') {vs : List V} {as : List α} (h : RAll R H vs as) : RAll R H' vs as := by
  induction h with
  | nil => exact .nil
  | cons h _ ih => exact .cons (k.k t h) ih
theorem RAll.len {vs : List V} {as : List α} (h : RAll R H vs as) : vs.length = as.length := by
  induction h with
  | nil => rfl
  | cons _ _ ih => exact congrArg Nat.succ ih
theorem RAll.get {vs : List V} {as : List α} (h : RAll R H vs as) : ∀ {i : Nat} {a : α}, as[i]? = some a → ∃ v, vs[i]? = some v ∧ R H v a := by
  induction h with
  | nil => intro i a e; simp at e
  | @cons v vs a0 as h _ ih =>
    intro i a e
    cases i with
    | zero => simp at e; subst e; exact ⟨v, rfl, h⟩
    | succ i => obtain ⟨u, e1, h1⟩ := ih (i := i) (by simpa using e); exact ⟨u, by simpa using e1, h1⟩
theorem RAll.getV {vs : List V} {as : List α} (h : RAll R H vs as) : ∀ {i : Nat} {v : V}, vs[i]? = some v → ∃ a, as[i]? = some a ∧ R H v a := by
  induction h with
  | nil => intro i a e; simp at e
  | @cons v vs a0 as h _ ih =>
    intro i a e
    cases i with
    | zero => simp at e; subst e; exact ⟨a0, rfl, h⟩
    | succ i => obtain ⟨u, e1, h1⟩ := ih (i := i) (by simpa using e); exact ⟨u, by simpa using e1, h1⟩
theorem RAll.app {vs us : List V} {as bs : List α} (h : RAll R H vs as) (h2 : RAll R H us bs) : RAll R H (vs ++ us) (as ++ bs) := by
  induction h with
  | nil => exact h2
  | cons h _ ih => exact .cons h ih
theorem RAll.to {β : Type} {S : Hp → V → β → Prop} {g : α → β} (w : ∀ v a, R H v a → S H v (g a)) {vs : List V} {as : List α} (h : RAll R H vs as) : RAll S H vs (as.map g) := by
  induction h with
  | nil => exact .nil
  | cons h _ ih => exact .cons (w _ _ h) ih
theorem RAll.dts {K : PySem.W.Frag} {g : α → PyData} (w : ∀ v a, R H v a → Dt K H v (g a)) {vs : List V} {as : List α} (h : RAll R H vs as) : DtAll K H vs (as.map g) := by
  induction h with
  | nil => exact .nil
  | cons h _ ih => exact .cons (w _ _ h) ih
end
section
variable {c : Cd} {σ : L2.St} {H : Hp} {Q : VK} {pos : Pos} {x y : V} {elt tg iter : Expr} {ifs : List Expr} {scope : Scope} {vs : List Nat} {α β : Type}
/-- a turn of a comprehension that changes nothing -/
def TurnR (cB : Cd) (tg : Expr) (ifs : List Expr) (elt : Expr) (vs : List Nat) (σ : L2.St) (S : Hp → V → β → Prop) (x : V) (H' : Hp) (o : Option β) : Prop :=
  RG cB tg x (wipe σ vs) H' fun σ2 H2 => H2 = H' ∧ wipe σ2 vs = wipe σ vs ∧ RTs cB ifs σ2 H2 fun b H3 => Same H' H3 ∧ if b = true then RE cB elt σ2 H3 fun y H4 => Same H3 H4 ∧ ∃ e, o = some e ∧ S H4 y e else o = none
theorem TurnR.one {cB : Cd} {S : Hp → V → β → Prop} (kS : Keeps S) {x : V} {H1 H' : Hp} {o : Option β} {D : Addr} {acc : List V} {es : List β} (hD : H1 D = none) (s : Same H1 H') (ha : H' D = some (.lst acc)) (hd : RAll S H' acc es) (t : TurnR cB tg ifs elt vs σ S x H' o) :
    Turn1 cB tg ifs elt vs σ D x H' acc fun acc' H2 => H2 D = some (.lst acc') ∧ Same H1 H2 ∧ RAll S H2 acc' (es ++ o.toList) := by
  refine RG.mono (fun σ2 H2 z => ?_) t
  obtain ⟨rfl, z1, z2⟩ := z
  refine ⟨z1, RTs.mono (fun b H3 z => ?_) z2⟩
  obtain ⟨s3, z⟩ := z
  cases b with
  | true =>
    refine RE.mono (fun y H4 z => ?_) z
    obtain ⟨s4, e, rfl, he⟩ := z
    have aD := s4 _ _ (s3 _ _ ha)
    have k := kp_upd (o' := .lst (acc ++ [y])) aD (fun _ e => nomatch e) (fun _ _ e => nomatch e)
    exact ⟨aD, upd_same, same_mut (s.trans (s3.trans s4)) hD, ((hd.mono kS (tp_same (s3.trans s4))).mono kS k.t).app (.cons (kS.k k.t he) .nil)⟩
  | false =>
    have z : o = none := z
    subst z
    exact ⟨s3 _ _ ha, s.trans s3, by rw [Option.toList_none, List.append_nil]; exact hd.mono kS (tp_same s3)⟩
theorem outsR {g : α → Option β} {ds : List α} {i : Nat} {d : α} (h : ds[i]? = some d) : (ds.take i).filterMap g ++ (g d).toList = (ds.take (i + 1)).filterMap g := by
  obtain ⟨h1, rfl⟩ := List.getElem?_eq_some_iff.mp h
  rw [List.take_succ_eq_append_getElem h1, List.filterMap_append]
  congr 1
/-- over a list -/
theorem lcL_R {R : Hp → V → α → Prop} {S : Hp → V → β → Prop} (kR : Keeps R) (kS : Keeps S) (g : α → Option β) (q : RE c iter σ H fun x H1 => ∃ a xs ds, x = .ref a ∧ SqL c.K H1 a xs ∧ RAll R H1 xs ds ∧ ds.length ≤ 1000 ∧ (∀ d x H', d ∈ ds → Same H1 H' → R H' x d → TurnR (blkCd c scope) tg ifs elt vs σ S x H' (g d)) ∧
      ∀ p us H2, Same H1 H2 → H1 p = none → H2 p = some (.lst us) → RAll S H2 us (ds.filterMap g) → Q (.ref p) H2) :
    tLc (RI c tg iter) (RG (blkCd c scope) tg) (RTs (blkCd c scope) ifs) (RE (blkCd c scope) elt) vs σ H Q := by
  refine lc_L (RE.mono (fun x H1 z => ?_) q)
  obtain ⟨a, xs, ds, rfl, ht, ha, hl, t, k⟩ := z
  have hle := ha.len
  refine ⟨a, xs, rfl, ht, by omega, fun D hD => ⟨fun i acc H' => acc.length ≤ i ∧ H' D = some (.lst acc) ∧ Same H1 H' ∧ RAll S H' acc ((ds.take i).filterMap g), ⟨Nat.le_refl _, upd_same, same_new hD, .nil⟩, ?_, ?_, ?_⟩⟩
  · rintro i acc H' _ ⟨l, _, s, _⟩
    exact ⟨s.seq ht, l⟩
  · rintro i x acc H' hx ⟨l, h1, s, h2⟩
    obtain ⟨d, hd, hx'⟩ := ha.getV hx
    have T := TurnR.one kS hD s h1 h2 (t d x H' (List.mem_of_getElem? hd) s (kR.k (tp_same s) hx'))
    refine RG.mono (fun σ2 H2 z => ⟨z.1, RTs.mono (fun b H3 z => ?_) z.2⟩) T
    cases b with
    | true => exact RE.mono (fun y H4 z => ⟨z.1, by rw [List.length_append, List.length_singleton]; omega, z.2.1, z.2.2.1, by rw [← outsR hd]; exact z.2.2.2⟩) z
    | false => exact ⟨by omega, z.1, z.2.1, by rw [← outsR hd]; exact z.2.2⟩
  · rintro acc H' ⟨l, h1, s, h2⟩
    refine k D acc H' s hD h1 ?_
    rw [hle, List.take_length] at h2
    exact h2
/-- over a tuple -/
theorem lcT_R {R : Hp → V → α → Prop} {S : Hp → V → β → Prop} (kR : Keeps R) (kS : Keeps S) (g : α → Option β) (q : RE c iter σ H fun x H1 => ∃ a xs ds, x = .ref a ∧ SqT c.K H1 a xs ∧ RAll R H1 xs ds ∧ ds.length ≤ 1000 ∧ (∀ d x H', d ∈ ds → Same H1 H' → R H' x d → TurnR (blkCd c scope) tg ifs elt vs σ S x H' (g d)) ∧
      ∀ p us H2, Same H1 H2 → H1 p = none → H2 p = some (.lst us) → RAll S H2 us (ds.filterMap g) → Q (.ref p) H2) :
    tLc (RI c tg iter) (RG (blkCd c scope) tg) (RTs (blkCd c scope) ifs) (RE (blkCd c scope) elt) vs σ H Q := by
  refine lc_T (RE.mono (fun x H1 z => ?_) q)
  obtain ⟨a, xs, ds, rfl, ht, ha, hl, t, k⟩ := z
  have hle := ha.len
  refine ⟨a, xs, rfl, ht, by omega, fun D hD => ⟨fun i acc H' => acc.length ≤ i ∧ H' D = some (.lst acc) ∧ Same H1 H' ∧ RAll S H' acc ((ds.take i).filterMap g), ⟨Nat.le_refl _, upd_same, same_new hD, .nil⟩, ?_, ?_, ?_⟩⟩
  · rintro i acc H' _ ⟨l, _, s, _⟩
    exact ⟨(tp_same s).sqt ht, l⟩
  · rintro i x acc H' hx ⟨l, h1, s, h2⟩
    obtain ⟨d, hd, hx'⟩ := ha.getV hx
    have T := TurnR.one kS hD s h1 h2 (t d x H' (List.mem_of_getElem? hd) s (kR.k (tp_same s) hx'))
    refine RG.mono (fun σ2 H2 z => ⟨z.1, RTs.mono (fun b H3 z => ?_) z.2⟩) T
    cases b with
    | true => exact RE.mono (fun y H4 z => ⟨z.1, by rw [List.length_append, List.length_singleton]; omega, z.2.1, z.2.2.1, by rw [← outsR hd]; exact z.2.2.2⟩) z
    | false => exact ⟨by omega, z.1, z.2.1, by rw [← outsR hd]; exact z.2.2⟩
  · rintro acc H' ⟨l, h1, s, h2⟩
    refine k D acc H' s hD h1 ?_
    rw [hle, List.take_length] at h2
    exact h2
/-- over enumerate(tuple) -/
theorem i_enumT {e : Expr} {p tpos : Pos} {elts : List Expr} {kk : Nat} {W : It → Hp → Prop} (hm : c.mg "enumerate" = none) (q : RE c e σ H fun x H1 => ∃ b ys, x = .ref b ∧ SqT c.K H1 b ys ∧ W (Itet c.K b ys.length) H1) (hg : c.sc.names.lookup ("enumerate" : Str) = some .globalImplicit := by rfl) (hs : ∀ env, starEach [e] env = [(false, eval e env)] := by intro _; rfl) :
    RI c (.Tuple elts kk tpos) (.Call (.Name "enumerate" p) [e] [] pos) σ H W := by
  refine ri_of (t := fun σ H R => RA c [e] σ H fun vs H1 => ∃ b ys, vs = [.ref b] ∧ SqT c.K H1 b ys ∧ R (Itet c.K b ys.length) H1) (fun X h => by rw [← h.K]; exact pi_enumT (gl_of h hg) (by rw [h.mg]; exact hm) (pa_ra h) (hs _)) ?_
  refine a_cons (RE.mono (fun x H1 z => a_nil ?_) q) (fun env => by rw [hs]; rfl)
  obtain ⟨b, ys, rfl, h1, h2⟩ := z
  exact ⟨b, ys, rfl, h1, h2⟩
theorem i_enumL {e : Expr} {p tpos : Pos} {elts : List Expr} {kk : Nat} {W : It → Hp → Prop} (hm : c.mg "enumerate" = none) (q : RE c e σ H fun x H1 => ∃ b ys, x = .ref b ∧ SqL c.K H1 b ys ∧ W (Ite c.K b) H1) (hg : c.sc.names.lookup ("enumerate" : Str) = some .globalImplicit := by rfl) (hs : ∀ env, starEach [e] env = [(false, eval e env)] := by intro _; rfl) :
    RI c (.Tuple elts kk tpos) (.Call (.Name "enumerate" p) [e] [] pos) σ H W := by
  refine ri_of (t := iEnum c.K (RA c [e])) (fun X h => by rw [← h.K]; exact pi_enum (gl_of h hg) (by rw [h.mg]; exact hm) (pa_ra h) (hs _)) ?_
  refine a_cons (RE.mono (fun x H1 z => a_nil ?_) q) (fun env => by rw [hs]; rfl)
  obtain ⟨b, ys, rfl, h1, h2⟩ := z
  exact ⟨b, ys, rfl, h1, h2⟩
theorem i_zipLT {e e2 : Expr} {p tpos : Pos} {elts : List Expr} {kk : Nat} {W : It → Hp → Prop} (hm : c.mg "zip" = none) (q : RE c e σ H fun x H0 => RE c e2 σ H0 fun y H1 => ∃ a b xs ys, x = .ref a ∧ y = .ref b ∧ SqL c.K H1 a xs ∧ SqT c.K H1 b ys ∧ xs.length = ys.length ∧ W (Itlt c.K a b ys.length) H1)
    (hg : c.sc.names.lookup ("zip" : Str) = some .globalImplicit := by rfl) (hs : ∀ env, starEach [e, e2] env = (false, eval e env) :: starEach [e2] env := by intro _; rfl) (hs2 : ∀ env, starEach [e2] env = (false, eval e2 env) :: starEach [] env := by intro _; rfl) (hpl : ∀ env, (backTo pos (starEach [e2] env)).any (·.1) = false := by intro _; rfl) :
    RI c (.Tuple elts kk tpos) (.Call (.Name "zip" p) [e, e2] [] pos) σ H W := by
  refine ri_of (t := fun σ H R => RA c [e, e2] σ H fun vs H1 => ∃ a b xs ys, vs = [.ref a, .ref b] ∧ SqL c.K H1 a xs ∧ SqT c.K H1 b ys ∧ xs.length = ys.length ∧ R (Itlt c.K a b ys.length) H1) (fun X h => by rw [← h.K]; exact pi_zipLT (gl_of h hg) (by rw [h.mg]; exact hm) (pa_ra h) (hs _) (hpl _)) ?_
  refine a_cons (RE.mono (fun x H0 q0 => a_cons (RE.mono (fun y H1 q1 => a_nil ?_) q0) hs2) q) hs
  obtain ⟨a, b, xs, ys, rfl, rfl, h1, h2, h3, h4⟩ := q1
  exact ⟨a, b, xs, ys, rfl, h1, h2, h3, h4⟩
end
/-- for k, x in enumerate(tuple): the pairs are handed over as new tuples -/
theorem s_forE {c : Cd} {σ : L2.St} {H : Hp} {pos : Pos} {nx : L2.St → Hp → Prop} {rt : VK} {bk ct : L2.St → Hp → Prop} {e : Expr} {p ppos tpos : Pos} {elts : List Expr} {kk : Nat} {body : List Stmt} {α : Type} {R : Hp → V → α → Prop} (kR : Keeps R) (hm : c.mg "enumerate" = none)
    (q : RE c e σ H fun x H1 => ∃ b ys as, x = .ref b ∧ SqT c.K H1 b ys ∧ RAll R H1 ys as ∧ ∃ Pv : Nat → L2.St → Hp → Prop, Pv 0 σ H1 ∧ (∀ i σ' H', Pv i σ' H' → Tp H1 H') ∧
      (∀ i a σ' H' T v H'', as[i]? = some a → Pv i σ' H' → Same H' H'' → H'' T = some (.tup [.int (i : Nat), v]) → R H'' v a → RG c (.Tuple elts kk tpos) (.ref T) σ' H'' fun σ2 H2 => RB c body ⟨Pv (i + 1), rt, nx, Pv (i + 1)⟩ σ2 H2) ∧ ∀ σ' H', Pv as.length σ' H' → nx σ' H')
    (hg : c.sc.names.lookup ("enumerate" : Str) = some .globalImplicit := by rfl) (hs : ∀ env, starEach [e] env = [(false, eval e env)] := by intro _; rfl)
    (hf : ∀ env x, foldedSetIterable (.Call (.Name "enumerate" p) [e] [] ppos) env x = pure x := by intro _ _; rfl) : RS c (.For (.Tuple elts kk tpos) (.Call (.Name "enumerate" p) [e] [] ppos) body [] pos) ⟨nx, rt, bk, ct⟩ σ H := by
  refine s_for (i_enumT hm (RE.mono (fun x H1 z => ?_) q) hg hs) hf
  obtain ⟨b, ys, as, rfl, ht, hd, Pv, p0, tp, step, fin⟩ := z
  have hl := hd.len
  refine ⟨b, ys, rfl, ht, fun i m σ' H' => m = as.length - i ∧ i ≤ as.length ∧ Pv i σ' H', ⟨_, rfl, Nat.zero_le _, p0⟩, ?_⟩
  rintro i m σ' H' ⟨rfl, hi, hp⟩
  have htp := tp i σ' H' hp
  by_cases more : i < as.length
  · refine .inr ⟨⟨ys, htp.sqt ht, rfl, by omega⟩, Pv (i + 1), fun σ2 H2 p' => ⟨as.length - (i + 1), by omega, rfl, more, p'⟩, fun x H2 got => ?_⟩
    obtain ⟨T, y, rfl, hT, rfl, hyy⟩ := got
    obtain ⟨v, hv, dv⟩ := hd.get (List.getElem?_eq_getElem more)
    have := hyy ys (htp.sqt ht)
    rw [hv] at this
    cases this
    have sn := same_new (o := .tup [.int (i : Nat), y]) hT
    exact step i _ σ' H' T y _ (List.getElem?_eq_getElem more) hp sn upd_same (kR.k (tp_same sn) (kR.k htp dv))
  · obtain rfl : i = as.length := by omega
    exact .inl ⟨⟨ys, htp.sqt ht, rfl, by omega⟩, fin σ' H' hp⟩
/-- for x, y in zip(list, tuple) -/
theorem s_forLT {c : Cd} {σ : L2.St} {H : Hp} {pos : Pos} {nx : L2.St → Hp → Prop} {rt : VK} {bk ct : L2.St → Hp → Prop} {e e2 : Expr} {p ppos tpos : Pos} {elts : List Expr} {kk : Nat} {body : List Stmt} {α β : Type} {R : Hp → V → α → Prop} {S : Hp → V → β → Prop} (kR : Keeps R) (kS : Keeps S) (hm : c.mg "zip" = none)
    (q : RE c e σ H fun x H0 => RE c e2 σ H0 fun y H1 => ∃ a b xs ys as bs, x = .ref a ∧ y = .ref b ∧ SqL c.K H1 a xs ∧ SqT c.K H1 b ys ∧ RAll R H1 xs as ∧ RAll S H1 ys bs ∧ as.length = bs.length ∧ ∃ Pv : Nat → L2.St → Hp → Prop, Pv 0 σ H1 ∧ (∀ i σ' H', Pv i σ' H' → Same H1 H') ∧
      (∀ i a b σ' H' T u v H'', as[i]? = some a → bs[i]? = some b → Pv i σ' H' → Same H' H'' → H'' T = some (.tup [u, v]) → R H'' u a → S H'' v b → RG c (.Tuple elts kk tpos) (.ref T) σ' H'' fun σ2 H2 => RB c body ⟨Pv (i + 1), rt, nx, Pv (i + 1)⟩ σ2 H2) ∧ ∀ σ' H', Pv as.length σ' H' → nx σ' H')
    (hg : c.sc.names.lookup ("zip" : Str) = some .globalImplicit := by rfl) (hs : ∀ env, starEach [e, e2] env = (false, eval e env) :: starEach [e2] env := by intro _; rfl) (hs2 : ∀ env, starEach [e2] env = (false, eval e2 env) :: starEach [] env := by intro _; rfl) (hpl : ∀ env, (backTo ppos (starEach [e2] env)).any (·.1) = false := by intro _; rfl)
    (hf : ∀ env x, foldedSetIterable (.Call (.Name "zip" p) [e, e2] [] ppos) env x = pure x := by intro _ _; rfl) : RS c (.For (.Tuple elts kk tpos) (.Call (.Name "zip" p) [e, e2] [] ppos) body [] pos) ⟨nx, rt, bk, ct⟩ σ H := by
  refine s_for (i_zipLT hm (RE.mono (fun x H0 z => RE.mono (fun y H1 z => ?_) z) q) hg hs hs2 hpl) hf
  obtain ⟨a, b, xs, ys, as, bs, rfl, rfl, h1, h2, r1, r2, hl, Pv, p0, tp, step, fin⟩ := z
  have l1 := r1.len
  have l2 := r2.len
  refine ⟨a, b, xs, ys, rfl, rfl, h1, h2, by omega, fun i m σ' H' => m = as.length - i ∧ i ≤ as.length ∧ Pv i σ' H', ⟨_, rfl, Nat.zero_le _, p0⟩, ?_⟩
  rintro i m σ' H' ⟨rfl, hi, hp⟩
  have hs1 := tp i σ' H' hp
  by_cases more : i < as.length
  · refine .inr ⟨⟨xs, ys, hs1.seq h1, by omega, (tp_same hs1).sqt h2, rfl, by omega⟩, Pv (i + 1), fun σ2 H2 p' => ⟨as.length - (i + 1), by omega, rfl, more, p'⟩, fun x H2 got => ?_⟩
    obtain ⟨T, u, v, rfl, hT, rfl, hx, hy⟩ := got
    obtain ⟨u', hu, du⟩ := r1.get (List.getElem?_eq_getElem more)
    obtain ⟨v', hv, dv⟩ := r2.get (List.getElem?_eq_getElem (show i < bs.length by omega))
    have e1 := hx xs (hs1.seq h1)
    rw [hu] at e1
    cases e1
    have e2 := hy ys ((tp_same hs1).sqt h2)
    rw [hv] at e2
    cases e2
    have sn := same_new (o := .tup [u, v]) hT
    exact step i _ _ σ' H' T u v _ (List.getElem?_eq_getElem more) (List.getElem?_eq_getElem (show i < bs.length by omega)) hp sn upd_same (kR.k (tp_same sn) (kR.k (tp_same hs1) du)) (kS.k (tp_same sn) (kS.k (tp_same hs1) dv))
  · obtain rfl : i = as.length := by omega
    exact .inl ⟨⟨xs, ys, hs1.seq h1, by omega, (tp_same hs1).sqt h2, rfl, by omega⟩, fin σ' H' hp⟩
end G
namespace K
open PySem PySem.Spec PyProof.Rows L2 G
variable {M : Md}
/-- a tuple of ints, as it is kept -/
def TI (H : Hp) (v : V) (ns : List Int) : Prop := ∃ a, v = .ref a ∧ H a = some (.tup (ns.map V.int))
theorem kTI : Keeps TI := ⟨fun t ⟨a, e, h⟩ => ⟨a, e, t.t _ _ h⟩⟩
theorem TI.dt {K : PySem.W.Frag} {H : Hp} {v : V} {ns : List Int} (h : TI H v ns) : Dt K H v (stD ns) := by
  obtain ⟨a, rfl, h⟩ := h
  exact .tup (.of h) (dtInts ns)
def keyI (ns : List Int) : List Key := ns.map Sum.inl
theorem keyI_kV (ns : List Int) : (keyI ns).map kV = ns.map V.int := by
  unfold keyI
  rw [List.map_map]
  rfl
theorem TI.key {H : Hp} {a : Addr} {ns : List Int} (h : H a = some (.tup (ns.map V.int))) : H a = some (.tup ((keyI ns).map kV)) := by rw [keyI_kV]; exact h
theorem keyI_inj {a b : List Int} (h : keyI a = keyI b) : a = b := by
  unfold keyI at h
  induction a generalizing b with
  | nil => cases b with
    | nil => rfl
    | cons => cases h
  | cons x a ih => cases b with
    | nil => cases h
    | cons y b =>
      rw [List.map_cons, List.map_cons, List.cons.injEq] at h
      rw [Sum.inl.inj h.1, ih h.2]
def dR (K : PySem.W.Frag) : Hp → V → PyData → Prop := fun H v d => Dt K H v d
theorem kdR {K : PySem.W.Frag} : Keeps (dR K) := ⟨fun t h => Dt.mono t h⟩
theorem dts_R {K : PySem.W.Frag} {H : Hp} : ∀ {ds : List PyData} {vs : List V}, DtAll K H vs ds → RAll (dR K) H vs ds
  | [], _, h => by cases h; exact .nil
  | d :: ds, _, h => by
    cases h with
    | cons h1 h2 => exact .cons h1 (dts_R h2)
theorem R_dts {K : PySem.W.Frag} {H : Hp} {ds : List PyData} {vs : List V} (h : RAll (dR K) H vs ds) : DtAll K H vs ds := by
  induction h with
  | nil => exact .nil
  | cons h _ ih => exact .cons h ih
section
variable {c : Cd} {σ : L2.St} {H : Hp} {Q : VK} {pos : Pos} {x y : V}
theorem ro_catTI {ns ms : List Int} (h1 : TI H x ns) (h2 : TI H y ms) (hl : ns.length + ms.length ≤ 100000) (q : ∀ v H2, Same H H2 → TI H2 v (ns ++ ms) → Q v H2) : RO c .Add x y H Q := by
  obtain ⟨a, rfl, t1⟩ := h1
  obtain ⟨b, rfl, t2⟩ := h2
  refine ro_of (r := rCatA c.K) (fun X h => by rw [← h.K]; exact op_catA) ⟨a, b, _, _, rfl, rfl, .of t1, .of t2, Nat.le_trans (by rw [List.length_map, List.length_map]; exact hl : _ ≤ 100000) (by decide), ?_, ?_, ?_⟩
  · intro e
    obtain rfl : ns = [] := List.map_eq_nil_iff.mp e
    exact q _ _ (Same.refl _) ⟨b, rfl, t2⟩
  · intro _ e
    obtain rfl : ms = [] := List.map_eq_nil_iff.mp e
    rw [List.append_nil] at q
    exact q _ _ (Same.refl _) ⟨a, rfl, t1⟩
  · intro _ _ p hp
    exact q _ _ (same_new hp) ⟨p, rfl, by rw [List.map_append]; exact upd_same⟩
/-- (i,) -/
theorem e_tupTI {es : List Expr} {x1} (q : RA c es σ H fun xs H1 => ∃ ns : List Int, xs = ns.map V.int ∧ ns.length ≤ 1000 ∧ ∀ v H2, Same H1 H2 → TI H2 v ns → Q v H2) : RE c (.Tuple es x1 pos) σ H Q :=
  e_tup (RA.mono (fun xs H1 z => by
    obtain ⟨ns, rfl, h2, h3⟩ := z
    exact ⟨Nat.le_trans (by rw [List.length_map]; exact h2) (by decide : 1000 ≤ sizeLine), fun p hp => h3 _ _ (same_new hp) ⟨p, rfl, upd_same⟩⟩) q)
/-- a slice of such a tuple -/
theorem rsl_TI {ns : List Int} {lo hi : Option Int} (hx : TI H x ns) (q : ∀ v H2, Same H H2 → TI H2 v (G.cutD ns lo hi) → Q v H2) : RSl c x lo hi H Q := by
  obtain ⟨a, rfl, ht⟩ := hx
  have hc : cutV (ns.map V.int) lo hi = (G.cutD ns lo hi).map V.int := by
    unfold cutV G.cutD
    rw [List.length_map, List.map_take, List.map_drop]
  refine rsl_of (r := rSlA c.K) (fun X h => by rw [← h.K]; exact sl_tupA) ⟨a, _, rfl, .of ht, fun e => ?_, fun _ p hp => q _ _ (same_new hp) ⟨p, rfl, by rw [← hc]; exact upd_same⟩⟩
  refine q _ _ (Same.refl _) ⟨a, rfl, ?_⟩
  have e2 : G.cutD ns lo hi = ns := by
    unfold G.cutD
    rw [List.length_map] at e
    rw [e.1, e.2]
    simp
  rw [e2]
  exact ht
end
end K

namespace G
open PySem PySem.Spec PyProof.Rows L2
section
variable {c : Cd} {σ : L2.St} {H : Hp} {Q : VK} {pos : Pos}
theorem s_setLc2 {nx : L2.St → Hp → Prop} {rt : VK} {bk ct : L2.St → Hp → Prop} {i : Nat} {y : Str} {py : Pos} {elt tg iter tg1 iter1 : Expr} {ifs ifs1 : List Expr} {scope : Scope} {own : List (Str × Nat)} {vs1 : List Nat} {spos : Pos} (hA : At c.N i y) (ok : Blk c scope own) (hv : ∀ i ∈ vs1, i ∈ own.map (·.2))
    (q : tLc2 (RI c tg iter) (RG (blkCd c scope) tg) (RTs (blkCd c scope) ifs) (RI (blkCd c scope) tg1 iter1) (RG (blkCd c scope) tg1) (RTs (blkCd c scope) ifs1) (RE (blkCd c scope) elt) (own.map (·.2)) vs1 σ H fun v H1 => nx (σ.set i (some v)) H1)
    (hy : c.sc.names.lookup y = some .local := by rfl) (hl : (py.line == pos.line) = true := by rfl) (ha : (scope.names.any fun (n, k) => n == y && (k == .local || k == .cell)) = false := by rfl) (hf : c.sc.kind = .function := by rfl) (hs : ∀ env x, foldedSetIterable iter env x = pure x := by intro _ _; rfl) (hs1 : ∀ env x, foldedSetIterable iter1 env x = pure x := by intro _ _; rfl) :
    RS c (.Assign [.Name y py] (.ListComp elt [⟨tg, iter, ifs, 0⟩, ⟨tg1, iter1, ifs1, 0⟩] scope pos) spos) ⟨nx, rt, bk, ct⟩ σ H :=
  rs_of (c := c) (σ := σ) (H := H) (D := ⟨nx, rt, bk, ct⟩) (t := tAsg (tLc2 (RI c tg iter) (RG (blkCd c scope) tg) (RTs (blkCd c scope) ifs) (RI (blkCd c scope) tg1 iter1) (RG (blkCd c scope) tg1) (RTs (blkCd c scope) ifs1) (RE (blkCd c scope) elt) (own.map (fun p : Str × Nat => p.2)) vs1) (gName i)) (fun X h => ps_setLc2 h.calm (by rw [h.N]; exact h.nd) (by rw [h.N]; exact hA.get) (by rw [h.sc]; exact hy)
    (sw_true (by rw [h.sc]; exact hf) (by rw [h.sc]; exact hy) hl ha) (pi_ri h) (by rw [h.N, h.sc]; exact ok.ok) hv (fun s H C cl fp => pg_rg (is_blk h s H C cl fp)) (fun s H C cl fp => pts_rts (is_blk h s H C cl fp)) (fun s H C cl fp => pi_ri (is_blk h s H C cl fp)) (fun s H C cl fp => pg_rg (is_blk h s H C cl fp)) (fun s H C cl fp => pts_rts (is_blk h s H C cl fp)) (fun s H C cl fp => pe_re (is_blk h s H C cl fp)) (hs _) hs1) q
end
end G

namespace K
open PySem PySem.Spec PyProof.Rows L2 G
variable {M : Md}
/-- [e for x in xs for t in range(a, b)], outer over a list, the items told by relations -/
theorem lc2_R {α β : Type} {R : Hp → V → α → Prop} {S : Hp → V → β → Prop} (kR : Keeps R) (kS : Keeps S) {c : Cd} {σ : L2.St} {H : Hp} {Q : VK} {elt tg iter tg1 a b : Expr} {p ppos : Pos} {scope : Scope} {vs vs1 : List Nat} {g : α → Int → β} (hm : c.mg "range" = none)
    (q : RE c iter σ H fun x H1 => ∃ l xs ds lo hi, x = .ref l ∧ SqL c.K H1 l xs ∧ RAll R H1 xs ds ∧ (-1000 ≤ lo ∧ lo ≤ 1000) ∧ (-2000 ≤ hi ∧ hi ≤ 2000) ∧ ds.length * (hi - lo).toNat ≤ 1000 ∧
      (∀ d v H', d ∈ ds → Same H1 H' → R H' v d → RG (blkCd c scope) tg v (wipe σ vs) H' fun σ2 H2 => H2 = H' ∧ wipe σ2 vs = wipe σ vs ∧
        RE (blkCd c scope) a σ2 H2 fun y H3 => RE (blkCd c scope) b σ2 H3 fun z H4 => y = .int lo ∧ z = .int hi ∧ H4 = H' ∧
        ∀ (t : Nat) H', Same H1 H' → (lo + t < hi) → R H' v d → RG (blkCd c scope) tg1 (.int (lo + t)) (wipe σ2 vs1) H' fun σ3 H5 => H5 = H' ∧ wipe σ3 vs1 = wipe σ2 vs1 ∧ RE (blkCd c scope) elt σ3 H5 fun w H6 => Same H5 H6 ∧ S H6 w (g d (lo + t))) ∧
      ∀ p us H3, Same H1 H3 → H1 p = none → H3 p = some (.lst us) → RAll S H3 us (ds.flatMap fun d => (List.range (hi - lo).toNat).map fun t : Nat => g d (lo + (t : Int))) → Q (.ref p) H3)
    (hg : (blkCd c scope).sc.names.lookup ("range" : Str) = some .globalImplicit := by rfl) (hs : ∀ env, starEach [a, b] env = [(false, eval a env), (false, eval b env)] := by intro _; rfl) (hs2 : ∀ env, starEach [b] env = [(false, eval b env)] := by intro _; rfl) :
    tLc2 (RI c tg iter) (RG (blkCd c scope) tg) (RTs (blkCd c scope) []) (RI (blkCd c scope) tg1 (.Call (.Name "range" p) [a, b] [] ppos)) (RG (blkCd c scope) tg1) (RTs (blkCd c scope) []) (RE (blkCd c scope) elt) vs vs1 σ H Q := by
  refine i_list (RE.mono (fun x H1 z => ?_) q)
  obtain ⟨l, xs, ds, lo, hi, rfl, ht, hd, lb, hb, many, tn, k⟩ := z
  refine ⟨l, rfl, ⟨xs, ht⟩, fun D hD => ?_⟩
  have lx := hd.len
  let row : α → List β := fun d => (List.range (hi - lo).toNat).map fun t : Nat => g d (lo + (t : Int))
  have rowl : ∀ d, (row d).length = (hi - lo).toNat := fun d => by simp [row]
  have rowsl : ∀ es : List α, (es.flatMap row).length = es.length * (hi - lo).toNat := fun es => by
    induction es with
    | nil => simp
    | cons e es ih => rw [List.flatMap_cons, List.length_append, rowl, ih, List.length_cons, Nat.add_mul, Nat.one_mul, Nat.add_comm]
  refine ⟨fun i m H' => m = xs.length - i ∧ i ≤ xs.length ∧ ∃ acc, H' D = some (.lst acc) ∧ Same H1 H' ∧ RAll S H' acc ((ds.take i).flatMap row), ⟨xs.length, by simp, Nat.zero_le _, [], upd_same, same_new hD, .nil⟩, ?_⟩
  rintro i m H2 ⟨rfl, hi2, acc, ha, s2, h2⟩
  by_cases hlt : i < xs.length
  · obtain ⟨d, hdi, hx⟩ := hd.getV (List.getElem?_eq_getElem hlt)
    refine .inr ⟨⟨xs, xs[i], s2.seq ht, by simp [hlt]⟩, fun H' => ∃ acc, H' D = some (.lst acc) ∧ Same H1 H' ∧ RAll S H' acc ((ds.take (i + 1)).flatMap row), fun H' ⟨acc, z1, z2, z3⟩ => ⟨xs.length - (i + 1), by omega, rfl, hlt, acc, z1, z2, z3⟩, ?_⟩
    rintro y H3 ⟨e0, yy⟩
    subst e0
    have e := yy xs (s2.seq ht)
    rw [List.getElem?_eq_getElem hlt] at e
    cases e
    refine RG.mono (fun σ2 H4 z => ?_) (tn d xs[i] _ (List.mem_of_getElem? hdi) s2 (kR.k (tp_same s2) hx))
    obtain ⟨rfl, w1, z⟩ := z
    refine ⟨w1, ts_nil ?_⟩
    rw [if_pos rfl]
    refine i_range2 hm (a_cons (RE.mono (fun y H5 z => a_cons (RE.mono (fun z2 H6 z => a_nil ?_) z) (fun env => by rw [hs2]; rfl)) z) (fun env => by rw [hs, hs2])) hg hs hs2
    obtain ⟨rfl, rfl, rfl, tn2⟩ := z
    have hcap : (ds.take i).length * (hi - lo).toNat + (hi - lo).toNat ≤ 1000 := by
      have h1 : (ds.take i).length + 1 ≤ ds.length := by rw [List.length_take]; omega
      have h2 := Nat.mul_le_mul_right (hi - lo).toNat h1
      rw [Nat.add_mul, Nat.one_mul] at h2
      omega
    refine ⟨lo, hi, rfl, ⟨by omega, by omega, by omega, by omega⟩, fun j k H' => k = (hi - lo).toNat - j ∧ j ≤ (hi - lo).toNat ∧ ∃ acc, H' D = some (.lst acc) ∧ Same H1 H' ∧ RAll S H' acc ((ds.take i).flatMap row ++ (List.range j).map fun t : Nat => g d (lo + (t : Int))), ⟨(hi - lo).toNat, by simp, Nat.zero_le _, acc, ha, s2, by simpa using h2⟩, ?_⟩
    rintro j k0 H7 ⟨rfl, hj, acc7, ha7, s7, h7⟩
    by_cases hjl : j < (hi - lo).toNat
    · refine .inr ⟨hjl, fun H' => ∃ acc, H' D = some (.lst acc) ∧ Same H1 H' ∧ RAll S H' acc ((ds.take i).flatMap row ++ (List.range (j + 1)).map fun t : Nat => g d (lo + (t : Int))), fun H' ⟨acc, z1, z2, z3⟩ => ⟨(hi - lo).toNat - (j + 1), by omega, rfl, hjl, acc, z1, z2, z3⟩, ?_⟩
      rintro y H8 ⟨e8, rfl⟩
      subst e8
      refine RG.mono (fun σ3 H9 z => ?_) (tn2 j _ s7 (by omega) (kR.k (tp_same s7) hx))
      obtain ⟨rfl, w3, z⟩ := z
      refine ⟨w3, ts_nil ?_⟩
      rw [if_pos rfl]
      refine RE.mono (fun w H10 z => ?_) z
      obtain ⟨s10, h10⟩ := z
      have aD := s10 _ _ ha7
      have ku := kp_upd (o' := .lst (acc7 ++ [w])) aD (fun _ e => nomatch e) (fun _ _ e => nomatch e)
      have l7 := h7.len
      rw [List.length_append, rowsl, List.length_map, List.length_range] at l7
      refine ⟨acc7, aD, Nat.lt_of_le_of_lt (show acc7.length ≤ 1000 by omega) (by decide), acc7 ++ [w], upd_same, same_mut (s7.trans s10) hD, ?_⟩
      rw [List.range_succ, List.map_append, ← List.append_assoc]
      exact ((h7.mono kS (tp_same s10)).mono kS ku.t).app (.cons (kS.k ku.t h10) .nil)
    · have ej : j = (hi - lo).toNat := by omega
      subst ej
      refine .inl ⟨Nat.le_refl _, acc7, ha7, s7, ?_⟩
      rw [List.take_succ_eq_append_getElem (by omega), List.flatMap_append]
      have ed : ds[i]'(by omega) = d := by
        have := List.getElem?_eq_getElem (l := ds) (i := i) (by omega)
        rw [this] at hdi
        exact Option.some.inj hdi
      rw [ed]
      simpa [row] using h7
  · have e : i = xs.length := by omega
    subst e
    rw [lx, List.take_length] at h2
    exact .inl ⟨⟨xs, s2.seq ht, Nat.le_refl _⟩, k D acc H2 s2 hD ha h2⟩
/-- a def that answers with a new list, its items told by a relation -/
def spLR {α : Type} (S : Hp → V → α → Prop) (W : List PyData → List α → Prop) (K : PySem.W.Frag) : Sp := fun vs H Q _ => ∃ ds es, DtAll K H vs ds ∧ W ds es ∧ ∀ l us H', Same H H' → H l = none → H' l = some (.lst us) → RAll S H' us es → Q (.ref l) H'
theorem e_callR {α : Type} {S : Hp → V → α → Prop} {c : Cd} {σ : L2.St} {H : Hp} {Q : VK} {pos : Pos} {x : Str} {p : Pos} {e : Expr} {es : List Expr} {ps : List Str} {k : Nat} {W : List PyData → List α → Prop} (D : Dc c.toMd x ps k (spLR S W c.K)) (q : RA c (e :: es) σ H fun vs H1 => ∃ ds es, DtAll c.K H1 vs ds ∧ W ds es ∧ ∀ l us H', Same H1 H' → H1 l = none → H' l = some (.lst us) → RAll S H' us es → Q (.ref l) H') (hk : k ≤ c.k := by exact Nat.le_of_ble_eq_true rfl) (hg : c.sc.names.lookup x = some .globalImplicit := by rfl)
    (hdb : (x == ("__debug__" : Str)) = false := by decide) (he : ∀ env, starEach (e :: es) env = (false, eval e env) :: starEach es env := by intro _; rfl) (hpl : ∀ env, (backTo pos (starEach es env)).any (·.1) = false := by intro _; rfl) :
    RE c (.Call (.Name x p) (e :: es) [] pos) σ H Q := e_call D q hk hg hdb he hpl
def app1 (o : St1) (t : Int) : St1 := o ++ [t]
theorem widen_app1 (acc : List St1) (p : Rng) : acc.flatMap (fun d => (List.range (p.2 + 1 - p.1).toNat).map fun t : Nat => app1 d (p.1 + (t : Int))) = widen acc p := rfl
def rComb : List PyData → List St1 → Prop := fun ds es => ∃ rs : List Row, ds = [.tuple (rngs rs)] ∧ Small rs ∧ es = statesOf (rg rs)
set_option maxHeartbeats 1000000 in
theorem ok_comb {f fd} (F : Fun M.K "_combined" "_combined" s__combined f fd) (b : Bl M) : FnG M.prog M.w M.K M.mg M.base CX0 1 f fd ["ranges"] (spLR TI rComb M.K) := by
  refine fn_ok F sc__combined (fun vs H Q E h => ?_) (fun H vs Q E h => ?_)
  · obtain ⟨ds, d, h, ⟨rs, rfl, _⟩, _⟩ := h
    exact h.len
  obtain ⟨ds, d, h, ⟨rs, rfl, sm, rfl⟩, k⟩ := h
  obtain _ | ⟨hc, h⟩ := h
  cases h
  rename_i vc
  refine b_cut (fun σ1 H1 => ∃ l us, σ1 = [some vc, some (.ref l), none, none, none, none] ∧ Same H H1 ∧ H l = none ∧ H1 l = some (.lst us) ∧ RAll TI H1 us [[]]) ?_ ?_
  · refine s_set (by tm_at "at") ?_
    refine e_lstD ?_
    refine a_cons (e_tupTI (a_nil ?_))
    refine ⟨[], rfl, (Nat.le_of_ble_eq_true rfl), fun v0 H0 s0 h0 => ?_⟩
    refine a_nil ⟨(Nat.le_of_ble_eq_true rfl), fun l1 H1 s1 n1 g1 => ?_⟩
    exact ⟨l1, _, rfl, s0.trans s1, same_none s0 n1, g1, .cons (kTI.k (tp_same s1) h0) .nil⟩
  rintro _ H1 ⟨l1, u1, rfl, s1, n1, g1, h1⟩
  refine b_cut (fun σ1 H2 => ∃ (l : Addr) (us : List V) (v2 v3 : Option V), σ1 = [some vc, some (.ref l), v2, v3, none, none] ∧ Same H H2 ∧ H l = none ∧ H2 l = some (.lst us) ∧ RAll TI H2 us (statesOf (rg rs))) ?_ ?_
  · rw [rngs_eq] at hc
    obtain ⟨a, xs, rfl, ht, hd⟩ := (hc.mono (tp_same s1)).tupE
    refine s_forT ?_
    refine e_var (by tm_at "at") ?_
    refine ⟨a, xs, rfl, ht, fun i σ1 H' => ∃ (l : Addr) (us : List V) (v2 v3 : Option V), σ1 = [some (.ref a), some (.ref l), v2, v3, none, none] ∧ Same H1 H' ∧ H l = none ∧ H' l = some (.lst us) ∧ RAll TI H' us (statesOf ((rg rs).take i)), ⟨l1, u1, none, none, rfl, Same.refl _, n1, g1, h1⟩, ?_, ?_, ?_⟩
    · rintro i σ' H' _ ⟨l, us, v2, v3, rfl, s, _⟩
      exact (tp_same s).sqt ht
    · rintro i x σ' H3 hx ⟨l, us, v2, v3, rfl, s3, n3, g3, h3⟩
      obtain ⟨d, hdi, hx'⟩ := hd.getV hx
      rw [List.getElem?_map] at hdi
      obtain ⟨pr, hp, rfl⟩ := Option.map_eq_some_iff.mp hdi
      obtain ⟨ap, xp, rfl, htp, hdp⟩ := (hx'.mono (tp_same s3)).tupE
      obtain _ | ⟨e1, hdp⟩ := hdp
      obtain _ | ⟨e2, hdp⟩ := hdp
      cases hdp
      cases e1
      cases e2
      have spn := sm.sp pr (List.mem_of_getElem? hp)
      have cnt : (widen (statesOf ((rg rs).take i)) pr).length ≤ 256 := by
        rw [← states_snoc hp, states_len]
        exact Nat.le_trans (many_take (fun p hp => (sm.sp p hp).1) _) sm.many
      rw [widen_len] at cnt
      refine g_tup htp (gs_cons (g_name (by tm_at "at") (gs_cons (g_name (by tm_at "at") (gs_nil ?_)))))
      refine b_one ?_
      refine s_setLc2 (own := [("state", 4), ("value", 5)]) (vs1 := [5]) (by tm_at "at") (Blk.of (N := N__combined) (sc := defScope s__combined) rfl rfl (by decide +kernel)) (by decide) ?_
      refine lc2_R (g := app1) kTI kTI b.range ?_
      refine e_var (by tm_at "at") ?_
      refine ⟨l, us, _, pr.1, pr.2 + 1, rfl, .of g3, h3, by unfold span at spn; omega, by unfold span at spn; omega, ?_, ?_, ?_⟩
      · unfold span at cnt
        omega
      · intro o v H' ho s' hv
        refine g_name (by tm_at "at") ⟨rfl, rfl, ?_⟩
        tm_at "go"
        refine ⟨rfl, rfl, rfl, ?_⟩
        intro t H4 s4 ht4 hv4
        refine g_name (by tm_at "at") ⟨rfl, rfl, ?_⟩
        tm_at "go"
        refine e_tupTI ?_
        tm_at "go"
        refine ⟨[_], rfl, (Nat.le_of_ble_eq_true rfl), fun vp H5 s5 hp5 => ?_⟩
        have ol : o.length ≤ 100 := by
          have h1 := states_mem ho
          have h2 : ((rg rs).take i).length ≤ (rg rs).length := by rw [List.length_take]; omega
          have h3 := sm.tot
          rw [rg_len] at h2
          omega
        refine ro_catTI (kTI.k (tp_same s5) hv4) hp5 (by show o.length + 1 ≤ _; omega) fun v9 H9 s9 h9 => ?_
        exact ⟨s5.trans s9, h9⟩
      · intro p ys H4 s4 n4 g4 h4
        rw [widen_app1, ← states_snoc hp] at h4
        exact ⟨p, ys, _, _, rfl, s3.trans s4, same_none (s1.trans s3) n4, g4, h4⟩
    · rintro σ' H3 ⟨l, us, v2, v3, rfl, s3, n3, g3, h3⟩
      have lx := hd.len
      rw [List.length_map] at lx
      rw [lx, List.take_length] at h3
      exact ⟨l, us, v2, v3, rfl, s1.trans s3, n3, g3, h3⟩
  rintro _ H2 ⟨l, us, v2, v3, rfl, s2, n2, g2, h2⟩
  tm_at "go"
  exact k _ _ _ s2 n2 g2 h2
def rSlist : List PyData → List St1 → Prop := fun ds es => ∃ (rs : List Row) (rest : List PyData), ds = [.tuple (cellsD rs :: rest)] ∧ Small rs ∧ es = statesOf (rg rs)
theorem ok_slist {f fd} (F : Fun M.K "state_list" "state_list" s_state_list f fd) (b : Bl M) (dr : Dc M "cell_ranges" ["cells"] 2 (spF rRanges M.K)) (dc : Dc M "_combined" ["ranges"] 1 (spLR TI rComb M.K)) : FnG M.prog M.w M.K M.mg M.base CX0 3 f fd ["program"] (spLR TI rSlist M.K) := by
  refine fn_ok F sc_state_list (fun vs H Q E h => ?_) (fun H vs Q E h => ?_)
  · obtain ⟨ds, d, h, ⟨rs, rest, rfl, _⟩, _⟩ := h
    exact h.len
  obtain ⟨ds, d, h, ⟨rs, rest, rfl, sm, rfl⟩, k⟩ := h
  obtain _ | ⟨hp, h⟩ := h
  cases h
  rename_i vp
  tm_at "go"
  refine e_callR dc ?_
  refine a_cons ?_
  refine e_callF dr ?_
  tm_at "go"
  refine rx_tup hp (d := cellsD rs) (pl_at (j := 0) rfl rfl) fun vc hc => ?_
  tm_at "go"
  refine ⟨_, _, .cons hc .nil, ⟨rs, rfl, Nat.le_trans sm.tot (by decide), rfl⟩, fun v2 H2 s2 h2 => ?_⟩
  refine a_nil ?_
  exact ⟨_, _, .cons h2 .nil, ⟨rs, rfl, sm, rfl⟩, fun l us H3 s3 n3 g3 h3 => k _ _ _ (s2.trans s3) (same_none s2 n3) g3 h3⟩
/-! a program: cells, rules, whatever else -/
def progD (rs : List Row) (rl : List Rl) (more : List PyData) : PyData := .tuple (cellsD rs :: .tuple (rl.map Rl.d) :: more)
def findR (rl : List Rl) (nm : Str) : Option Rl := rl.find? fun r => decide (r.name = nm)
end K

namespace G
open PySem PySem.Spec PyProof.Rows L2
/-! ### set(xs) of a list of ints, and sorted of it -/
section
variable {P : Program} {w : World} {A : Around} {E : Value → Shared → Prop} {s : Shared}
/-- the set before anything is put in -/
abbrev freshSet (w : World) : Obj := { cls := .type "set", dict := none, data := .set #[] 0 (.fresh 0 0 (!w.params.followText "set-order")) }
set_option maxRecDepth 100000 in
set_option maxHeartbeats 3200000 in
theorem call_setL {l : Addr} {items : Array Value} (ns : List Int) {Q : Value → Shared → Prop} (none_ : A.handled = none) (isL : s.heap.IsList l items) (its : IntsAre items.toList ns) (few : ns.length + 1 < scanBound)
    (go : ∀ (h2 : Heap) (tk c : Nat), SetR w h2 s.heap.objs.size (fun j => decide (j ∈ ns)) c → c ≤ ns.length → (∀ b o, s.heap.get? b = some o → h2.get? b = some o) → Q (.ref s.heap.objs.size) { s with heap := h2, toks := tk }) : wpAny (model P w) A (call (.type "set") [.ref l]) Q E s := by
  have size : items.size = ns.length := by
    have z := IntsAre.length its
    rwa [Array.length_toList] at z
  obtain ⟨c0, tl0, mro0⟩ := F.called_set.mro
  have made0 := F.called_set.made
  have sub0 := F.called_set.sub
  refine wpAny_call (codeAny_of_tree ?_)
  show wpAny _ _ (callAny (.type "set") _) _ _ _
  refine wpAny_pure ⟨Code.quiet_builtin _ (by decide +kernel), codeAny_builtin F.entry_type_call ?_⟩
  rw [Around.under_plain (weight_type_call_type "set" [.ref l] []) rfl]
  have n1 := F.called_set.notType
  have n2 := F.called_set.canCreate
  have n3 := F.typeCall_set_1 (.ref l)
  repeat (any_goals (first | assumption | wp_step))
  refine codeAny_mono (code_set_led1 (.ref l) (E := E) (Q₁ := fun ob t1 => ob = .ref s.heap.objs.size ∧ t1 = { s with heap := s.heap.push (freshSet w) }) ⟨rfl, rfl⟩) fun r t1 got => ?_
  match r, got with
  | .ok (.ret ob), got =>
    obtain ⟨rfl, rfl⟩ := got
    have here : (s.heap.push (freshSet w)).get? s.heap.objs.size = some (freshSet w) := Heap.get?_push_size _ rfl
    have kind : Shared.TypeIs { s with heap := s.heap.push (freshSet w) } (.ref s.heap.objs.size) "set" := ⟨_, here, rfl⟩
    have i1 := F.called_set.init.lookup
    have i2 := F.called_set.init.bind (.ref s.heap.objs.size)
    repeat (any_goals (first | assumption | wp_step))
    refine codeAny_mono (codeAny_call_builtin (R := wants (fun r t2 => r = .none ∧ ∃ h2 tk c, t2 = { s with heap := h2, toks := tk } ∧ SetR w h2 s.heap.objs.size (fun j => decide (j ∈ ns)) c ∧ c ≤ ns.length ∧ ∀ b o, s.heap.get? b = some o → h2.get? b = some o) E)
      F.called_set.init.plain F.entry_set_init (check_set_init_1 kind ?_)) fun r2 t2 got2 => ?_
    · obtain ⟨⟨oc, od, odat, osl⟩, at_, cl, nl, dl⟩ := isL
      obtain rfl : oc = .type "list" := cl
      obtain rfl : odat = .seq items nl := dl
      have at2 : (s.heap.push (freshSet w)).get? l = some ⟨.type "list", od, .seq items nl, osl⟩ := Heap.get?_push_of_some _ at_
      have u1 := F.sub_list_set
      have u2 := F.sub_list_frozenset
      have u3 : (Value.type "list" == Value.type "dict") = false := by decide
      have lst : (s.heap.push (freshSet w)).IsList l items := ⟨_, at2, rfl, nl, rfl⟩
      unfold Builtin.«set.__init__» noKeywords Builtin.Frozenset.updateFrom
      generalize ePI : pyIter = PI
      wp_walk
      subst ePI
      refine wpAny_pyIter_list lst ?_
      refine wpAny_bind (wpAny_runValue ?_)
      have lt0 : l < s.heap.objs.size := Heap.lt_size at_
      have none3 : A.in1.in1.in1.handled = none := by simp [none_]
      have apart : l ≠ (s.heap.push (freshSet w)).objs.size := by rw [Heap.size_push]; exact Nat.ne_of_lt (Nat.lt_succ_of_lt lt0)
      have outside : s.heap.objs.size ∉ [(s.heap.push (freshSet w)).objs.size, l] := by
        rw [Heap.size_push]
        simp only [List.mem_cons, List.mem_singleton, List.not_mem_nil, or_false, not_or]
        exact ⟨Nat.ne_of_lt (Nat.lt_succ_self _), Nat.ne_of_gt lt0⟩
      have each : ∀ (i : Nat) (v : Value), items[i]? = some v → ∃ k t, ns[i]? = some k ∧ v = .int k t := by
        intro i v hv
        have lt : i < ns.length := by rw [← size]; exact (Array.getElem?_eq_some_iff.mp hv).1
        obtain ⟨t, e⟩ := PyProof.Rows.IntsAre.int_at its i v (by rw [Array.getElem?_toList]; exact hv)
        refine ⟨ns[i], t, List.getElem?_eq_getElem lt, ?_⟩
        rw [e, List.getD_eq_getElem?_getD, List.getElem?_eq_getElem lt] <;> rfl
      have first_ : ((s.heap.push (freshSet w)).push { cls := .type "list_iterator", data := .fields #[.ref l, .int 0 0] }).get? s.heap.objs.size = some (freshSet w) := Heap.get?_push_of_some _ here
      refine set_update_ints ((Walks.list none3 _ l apart items).toS) s.heap.objs.size outside ns size few each (items.size - 0) 0 _ (by omega) (Nat.zero_le _) ⟨⟨_, Heap.get?_push_size _ rfl, rfl, rfl⟩, lst.push _⟩ ⟨0, Nat.le_refl 0, setR_new_at first_⟩ ?_
      intro s2 c2 moved le2 set2
      obtain ⟨h2, g2, d2, tk2, os2⟩ := s2
      obtain rfl : g2 = s.gens := moved.gens
      obtain rfl : d2 = s.drawn := moved.drawn
      obtain rfl : os2 = s.os := moved.os
      show wpAny _ _ _ _ _ _
      refine wpAny_pure ?_
      show wpAny _ _ (ret Value.none) _ _ _
      rw [size] at le2
      refine wpAny_pure ⟨rfl, h2, tk2, c2, rfl, set2, le2, fun b o e => ?_⟩
      have ltb : b < s.heap.objs.size := Heap.lt_size e
      have far : b ≠ (s.heap.push (freshSet w)).objs.size := by rw [Heap.size_push]; exact Nat.ne_of_lt (Nat.lt_succ_of_lt ltb)
      exact moved.heap b o (by simp only [List.mem_cons, List.mem_singleton, List.not_mem_nil, or_false, not_or]; exact ⟨Nat.ne_of_lt ltb, far⟩) (Heap.get?_push_of_some _ (Heap.get?_push_of_some _ e))
    · match r2, got2 with
      | .ok (.ret r3), got2 =>
        obtain ⟨rfl, h2, tk, c2, rfl, a1, a2, a3⟩ := got2
        repeat (any_goals (first | assumption | wp_step))
        exact go _ _ _ a1 a2 a3
      | .error e, got2 => exact got2
  | .error e, got => exact got
end
def rSetL (K : PySem.W.Frag) (w : World) : List V → Hp → VK → Prop := fun vs H Q => ∃ (l : Addr) (ns : List Int), vs = [.ref l] ∧ SqL K H l (ns.map V.int) ∧ ns.length ≤ 4000 ∧ ∀ (p : Addr) (n : Nat), H p = none → n ≤ ns.length → Q (.ref p) (upd H p (SetO w p (fun j => decide (j ∈ ns)) n))
theorem cr_setL {X : Cx} (calm : X.calm = true) : CallR X (.type "set") (rSetL X.K X.w) := by
  rintro pins s σ H vs us Q J rv ⟨l, ns, rfl, hl, few, k⟩
  obtain ⟨u, rfl, ru⟩ := vals1 rv
  cases ru
  obtain ⟨ws, rw0, pl, _⟩ := J.list hl
  refine call_setL ns (J.ok.hd calm) pl.isList (by simpa using RZ.intsAre_vals rw0) (by unfold scanBound; omega) fun h2 tk c a1 a2 a3 => ?_
  exact ⟨.ref s.heap.objs.size, _, J.laid (t' := tk) a3 (Nat.le_refl _) (setO_new a1), rfl, k _ c (J.hok.fresh (Nat.le_refl _)) a2⟩
section
variable {c : Cd} {H : Hp} {Q : VK}
theorem rc_setL {l : Addr} {ns : List Int} (hl : SqL c.K H l (ns.map V.int)) (few : ns.length ≤ 4000) (q : ∀ p n, H p = none → Q (.ref p) (upd H p (SetO c.w p (fun j => decide (j ∈ ns)) n))) : RC c (.type "set") [.ref l] H Q :=
  rc_of (r := rSetL c.K c.w) (fun X h => by rw [← h.K, ← h.w]; exact cr_setL h.calm) ⟨l, ns, rfl, hl, few, fun p n hp _ => q p n hp⟩
end
end G

namespace K
open PySem L2 G
variable {M : Md}
def rowsA : List Row := [("big", 0, 0, 1, false, true, 0), ("x", 0, 0, 3, true, false, 0)]
def rAdd : Rl := ⟨"add", .int 1, [(.nm "x", .bin "+" (.nm "x") (.int 1))]⟩
def rTwice : Rl := ⟨"twice", .int 1, [(.nm "x", .bin "*" (.nm "x") (.int 2))]⟩
def rSee : Rl := ⟨"see", .bin "<" (.int 2) (.nm "x"), [(.nm "big", .int 1)]⟩
theorem sw0 {ts vs : List Expr} {k1 k2 : Nat} {p1 p2 : Pos} (h : vs.all (foldedForSure 8) = true) (env : Env) : swappedStores [.Tuple ts k1 p1] (.Tuple vs k2 p2) env = pure none := by
  unfold swappedStores
  simp only [h]
  repeat (first | rfl | split)
structure RowsAll (rs : List Row) : Prop where
  sm : Small rs
  ri : RowsIn rs
  nd : (rs.map nameOf).Nodup
theorem rg_mem {rs : List Row} {p : Rng} (h : p ∈ rg rs) : ∃ r ∈ rs, p = (r.2.2.1, r.2.2.2.1) := by
  obtain ⟨r, hr, h2⟩ := List.mem_flatMap.mp h
  exact ⟨r, hr, (List.mem_replicate.mp h2).2⟩
theorem all_of (rs : List Row) (h : (decide (total rs ≤ 10) && (rg rs).all (fun p => decide (1 ≤ span p) && decide (-10 ≤ p.1) && decide (p.2 ≤ 10)) && decide (many (rg rs) ≤ 256) && decide (rs.length ≤ 10) && rs.all (fun r => PyData.strOk r.1) && decide (rs.map nameOf).Nodup) = true) : RowsAll rs := by
  simp only [Bool.and_eq_true, List.all_eq_true, decide_eq_true_eq] at h
  obtain ⟨⟨⟨⟨⟨h1, h2⟩, h3⟩, h4⟩, h5⟩, h6⟩ := h
  exact ⟨⟨h1, fun p hp => ⟨(h2 p hp).1.1, (h2 p hp).1.2, (h2 p hp).2⟩, h3⟩, ⟨h4, h5⟩, h6⟩
theorem fold_val (B : Int) : ∀ (ps : List Rng) (acc : List St1), (∀ p ∈ ps, -B ≤ p.1 ∧ p.2 ≤ B) → (∀ o ∈ acc, ∀ v ∈ o, -B ≤ v ∧ v ≤ B) → ∀ o ∈ ps.foldl widen acc, ∀ v ∈ o, -B ≤ v ∧ v ≤ B
  | [], acc, _, h => h
  | p :: ps, acc, hp, h => by
    refine fold_val B ps (widen acc p) (fun q hq => hp q (List.mem_cons_of_mem _ hq)) fun o ho v hv => ?_
    obtain ⟨o2, h2, h3⟩ := List.mem_flatMap.mp ho
    obtain ⟨t, ht, rfl⟩ := List.mem_map.mp h3
    have ht := List.mem_range.mp ht
    have hp1 := hp p (List.mem_cons_self ..)
    rcases List.mem_append.mp hv with hv | hv
    · exact h o2 h2 v hv
    · rw [List.mem_singleton.mp hv]
      unfold span at ht
      omega
/-- each value lies in its range -/
def Lies (qs : List Rng) (o : St1) : Prop := o.length = qs.length ∧ ∀ (i : Nat) (r : Rng), qs[i]? = some r → r.1 ≤ gt o i ∧ gt o i ≤ r.2
theorem lies_fold : ∀ (ps qs : List Rng) (acc : List St1), (∀ o ∈ acc, Lies qs o) → ∀ o ∈ ps.foldl widen acc, Lies (qs ++ ps) o
  | [], qs, acc, h => by rw [List.append_nil]; exact h
  | p :: ps, qs, acc, h => by
    have e : qs ++ p :: ps = (qs ++ [p]) ++ ps := by rw [List.append_assoc]; rfl
    rw [e]
    refine lies_fold ps (qs ++ [p]) (widen acc p) fun o ho => ?_
    obtain ⟨o2, h2, h3⟩ := List.mem_flatMap.mp ho
    obtain ⟨t, ht, rfl⟩ := List.mem_map.mp h3
    have ht := List.mem_range.mp ht
    obtain ⟨l2, g2⟩ := h o2 h2
    refine ⟨by rw [List.length_append, List.length_append, l2]; rfl, fun i r hr => ?_⟩
    unfold gt
    rw [Int.toNat_natCast, List.getD_eq_getElem?_getD]
    by_cases hi : i < qs.length
    · rw [List.getElem?_append_left hi] at hr
      have := g2 i r hr
      unfold gt at this
      rw [Int.toNat_natCast, List.getD_eq_getElem?_getD] at this
      rw [List.getElem?_append_left (by omega)]
      exact this
    · rw [List.getElem?_append_right (by omega)] at hr
      rw [List.getElem?_append_right (by omega), l2]
      have hi2 : i - qs.length = 0 := by
        have := (List.getElem?_eq_some_iff.mp hr).1
        rw [List.length_singleton] at this
        omega
      rw [hi2] at hr ⊢
      obtain rfl : p = r := Option.some.inj hr
      show p.1 ≤ p.1 + (t : Int) ∧ p.1 + (t : Int) ≤ p.2
      unfold span at ht
      omega
theorem states_ok {rs : List Row} (A : RowsAll rs) : ∀ st ∈ statesOf (rg rs), StOk rs st := by
  intro st hst
  refine ⟨by rw [states_mem hst, rg_len], fun v hv => ?_, A.sm.tot, A.nd, A.ri, ?_⟩
  · exact fold_val 10 (rg rs) [[]] (fun p hp => ⟨(A.sm.sp p hp).2.1, (A.sm.sp p hp).2.2⟩) (fun o ho v hv => by rw [List.mem_singleton.mp ho] at hv; cases hv) st hst v hv
  · have h0 := lies_fold (rg rs) [] [[]] (fun o ho => by rw [List.mem_singleton.mp ho]; exact ⟨rfl, fun i r hr => by simp at hr⟩) st hst
    exact h0.2
theorem fitB {rs : List Row} {s : Str} (h : (rs.any fun r => decide (r.1 = s) && decide (r.2.1 = 0)) = true) : ∃ r ∈ rs, r.1 = s ∧ r.2.1 = 0 := by
  obtain ⟨r, hr, h2⟩ := List.any_eq_true.mp h
  simp only [Bool.and_eq_true, decide_eq_true_eq] at h2
  exact ⟨r, hr, h2⟩
theorem fitC {rs : List Row} {s : Str} (h : (rs.any fun r => decide (r.1 = s) && decide (0 < r.2.1)) = true) : ∃ r ∈ rs, r.1 = s ∧ 0 < r.2.1 := by
  obtain ⟨r, hr, h2⟩ := List.any_eq_true.mp h
  simp only [Bool.and_eq_true, decide_eq_true_eq] at h2
  exact ⟨r, hr, h2⟩
def fitb (rs : List Row) : Ex → Bool
  | .int i => decide (-1000000 ≤ i ∧ i ≤ 1000000)
  | .nm s => rs.any fun r => decide (r.1 = s) && decide (r.2.1 = 0)
  | .at t e => (rs.any fun r => decide (r.1 = t) && decide (0 < r.2.1)) && fitb rs e
  | .un op e => decide (op ∈ uns) && fitb rs e
  | .bin op a b => decide (op ∈ bins) && (fitb rs a && fitb rs b)
  | .kk op e n => decide (op ∈ kks) && (fitb rs e && decide (1 ≤ n ∧ n ≤ 3))
  | .ite a b e => fitb rs a && (fitb rs b && fitb rs e)
theorem fitb_ok {rs : List Row} : ∀ e : Ex, fitb rs e = true → Fit rs e
  | .int i, h => by
    unfold fitb at h
    unfold Fit
    exact of_decide_eq_true h
  | .nm s, h => by unfold fitb at h; exact fitB h
  | .at t e, h => by
    unfold fitb at h
    rw [Bool.and_eq_true] at h
    exact ⟨fitC h.1, fitb_ok e h.2⟩
  | .un op e, h => by
    unfold fitb at h
    rw [Bool.and_eq_true] at h
    exact ⟨of_decide_eq_true h.1, fitb_ok e h.2⟩
  | .bin op a b, h => by
    unfold fitb at h
    rw [Bool.and_eq_true, Bool.and_eq_true] at h
    exact ⟨of_decide_eq_true h.1, fitb_ok a h.2.1, fitb_ok b h.2.2⟩
  | .kk op e n, h => by
    unfold fitb at h
    rw [Bool.and_eq_true, Bool.and_eq_true] at h
    exact ⟨of_decide_eq_true h.1, fitb_ok e h.2.1, of_decide_eq_true h.2.2⟩
  | .ite a b e, h => by
    unfold fitb at h
    rw [Bool.and_eq_true, Bool.and_eq_true] at h
    exact ⟨fitb_ok a h.1, fitb_ok b h.2.1, fitb_ok e h.2.2⟩
def fittb (rs : List Row) : Tg → Bool
  | .nm s => rs.any fun r => decide (r.1 = s) && decide (r.2.1 = 0)
  | .at t e => (rs.any fun r => decide (r.1 = t) && decide (0 < r.2.1)) && (fitb rs e && decide (e.dep ≤ 2))
theorem fittb_ok {rs : List Row} (t : Tg) (h : fittb rs t = true) : FitT rs t := by
  cases t with
  | nm s => exact fitB h
  | «at» t e =>
    unfold fittb at h
    rw [Bool.and_eq_true, Bool.and_eq_true] at h
    exact ⟨fitC h.1, fitb_ok e h.2.1, of_decide_eq_true h.2.2⟩
def rlb (rs : List Row) (r : Rl) : Bool := PyData.strOk r.name && (fitb rs r.guard && decide (r.guard.dep ≤ 4)) && decide (r.as.length ≤ 10) && decide (0 < r.as.length) && r.as.all fun p => fittb rs p.1 && (fitb rs p.2 && decide (p.2.dep ≤ 2))
theorem rlb_ok {rs : List Row} {r : Rl} (h : rlb rs r = true) : FitR rs r := by
  unfold rlb at h
  simp only [Bool.and_eq_true, List.all_eq_true, decide_eq_true_eq] at h
  obtain ⟨⟨⟨⟨h1, h2⟩, h3⟩, h4⟩, h5⟩ := h
  exact ⟨h1, ⟨fitb_ok _ h2.1, h2.2⟩, h3, fun e => by rw [e] at h4; exact absurd h4 (by decide), fun p hp => ⟨fittb_ok _ (h5 p hp).1, fitb_ok _ (h5 p hp).2.1, (h5 p hp).2.2⟩⟩
end K

namespace G
open PySem PySem.Spec PyProof.Rows L2
/-! ### t[::-1] of a tuple -/
theorem adj_back (n : Nat) : Builtin.Slice.sliceAdjust none none (-1) (n : Int) = ((n : Int) - 1, -1) := by
  unfold Builtin.Slice.sliceAdjust
  simp
theorem plc_back (n : Nat) : Builtin.Slice.slicePlaces ((n : Int) - 1) (-1) (-1) = n := by
  unfold Builtin.Slice.slicePlaces
  simp
  omega
theorem fm_congr {α β : Type} {f g : α → Option β} : ∀ {l : List α}, (∀ x ∈ l, f x = g x) → l.filterMap f = l.filterMap g
  | [], _ => rfl
  | x :: l, h => by rw [List.filterMap_cons, List.filterMap_cons, h x (List.mem_cons_self ..), fm_congr fun y hy => h y (List.mem_cons_of_mem _ hy)]
theorem pick_back (xs : Array Value) : ((List.range xs.size).filterMap fun (m : Nat) => xs[((xs.size : Int) - 1 + (m : Int) * (-1)).toNat]?) = xs.toList.reverse := by
  have e1 : ((List.range xs.size).filterMap fun (m : Nat) => xs[((xs.size : Int) - 1 + (m : Int) * (-1)).toNat]?) = (List.range xs.size).filterMap fun m => xs.toList.reverse[m]? := by
    refine fm_congr fun m hm => ?_
    have hlt := List.mem_range.mp hm
    rw [show ((xs.size : Int) - 1 + (m : Int) * (-1)).toNat = xs.size - 1 - m by omega, List.getElem?_reverse (by rw [Array.length_toList]; exact hlt), Array.length_toList, Array.getElem?_toList]
  have e2 : ∀ (l : List Value) (n : Nat), n = l.length → (List.range n).filterMap (fun m => l[m]?) = l := by
    intro l n h
    subst h
    refine List.ext_getElem? fun j => ?_
    have e3 : (List.range l.length).filterMap (fun m => l[m]?) = (List.range l.length).map fun m => l.getD m .none := by
      rw [← List.filterMap_eq_map]
      refine fm_congr fun m hm => ?_
      have hlt := List.mem_range.mp hm
      simp [List.getD, List.getElem?_eq_getElem hlt]
    rw [e3, List.getElem?_map]
    by_cases hj : j < l.length
    · rw [List.getElem?_range hj]
      simp [List.getD, List.getElem?_eq_getElem hj]
    · rw [List.getElem?_eq_none (by rw [List.length_range]; omega), List.getElem?_eq_none (by omega)]
      rfl
  rw [e1]
  exact e2 _ _ (by rw [List.length_reverse, Array.length_toList])
section
variable {prog : Program} {w : World} {A : Around} {E : Value → Shared → Prop} {s : Shared}
theorem applied_back {b : Addr} {step : Value} {n : Nat} {Q : Int × Int × Nat → Shared → Prop} (at_ : s.heap.IsSliceOf b .none .none step) (p : IsPart step (some (-1))) (k : Q ((n : Int) - 1, -1, n) s) : wpAny (model prog w) A (Builtin.Slice.sliceApplied (.ref b) (pure (n : Int))) Q E s := by
  obtain ⟨o, g1, g2, g3⟩ := id at_
  unfold Builtin.Slice.sliceApplied Builtin.Slice.sliceFields
  refine wpAny_bind (wpAny_bind (wpAny_field g1 g3 (x := .none) rfl ?_))
  refine wpAny_bind (wpAny_field g1 g3 (x := .none) rfl ?_)
  refine wpAny_bind (wpAny_field g1 g3 (x := step) rfl (wpAny_pure ?_))
  refine wpAny_bind (HT.slicePart_ p ?_)
  show wpAny _ _ (if ((-1 : Int) == 0) = true then _ else _) _ _ s
  rw [if_neg (by decide)]
  refine wpAny_bind (slicePart_none ?_)
  refine wpAny_bind (slicePart_none ?_)
  refine wpAny_bind (wpAny_pure ?_)
  show wpAny _ _ (match Builtin.Slice.sliceAdjust none none (-1) (n : Int) with | (lo, hi) => pure (lo, (-1 : Int), Builtin.Slice.slicePlaces lo hi (-1))) _ _ s
  rw [adj_back]
  show wpAny _ _ (pure ((n : Int) - 1, (-1 : Int), Builtin.Slice.slicePlaces ((n : Int) - 1) (-1) (-1))) _ _ s
  rw [plc_back]
  exact wpAny_pure k
theorem getItem_back {t b : Addr} {items : Array Value} {step : Value} {Q : Value → Shared → Prop} (ht : IsTup s.heap t items) (at_ : s.heap.IsSliceOf b .none .none step) (p : IsPart step (some (-1)))
    (k : Q (.ref s.heap.objs.size) { s with heap := s.heap.push { cls := .type "tuple", data := .seq items.toList.reverse.toArray } }) (fits : items.size ≤ sizeLine) : wpAny (model prog w) A (getItem (.ref t) (.ref b)) Q E s := by
  have room : sizeOk (.seq items.toList.reverse.toArray) := by
    show items.toList.reverse.toArray.size ≤ sizeLine
    rw [List.size_toArray, List.length_reverse, Array.length_toList]
    exact fits
  obtain ⟨o, g1, g2, g3⟩ := id at_
  have kind : s.TypeIs (.ref b) "slice" := ⟨o, g1, g2⟩
  unfold getItem
  try with_reducible refine wpAny_holding ?_
  first | refine wpAny_bind (wpAny_pure ?_) | skip
  refine wpAny_bind (wpAny_sequenceKey ht.typeIs (by decide) ?_)
  refine wpAny_bind (wpAny_callSpecial?_slot (name := Str.ofString "__getitem__") ht.typeIs slot_tuple_getitem (wpAny_call_entry slot_tuple_getitem ht.typeIs entry_tuple_getitem ?_ (args_tuple_getitem _ _)))
  show wpAny _ _ (Builtin.Tuple.tupleItemsOf (.ref t) >>= _) _ _ s
  refine wpAny_bind (tupleItemsOf_ ht (wpAny_bind (wpAny_typeOf kind ?_)))
  rw [if_pos (by decide)]
  refine wpAny_bind (applied_back at_ p ?_)
  show wpAny _ _ (if (((items.size : Int) - 1) == 0 && (-1 : Int) == 1 && items.size == items.size) = true then _ else _) _ _ s
  rw [if_neg (by simp), pick_back]
  first
    | exact wpAny_bind (m := Builtin.Tuple.tupleExact _) (wpAny_newObj_type (wpAny_pure ⟨_, rfl, wpAny_pure k⟩) room)
    | exact wpAny_bind (m := Builtin.Tuple.tupleExact _) (wpAny_newObj_type (wpAny_bind (wpAny_pure (wpAny_pure ⟨_, rfl, wpAny_pure k⟩))) room)
    | exact wpAny_bind (wpAny_bind (m := Builtin.Tuple.tupleExact _) (wpAny_newObj_type (wpAny_pure (wpAny_pure ⟨_, rfl, wpAny_pure k⟩)) room))
    | exact wpAny_bind (wpAny_bind (m := Builtin.Tuple.tupleExact _) (wpAny_newObj_type (wpAny_pure ⟨_, rfl, wpAny_pure k⟩) room))
end
def tRevT (K : PySem.W.Frag) (te : TE) : TE := fun σ H Q => te σ H fun x H1 => ∃ a xs, x = .ref a ∧ SqT K H1 a xs ∧ ∀ p, H1 p = none → Q (.ref p) (upd H1 p (.tup xs.reverse))
theorem pe_revT {X : Cx} {e : Expr} {te : TE} {k : Nat} {p1 p2 p3 pos : Pos} (he : PE X e te) : PE X (.Subscript e (.Slice none none (some (.UnaryOp .USub (.Constant (.int 1) k p1) p2)) p3) pos) (tRevT X.K te) := by
  constructor
  intro pins st σ H Q J z
  refine Subscript_ (thn (he.run pins st σ H _ J z) fun v s1 ⟨x, H1, J1, r1, a, xs, ex, hx, q⟩ => ?_)
  subst ex
  obtain rfl : v = Value.ref a := r1
  have third : PO X (some (.UnaryOp .USub (.Constant (.int 1) k p1) p2)) (tPart (tUn (rU fun i => .int (-i)) (tC (.int 1)))) := po_some (pe_un un_neg pe_int)
  refine wpAny_Slice (thn (po_none.run pins s1 σ H1 (fun o H2 => o = none ∧ H2 = H1) J1 ⟨rfl, rfl⟩) fun vl s2 ⟨l, H2, J2, pl, el, e2⟩ => ?_)
  subst el e2
  cases pl
  refine thn (po_none.run pins s2 σ H2 (fun o H3 => o = none ∧ H3 = H2) J2 ⟨rfl, rfl⟩) fun vu s3 ⟨u, H3, J3, pu, eu, e3⟩ => ?_
  subst eu e3
  cases pu
  refine thn (third.run pins s3 σ H3 (fun o H4 => o = some (-1) ∧ H4 = H3) J3 ⟨1, rfl, -1, rfl, rfl, rfl⟩) fun vs s4 ⟨o, H4, J4, ps, eo, e4⟩ => ?_
  subst eo e4
  have J5 : Inv X pins σ H4 { s4 with heap := s4.heap.push { cls := .type "slice", data := .fields #[.none, .none, vs] } } := J4.kept (t' := s4.toks) fun b ob q => Heap.get?_push_of_some _ q
  obtain ⟨its, r, ht, hz⟩ := J5.tuple hx
  have same := r.length
  show wpAny (model X.prog X.w) X.A (subscriptTail e (.Slice none none (some (.UnaryOp .USub (.Constant (.int 1) k p1) p2)) p3) (.ref a) (.ref s4.heap.objs.size)) (EP X pins σ Q) X.xe { s4 with heap := s4.heap.push { cls := .type "slice", data := .fields #[.none, .none, vs] } }
  refine tail_any (ops := [.ref a, .ref s4.heap.objs.size]) ht.typeIs slot_tuple_getitem.lookup ?_ (by with_unfolding_all rfl)
  refine getItem_back ht (Heap.IsSliceOf.new _ .none .none vs) ps ?_ (by rw [List.size_toArray]; omega)
  refine ⟨.ref _, _, J5.laid (t' := s4.toks) (o := .tup xs.reverse) (fun b ob q => Heap.get?_push_of_some _ q) (Nat.le_refl _) ?_, rfl, q _ (J5.hok.fresh (Nat.le_refl _))⟩
  exact ⟨by rw [List.length_reverse]; exact hz, _, r.reverse, IsTup.new _ _⟩
theorem DtAll.rev {K : PySem.W.Frag} {H : Hp} : ∀ {ds : List PyData} {vs : List V}, DtAll K H vs ds → DtAll K H vs.reverse ds.reverse
  | [], _, h => by cases h; exact .nil
  | d :: ds, _, h => by
    cases h with
    | cons h1 h2 =>
      rw [List.reverse_cons, List.reverse_cons]
      exact (DtAll.rev h2).app (.cons h1 .nil)
theorem e_revT {c : Cd} {σ : L2.St} {H : Hp} {Q : VK} {e : Expr} {k : Nat} {p1 p2 p3 pos : Pos} (q : RE c e σ H fun x H1 => ∃ ds, Dt c.K H1 x (.tuple ds) ∧ ∀ v H2, Same H1 H2 → Dt c.K H2 v (.tuple ds.reverse) → Q v H2) : RE c (.Subscript e (.Slice none none (some (.UnaryOp .USub (.Constant (.int 1) k p1) p2)) p3) pos) σ H Q := by
  refine re_of (t := tRevT c.K (RE c e)) (fun X h => by rw [← h.K]; exact pe_revT (pe_re h)) (RE.mono (fun x H1 z => ?_) q)
  obtain ⟨ds, hx, z⟩ := z
  obtain ⟨a, xs, rfl, ht, hd⟩ := hx.tupE
  exact ⟨a, xs, rfl, ht, fun p hp => z _ _ (same_new hp) (.tup (.of upd_same) (hd.rev.mono (tp_same (same_new hp))))⟩
end G

namespace G
open PySem PySem.Spec PyProof.Rows L2
theorem e_revL {c : Cd} {σ : L2.St} {H : Hp} {Q : VK} {e : Expr} {k : Nat} {p1 p2 p3 pos : Pos} (q : RE c e σ H fun x H1 => ∃ a xs, x = .ref a ∧ SqL c.K H1 a xs ∧ ∀ p H2, Same H1 H2 → H1 p = none → H2 p = some (.lst xs.reverse) → Q (.ref p) H2) : RE c (.Subscript e (.Slice none none (some (.UnaryOp .USub (.Constant (.int 1) k p1) p2)) p3) pos) σ H Q := by
  refine re_of (t := tRevL c.K (RE c e)) (fun X h => by rw [← h.K]; exact pe_revL (pe_re h)) (RE.mono (fun x H1 z => ?_) q)
  obtain ⟨a, xs, rfl, ht, z⟩ := z
  exact ⟨a, xs, rfl, ht, fun p hp => z p _ (same_new hp) hp upd_same⟩
end G
namespace K
open PySem PySem.Spec PyProof.Rows L2 G
variable {M : Md}
def rNamed : List PyData → PyData → Prop := fun ds d => ∃ (rs : List Row) (rl : List Rl) (more : List PyData) (nm : Str) (r : Rl), ds = [progD rs rl more, .str nm] ∧ findR rl nm = some r ∧ d = r.d
theorem findR_go {rl : List Rl} {nm : Str} {i : Nat} {r : Rl} (h : rl[i]? = some r) : findR (rl.drop i) nm = if r.name = nm then some r else findR (rl.drop (i + 1)) nm := by
  obtain ⟨h1, h2⟩ := List.getElem?_eq_some_iff.mp h
  rw [List.drop_eq_getElem_cons h1, h2]
  unfold findR
  rw [List.find?_cons]
  by_cases e : r.name = nm
  · rw [if_pos e, decide_eq_true e]
  · rw [if_neg e, decide_eq_false e]
/-! ### steps of the cells -/
def stp : List Rng → List (Nat × Nat)
  | [] => []
  | p :: ps => (many ps, span p) :: stp ps
theorem stp_len : ∀ ps : List Rng, (stp ps).length = ps.length
  | [] => rfl
  | p :: ps => congrArg Nat.succ (stp_len ps)
def stD2 (q : Nat × Nat) : PyData := .tuple [.int q.1, .int q.2]
def stepsD (ps : List Rng) : PyData := .tuple ((stp ps).map stD2)
def rSteps : List PyData → PyData → Prop := fun ds d => ∃ (rs : List Row) (rest : List PyData), ds = [.tuple (cellsD rs :: rest)] ∧ Small rs ∧ d = stepsD (rg rs)
theorem many_cons (p : Rng) (ps : List Rng) : many (p :: ps) = many ps * span p := by
  rw [show p :: ps = [p] ++ ps from rfl, many_app, Nat.mul_comm]
  congr 1
  exact Nat.one_mul _
theorem many_drop {ps : List Rng} (h : ∀ p ∈ ps, 1 ≤ span p) (i : Nat) : many (ps.drop i) ≤ many ps ∧ 1 ≤ many (ps.drop i) := by
  have pos : ∀ qs : List Rng, (∀ p ∈ qs, 1 ≤ span p) → 1 ≤ many qs := by
    intro qs
    induction qs with
    | nil => intro _; exact Nat.le_refl _
    | cons q qs ih =>
      intro hq
      rw [many_cons]
      exact Nat.mul_pos (ih fun p hp => hq p (List.mem_cons_of_mem _ hp)) (hq q (List.mem_cons_self ..))
  have hd := pos (ps.drop i) fun p hp => h p (List.mem_of_mem_drop hp)
  have ht := pos (ps.take i) fun p hp => h p (List.mem_of_mem_take hp)
  refine ⟨?_, hd⟩
  have e : many ps = many (ps.take i) * many (ps.drop i) := by rw [← many_app, List.take_append_drop]
  rw [e]
  exact Nat.le_mul_of_pos_left _ ht
/-! ### the state with the low value -/
def lw (n s m : Nat) : Nat := n - n / s % m * s
theorem lw_le (n s m : Nat) : lw n s m ≤ n := Nat.sub_le _ _
theorem low_le (n s m : Nat) : n / s % m * s ≤ n := Nat.le_trans (Nat.mul_le_mul_right s (Nat.mod_le _ _)) (Nat.div_mul_le_self n s)
theorem lw_int (n s m : Nat) : (n : Int) - (n : Int) / (s : Int) % (m : Int) * (s : Int) = ((lw n s m : Nat) : Int) := by
  have h := low_le n s m
  rw [← Int.natCast_ediv, ← Int.natCast_emod, ← Int.natCast_mul]
  unfold lw
  omega
def rLow : List PyData → PyData → Prop := fun ds d => ∃ n s m : Nat, ds = [.int n, .int s, .int m] ∧ (1 ≤ s ∧ s ≤ 256) ∧ (1 ≤ m ∧ m ≤ 256) ∧ d = .int (lw n s m : Nat)
end K

namespace K
open PySem PySem.Spec PyProof.Rows L2 G
variable {M : Md}
abbrev As := Option (List (Int × Int))
/-! ### what is assigned, compared -/
theorem eqv_ent (p q : Int × Int) : PyData.eqv (entD p) (entD q) = decide (p = q) := by
  obtain ⟨a, b⟩ := p
  obtain ⟨x, y⟩ := q
  unfold entD
  simp only [PyData.eqv, PyData.eqvAll]
  by_cases h1 : a = x
  · by_cases h2 : b = y
    · simp [h1, h2]
    · simp [h1, h2]
  · simp [h1]
theorem eqv_ents : ∀ es fs : List (Int × Int), PyData.eqvAll (es.map entD) (fs.map entD) = decide (es = fs)
  | [], [] => by simp [PyData.eqvAll]
  | [], _ :: _ => by simp [PyData.eqvAll]
  | _ :: _, [] => by simp [PyData.eqvAll]
  | p :: es, q :: fs => by
    rw [List.map_cons, List.map_cons]
    simp only [PyData.eqvAll, eqv_ent, eqv_ents es fs]
    by_cases h1 : p = q
    · by_cases h2 : es = fs
      · simp [h1, h2]
      · simp [h1, h2]
    · simp [h1]
theorem eqv_as (a b : As) : PyData.eqv (asgD a) (asgD b) = decide (a = b) := by
  cases a with
  | none =>
    cases b with
    | none => simp [asgD, PyData.eqv]
    | some b => simp [asgD, PyData.eqv]
  | some a =>
    cases b with
    | none => simp [asgD, PyData.eqv]
    | some b =>
      unfold asgD
      rw [show PyData.eqv (.tuple (a.map entD)) (.tuple (b.map entD)) = PyData.eqvAll (a.map entD) (b.map entD) from by simp only [PyData.eqv], eqv_ents]
      by_cases h : a = b
      · rw [decide_eq_true h, decide_eq_true (by rw [h])]
      · rw [decide_eq_false h, decide_eq_false fun e => h (Option.some.inj e)]
theorem sh_as (a : As) : Shp 5 (asgD a) := by
  cases a with
  | none => exact shp_non
  | some es =>
    refine shp_tup fun d hd => ?_
    obtain ⟨p, _, rfl⟩ := List.mem_map.mp hd
    refine shp_tup fun d hd => ?_
    rcases List.mem_cons.mp hd with rfl | hd
    · exact shp_int _
    · rw [List.mem_singleton.mp hd]; exact shp_int _
/-! ### two states that show that a cell is read -/
def rdp (es : List As) (s m : Nat) : Option Nat := (List.range es.length).find? fun n => decide (es.getD n none ≠ es.getD (lw n s m) none)
def rpD (s m : Nat) : Option Nat → PyData
  | none => .none
  | some n => .tuple [.int (lw n s m : Nat), .int (n : Nat)]
theorem rdp_some {es : List As} {s m n : Nat} (hn : n < es.length) (h : es.getD n none ≠ es.getD (lw n s m) none) (hb : ∀ j, j < n → es.getD j none = es.getD (lw j s m) none) : rdp es s m = some n := by
  unfold rdp
  rw [List.find?_eq_some_iff_append]
  refine ⟨decide_eq_true h, List.range n, (List.range (es.length - n - 1)).map (n + 1 + ·), ?_, fun a ha => ?_⟩
  · have e : es.length = n + (1 + (es.length - n - 1)) := by omega
    conv => lhs; rw [e, List.range_add, List.range_add, List.map_append]
    simp [List.map_map]
    intro a _
    omega
  · rw [hb a (List.mem_range.mp ha)]
    simp
theorem rdp_none {es : List As} {s m : Nat} (hb : ∀ j, j < es.length → es.getD j none = es.getD (lw j s m) none) : rdp es s m = none := by
  unfold rdp
  rw [List.find?_eq_none]
  intro a ha
  rw [hb a (List.mem_range.mp ha)]
  simp
theorem rdp_iff {es : List As} {s m : Nat} : (rdp es s m).isSome = true ↔ ∃ n, n < es.length ∧ es.getD n none ≠ es.getD (lw n s m) none := by
  unfold rdp
  rw [List.find?_isSome]
  constructor
  · rintro ⟨n, h1, h2⟩
    exact ⟨n, List.mem_range.mp h1, of_decide_eq_true h2⟩
  · rintro ⟨n, h1, h2⟩
    exact ⟨n, List.mem_range.mpr h1, decide_eq_true h2⟩
def rRp : List PyData → PyData → Prop := fun ds d => ∃ (es : List As) (s m : Nat), ds = [.tuple (es.map asgD), .int s, .int m] ∧ (1 ≤ s ∧ s ≤ 256) ∧ (1 ≤ m ∧ m ≤ 256) ∧ d = rpD s m (rdp es s m)
theorem as_at {es : List As} {n : Nat} (h : n < es.length) : (es.map asgD)[n]? = some (asgD (es.getD n none)) := by
  rw [List.getElem?_map, List.getElem?_eq_getElem h, List.getD_eq_getElem?_getD, List.getElem?_eq_getElem h]
  rfl
structure Bl3 (M : Md) : Prop where
  enum : M.mg "enumerate" = none
  zip : M.mg "zip" = none
/-! ### the cells that are changed -/
def chg (st : St1) : As → List Int
  | none => []
  | some es => (es.filter fun p => decide (gt st p.1 ≠ p.2)).map (·.1)
def inC (n : Nat) : As → Prop
  | none => True
  | some es => ∀ p ∈ es, 0 ≤ p.1 ∧ p.1 < n
def rChg : List PyData → List PyData → Prop := fun ds es => ∃ (st : St1) (a : As), ds = [stD st, asgD a] ∧ inC st.length a ∧ (∀ l, a = some l → l.length ≤ 100) ∧ es = (chg st a).map .int
def gChg (st : St1) : PyData → Option PyData
  | .tuple [.int i, .int v] => if gt st i ≠ v then some (.int i) else none
  | _ => none
theorem gChg_all (st : St1) (es : List (Int × Int)) : (es.map entD).filterMap (gChg st) = ((es.filter fun p => decide (gt st p.1 ≠ p.2)).map (·.1)).map .int := by
  induction es with
  | nil => rfl
  | cons p es ih =>
    rw [List.map_cons, List.filterMap_cons, List.filter_cons]
    have e : gChg st (entD p) = if gt st p.1 ≠ p.2 then some (PyData.int p.1) else none := rfl
    rw [e]
    by_cases h : gt st p.1 ≠ p.2
    · rw [if_pos h, if_pos (decide_eq_true h), List.map_cons, List.map_cons, ← ih]
    · rw [if_neg h, if_neg (by simpa using h), ← ih]
theorem st_at {st : St1} {j : Int} (h0 : 0 ≤ j) (h1 : j < st.length) : atI (st.map PyData.int) j = some (.int (gt st j)) := by
  have hlt : j.toNat < st.length := by omega
  refine pl_at (j := j.toNat) (by omega) ?_
  rw [List.getElem?_map, List.getElem?_eq_getElem hlt]
  unfold gt
  rw [List.getD_eq_getElem?_getD, List.getElem?_eq_getElem hlt]
  rfl
end K

namespace G
open PySem PySem.Spec PyProof.Rows L2
section
variable {c : Cd} {σ : L2.St} {H : Hp} {Q : VK} {pos : Pos} {elt : Expr} {ifs : List Expr} {scope : Scope} {vs : List Nat} {α β : Type}
def outsE (g : Nat → α → Option β) (as : List α) : List β := as.zipIdx.filterMap fun p => g p.2 p.1
theorem outsE_snoc {g : Nat → α → Option β} {as : List α} {i : Nat} {a : α} (h : as[i]? = some a) : outsE g (as.take i) ++ (g i a).toList = outsE g (as.take (i + 1)) := by
  obtain ⟨h1, rfl⟩ := List.getElem?_eq_some_iff.mp h
  unfold outsE
  rw [List.take_succ_eq_append_getElem h1, List.zipIdx_append, List.filterMap_append]
  congr 1
  simp [Nat.min_eq_left (Nat.le_of_lt h1)]
  cases e : g i as[i] <;> simp [List.filterMap_cons, e]
/-- [.. for k, x in enumerate(tuple) if ..] -/
theorem lcE_R {R : Hp → V → α → Prop} {S : Hp → V → β → Prop} (kR : Keeps R) (kS : Keeps S) (g : Nat → α → Option β) {e : Expr} {p ppos tpos : Pos} {elts : List Expr} {kk : Nat} (hm : c.mg "enumerate" = none)
    (q : RE c e σ H fun x H1 => ∃ b ys as, x = .ref b ∧ SqT c.K H1 b ys ∧ RAll R H1 ys as ∧ as.length ≤ 1000 ∧ (∀ i a T v H', as[i]? = some a → Same H1 H' → H' T = some (.tup [.int (i : Nat), v]) → R H' v a → TurnR (blkCd c scope) (.Tuple elts kk tpos) ifs elt vs σ S (.ref T) H' (g i a)) ∧
      ∀ p us H2, Same H1 H2 → H1 p = none → H2 p = some (.lst us) → RAll S H2 us (outsE g as) → Q (.ref p) H2)
    (hg : c.sc.names.lookup ("enumerate" : Str) = some .globalImplicit := by rfl) (hs : ∀ env, starEach [e] env = [(false, eval e env)] := by intro _; rfl) :
    tLc (RI c (.Tuple elts kk tpos) (.Call (.Name "enumerate" p) [e] [] ppos)) (RG (blkCd c scope) (.Tuple elts kk tpos)) (RTs (blkCd c scope) ifs) (RE (blkCd c scope) elt) vs σ H Q := by
  refine i_enumT hm (RE.mono (fun x H1 z => ?_) q) hg hs
  obtain ⟨b, ys, as, rfl, ht, hd, few, tn, k⟩ := z
  have hl := hd.len
  refine ⟨b, ys, rfl, ht, fun D hD => ⟨fun i m H' => m = as.length - i ∧ i ≤ as.length ∧ ∃ acc, acc.length ≤ i ∧ H' D = some (.lst acc) ∧ Same H1 H' ∧ RAll S H' acc (outsE g (as.take i)), ⟨_, rfl, Nat.zero_le _, [], Nat.le_refl _, upd_same, same_new hD, .nil⟩, ?_⟩⟩
  rintro i m H' ⟨rfl, hi, acc, la, hA, s, hr⟩
  by_cases more : i < as.length
  · refine .inr ⟨⟨ys, (tp_same s).sqt ht, rfl, by omega⟩, fun H' => ∃ acc, acc.length ≤ i + 1 ∧ H' D = some (.lst acc) ∧ Same H1 H' ∧ RAll S H' acc (outsE g (as.take (i + 1))), fun H' z => ⟨as.length - (i + 1), by omega, rfl, more, z⟩, fun x H2 got => ?_⟩
    obtain ⟨T, y, rfl, hT, rfl, hyy⟩ := got
    obtain ⟨v, hv, dv⟩ := hd.get (List.getElem?_eq_getElem more)
    have := hyy ys ((tp_same s).sqt ht)
    rw [hv] at this
    cases this
    have sn := same_new (o := .tup [.int (i : Nat), y]) hT
    have ea := List.getElem?_eq_getElem more
    have TT := TurnR.one kS hD (s.trans sn) (sn _ _ hA) (hr.mono kS (tp_same sn)) (tn i _ T y _ ea (s.trans sn) upd_same (kR.k (tp_same (s.trans sn)) dv))
    refine RG.mono (fun σ2 H2 z => ⟨z.1, RTs.mono (fun b H3 z => ?_) z.2⟩) TT
    cases b with
    | true => exact RE.mono (fun y H4 z => ⟨acc, z.1, Nat.lt_of_le_of_lt la (Nat.lt_of_lt_of_le more (Nat.le_trans few (by decide))), acc ++ [y], by rw [List.length_append, List.length_singleton]; omega, z.2.1, z.2.2.1, by rw [← outsE_snoc ea]; exact z.2.2.2⟩) z
    | false => exact ⟨acc, by omega, z.1, z.2.1, by rw [← outsE_snoc ea]; exact z.2.2⟩
  · obtain rfl : i = as.length := by omega
    rw [List.take_length] at hr
    exact .inl ⟨⟨ys, (tp_same s).sqt ht, rfl, by omega⟩, k D acc H' s hD hA hr⟩
end
end G
namespace K
open PySem PySem.Spec PyProof.Rows L2 G
variable {M : Md}
def ents (rs : List Row) (r : Rl) : List As := (statesOf (rg rs)).map fun st => asg rs st r
structure PgOk (rs : List Row) (rl : List Rl) (nm : Str) (r : Rl) : Prop where
  all : RowsAll rs
  fnd : findR rl nm = some r
  fit : FitR rs r
theorem sts_len {rs : List Row} (A : RowsAll rs) : (statesOf (rg rs)).length ≤ 256 := by rw [states_len]; exact A.sm.many
theorem ents_len {rs : List Row} (A : RowsAll rs) (r : Rl) : (ents rs r).length ≤ 256 := by unfold ents; rw [List.length_map]; exact sts_len A
def rEnts : List PyData → PyData → Prop := fun ds d => ∃ (rs : List Row) (rl : List Rl) (more : List PyData) (nm : Str) (r : Rl), ds = [progD rs rl more, .str nm] ∧ PgOk rs rl nm r ∧ d = .tuple ((ents rs r).map asgD)
abbrev dcNamed (M : Md) : Prop := Dc M "rule_named" ["program", "name"] 1 (spF rNamed M.K)
abbrev dcSl (M : Md) : Prop := Dc M "state_list" ["program"] 3 (spLR TI rSlist M.K)
theorem fm_some {α β : Type} (g : α → β) (l : List α) : l.filterMap (fun a => some (g a)) = l.map g := by
  induction l with
  | nil => rfl
  | cons a l ih => rw [List.filterMap_cons, List.map_cons, ← ih]
def gRd (es : List As) : Nat → Nat × Nat → Option Int := fun i q => if (rdp es q.1 q.2).isSome = true then some (i : Int) else none
def rds (rs : List Row) (r : Rl) : List Int := outsE (gRd (ents rs r)) (stp (rg rs))
def iR : Hp → V → Int → Prop := fun _ v i => v = .int i
theorem kiR : Keeps iR := ⟨fun _ h => h⟩
theorem iR_ints {H : Hp} {vs : List V} {is : List Int} (h : RAll iR H vs is) : vs = is.map V.int := by
  induction h with
  | nil => rfl
  | cons h _ ih => rw [show _ = V.int _ from h, ih]; rfl
def qR (K : PySem.W.Frag) : Hp → V → Nat × Nat → Prop := fun H v q => Dt K H v (stD2 q)
theorem kqR {K : PySem.W.Frag} : Keeps (qR K) := ⟨fun t h => Dt.mono t h⟩
theorem RAll.ofD {α : Type} {K : PySem.W.Frag} {H : Hp} {g : α → PyData} : ∀ {as : List α} {vs : List V}, DtAll K H vs (as.map g) → RAll (fun H v a => Dt K H v (g a)) H vs as
  | [], _, h => by cases h; exact .nil
  | a :: as, _, h => by
    cases h with
    | cons h1 h2 => exact .cons h1 (RAll.ofD h2)
def intsD (is : List Int) : PyData := .tuple (is.map .int)
theorem stp_in : ∀ {ps : List Rng}, (∀ p ∈ ps, 1 ≤ span p) → ∀ q ∈ stp ps, (1 ≤ q.1 ∧ q.1 ≤ many ps) ∧ (1 ≤ q.2 ∧ q.2 ≤ many ps)
  | [], _, q, hq => nomatch hq
  | p :: ps, h, q, hq => by
    have hp := h p (List.mem_cons_self ..)
    have ht := fun x hx => h x (List.mem_cons_of_mem p hx)
    obtain ⟨_, m2⟩ := many_drop (ps := ps) ht 0
    rw [List.drop_zero] at m2
    rw [many_cons]
    have a1 := Nat.le_mul_of_pos_right (many ps) hp
    have a2 := Nat.le_mul_of_pos_left (span p) m2
    rcases List.mem_cons.mp hq with rfl | hq
    · exact ⟨⟨m2, a1⟩, ⟨hp, a2⟩⟩
    · obtain ⟨⟨b1, b2⟩, b3, b4⟩ := stp_in ht q hq
      exact ⟨⟨b1, Nat.le_trans b2 a1⟩, ⟨b3, Nat.le_trans b4 a1⟩⟩
def rReads : List PyData → PyData → Prop := fun ds d => ∃ (rs : List Row) (rl : List Rl) (more : List PyData) (nm : Str) (r : Rl), ds = [progD rs rl more, .str nm] ∧ PgOk rs rl nm r ∧ d = intsD (rds rs r)
end K

namespace G
open PySem PySem.Spec PyProof.Rows L2
def rSetD (K : PySem.W.Frag) (w : World) : List V → Hp → VK → Prop := fun vs H Q => ∃ (l : Addr) (ns : List Int), vs = [.ref l] ∧ SqL K H l (ns.map V.int) ∧ ns.length ≤ 4000 ∧ ∀ (p : Addr) (ks : List Int), H p = none → ks.Nodup → (∀ k, k ∈ ks ↔ k ∈ ns) → Q (.ref p) (upd H p (SetO w p (fun j => decide (j ∈ ns)) ks.length))
theorem cr_setD {X : Cx} (calm : X.calm = true) : CallR X (.type "set") (rSetD X.K X.w) := by
  rintro pins s σ H vs us Q J rv ⟨l, ns, rfl, hl, few, k⟩
  obtain ⟨u, rfl, ru⟩ := vals1 rv
  cases ru
  obtain ⟨ws, rw0, pl, _⟩ := J.list hl
  refine call_setL ns (J.ok.hd calm) pl.isList (by simpa using RZ.intsAre_vals rw0) (by unfold scanBound; omega) fun h2 tk c a1 a2 a3 => ?_
  obtain ⟨o, es, ep, t, ho, _, _, _, nd, mem, _, _, hn, _⟩ := id a1
  have e : (es.toList.map keyOf).length = c := by rw [List.length_map, Array.length_toList]; exact hn
  have q := k s.heap.objs.size (es.toList.map keyOf) (J.hok.fresh (Nat.le_refl _)) nd fun j => by rw [← mem j]; simp
  rw [e] at q
  exact ⟨.ref s.heap.objs.size, _, J.laid (t' := tk) a3 (Nat.le_refl _) (setO_new a1), rfl, q⟩
/-- sorted(set(xs)) of a list of ints with few values -/
theorem rc_sortedSet {c : Cd} {H : Hp} {Q : VK} {a : Addr} {S : Int → Bool} {n : Nat} (ha : H a = some (SetO c.w a S n)) (few : n < 64) (q : ∀ (ns : List Int) p, ns.Pairwise (· < ·) → (∀ k : Int, k ∈ ns ↔ S k = true) → H p = none → Q (.ref p) (upd H p (.lst (ns.map V.int)))) : RC c (.builtin "sorted") [.ref a] H Q :=
  rc_of (r := rSortedSet c.w) (fun X h => by rw [← h.w]; exact cr_sortedSet h.calm) ⟨a, S, n, rfl, ha, few, fun ns p h1 h2 _ h4 => q ns p h1 h2 h4⟩
theorem rc_setD {c : Cd} {H : Hp} {Q : VK} {l : Addr} {ns : List Int} (hl : SqL c.K H l (ns.map V.int)) (few : ns.length ≤ 4000) (q : ∀ p (ks : List Int), H p = none → ks.Nodup → (∀ k, k ∈ ks ↔ k ∈ ns) → Q (.ref p) (upd H p (SetO c.w p (fun j => decide (j ∈ ns)) ks.length))) : RC c (.type "set") [.ref l] H Q :=
  rc_of (r := rSetD c.K c.w) (fun X h => by rw [← h.K, ← h.w]; exact cr_setD h.calm) ⟨l, ns, rfl, hl, few, q⟩
end G
namespace K
open PySem PySem.Spec PyProof.Rows L2 G
variable {M : Md}
theorem srt_uniq : ∀ {a b : List Int}, a.Pairwise (· < ·) → b.Pairwise (· < ·) → (∀ k, k ∈ a ↔ k ∈ b) → a = b
  | [], [], _, _, _ => rfl
  | [], y :: b, _, _, h => by have := (h y).mpr (List.mem_cons_self ..); cases this
  | x :: a, [], _, _, h => by have := (h x).mp (List.mem_cons_self ..); cases this
  | x :: a, y :: b, ha, hb, h => by
    obtain ⟨ha1, ha2⟩ := List.pairwise_cons.mp ha
    obtain ⟨hb1, hb2⟩ := List.pairwise_cons.mp hb
    have exy : x = y := by
      rcases List.mem_cons.mp ((h x).mp (List.mem_cons_self ..)) with e | e
      · exact e
      · rcases List.mem_cons.mp ((h y).mpr (List.mem_cons_self ..)) with e2 | e2
        · exact e2.symm
        · have := hb1 x e; have := ha1 y e2; omega
    subst exy
    congr 1
    refine srt_uniq ha2 hb2 fun k => ⟨fun hk => ?_, fun hk => ?_⟩
    · rcases List.mem_cons.mp ((h k).mp (List.mem_cons_of_mem _ hk)) with e | e
      · have := ha1 k hk; omega
      · exact e
    · rcases List.mem_cons.mp ((h k).mpr (List.mem_cons_of_mem _ hk)) with e | e
      · have := hb1 k hk; omega
      · exact e
/-- the ascending list of the numbers below n of which p is true -/
def upto (n : Nat) (p : Int → Bool) : List Int := ((List.range n).map fun i : Nat => (i : Int)).filter p
theorem upto_pw (n : Nat) (p : Int → Bool) : (upto n p).Pairwise (· < ·) := by
  refine List.Pairwise.sublist List.filter_sublist ?_
  rw [List.pairwise_map]
  exact List.pairwise_lt_range.imp fun h => by omega
theorem upto_mem {n : Nat} {p : Int → Bool} {k : Int} : k ∈ upto n p ↔ (0 ≤ k ∧ k < n) ∧ p k = true := by
  unfold upto
  rw [List.mem_filter, List.mem_map]
  constructor
  · rintro ⟨⟨i, hi, rfl⟩, h⟩
    have := List.mem_range.mp hi
    exact ⟨by omega, h⟩
  · rintro ⟨⟨h0, h1⟩, h⟩
    exact ⟨⟨k.toNat, List.mem_range.mpr (by omega), by omega⟩, h⟩
def cgs (rs : List Row) (r : Rl) : List Int := upto (total rs) fun c => (statesOf (rg rs)).any fun st => decide (c ∈ chg st (asg rs st r))
theorem asg_inC {rs : List Row} {st : St1} (S : StOk rs st) (r : Rl) (F : FitR rs r) : inC st.length (asg rs st r) ∧ ∀ l, asg rs st r = some l → l.length ≤ 100 := by
  cases e : asg rs st r with
  | none => exact ⟨trivial, fun l h => by cases h⟩
  | some es =>
    obtain ⟨h1, h2, _⟩ := asg_in e
    refine ⟨fun p hp => ?_, fun l h => ?_⟩
    · rw [S.len]; exact (h1 p hp).1
    · cases h
      have := F.len
      omega
theorem chg_in {st : St1} {a : As} {n : Nat} (h : inC n a) : ∀ c ∈ chg st a, 0 ≤ c ∧ c < n := by
  cases a with
  | none => intro c hc; cases hc
  | some es =>
    intro c hc
    obtain ⟨p, hp, rfl⟩ := List.mem_map.mp hc
    exact h p (List.mem_filter.mp hp).1
theorem chg_len {rs : List Row} {st : St1} {r : Rl} (F : FitR rs r) : (chg st (asg rs st r)).length ≤ 10 := by
  cases e : asg rs st r with
  | none => exact Nat.zero_le _
  | some es =>
    obtain ⟨_, h2, _⟩ := asg_in e
    have := F.len
    unfold chg
    rw [List.length_map]
    exact Nat.le_trans (List.length_filter_le _ _) (by omega)
def asR (K : PySem.W.Frag) : Hp → V → As → Prop := fun H v a => Dt K H v (asgD a)
theorem kasR {K : PySem.W.Frag} : Keeps (asR K) := ⟨fun t h => Dt.mono t h⟩
def chgAll (rs : List Row) (r : Rl) (sts : List St1) : List Int := sts.flatMap fun st => chg st (asg rs st r)
theorem chgAll_len {rs : List Row} {r : Rl} (F : FitR rs r) : ∀ sts : List St1, (chgAll rs r sts).length ≤ 10 * sts.length
  | [] => Nat.le_refl _
  | st :: sts => by
    have h1 := chg_len (st := st) F
    have h2 := chgAll_len F sts
    unfold chgAll at h2 ⊢
    rw [List.flatMap_cons, List.length_append, List.length_cons]
    omega
theorem few_of {n : Nat} {ks : List Int} (nd : ks.Nodup) (h : ∀ k ∈ ks, 0 ≤ k ∧ k < n) : ks.length ≤ n := by
  have h2 := nat_nodup_len (ks.map Int.toNat) (List.range n) (by
    have : ∀ {l : List Int}, l.Nodup → (∀ k ∈ l, 0 ≤ k) → (l.map Int.toNat).Nodup := by
      intro l
      induction l with
      | nil => intro _ _; exact List.nodup_nil
      | cons x l ih =>
        intro hn hp
        obtain ⟨a, b⟩ := List.nodup_cons.mp hn
        rw [List.map_cons, List.nodup_cons]
        refine ⟨fun hm => ?_, ih b fun k hk => hp k (List.mem_cons_of_mem _ hk)⟩
        obtain ⟨y, hy, e⟩ := List.mem_map.mp hm
        have h1 := hp x (List.mem_cons_self ..)
        have h2 := hp y (List.mem_cons_of_mem _ hy)
        have : y = x := by omega
        exact a (this ▸ hy)
    exact this nd fun k hk => (h k hk).1) fun x hx => by
      obtain ⟨k, hk, rfl⟩ := List.mem_map.mp hx
      have := h k hk
      exact List.mem_range.mpr (by omega)
  rw [List.length_map, List.length_range] at h2
  exact h2
def rChanges : List PyData → PyData → Prop := fun ds d => ∃ (rs : List Row) (rl : List Rl) (more : List PyData) (nm : Str) (r : Rl), ds = [progD rs rl more, .str nm] ∧ PgOk rs rl nm r ∧ d = intsD (cgs rs r)
end K

namespace K
open PySem PySem.Spec PyProof.Rows L2 G
variable {M : Md}
/-! ### the states as keys, their numbers -/
def numF : List St1 → Nat → List (List Key × V)
  | [], _ => []
  | s :: ss, n => (keyI s, .int n) :: numF ss (n + 1)
theorem numF_app : ∀ (a b : List St1) (n : Nat), numF (a ++ b) n = numF a n ++ numF b (n + a.length)
  | [], b, n => by simp [numF]
  | s :: a, b, n => by
    rw [List.cons_append, numF, numF, numF_app a b (n + 1), List.length_cons, List.cons_append]
    congr 3
    omega
theorem numF_len : ∀ (a : List St1) (n : Nat), (numF a n).length = a.length
  | [], _ => rfl
  | _ :: a, n => congrArg Nat.succ (numF_len a (n + 1))
theorem numF_none : ∀ {a : List St1} {n : Nat} {o : St1}, o ∉ a → valV (numF a n) (keyI o) = none
  | [], _, _, _ => valV_nil
  | s :: a, n, o, h => by
    rw [numF, valV_neg fun e => h (by rw [keyI_inj e]; exact List.mem_cons_self ..)]
    exact numF_none fun z => h (List.mem_cons_of_mem _ z)
theorem numF_val : ∀ {a : List St1} {n : Nat} {o : St1}, o ∈ a → valV (numF a n) (keyI o) = some (.int ((n + a.idxOf o : Nat) : Int))
  | s :: a, n, o, h => by
    rw [numF, List.idxOf_cons]
    by_cases e : s = o
    · subst e
      rw [valV_pos rfl]
      simp
    · rw [valV_neg fun z => e (keyI_inj z)]
      rcases List.mem_cons.mp h with rfl | h
      · exact absurd rfl e
      · rw [numF_val h]
        have : (s == o) = false := by simpa using e
        rw [this]
        simp only [cond_false]
        congr 3
        omega
theorem numF_put {a : List St1} {o : St1} (h : o ∉ a) : putK (numF a 0) (keyI o) (.int (a.length : Nat)) = numF (a ++ [o]) 0 := by
  rw [putK_new _ (numF_none h), numF_app]
  simp [numF]
/-- the states -/
theorem widen_nd {acc : List St1} (h : acc.Nodup) (p : Rng) : (widen acc p).Nodup := by
  unfold widen List.Nodup
  rw [List.pairwise_flatMap]
  refine ⟨fun o _ => ?_, h.imp fun {o o'} hne x hx y hy e => ?_⟩
  · rw [List.pairwise_map]
    refine List.pairwise_lt_range.imp fun {a b} hlt e => ?_
    have := List.append_cancel_left e
    have := (List.cons.inj this).1
    omega
  · obtain ⟨a, _, rfl⟩ := List.mem_map.mp hx
    obtain ⟨b, _, rfl⟩ := List.mem_map.mp hy
    exact hne (List.append_inj_left' e rfl)
theorem sts_nd (ps : List Rng) : (statesOf ps).Nodup := by
  have : ∀ (ps : List Rng) (acc : List St1), acc.Nodup → (ps.foldl widen acc).Nodup := by
    intro ps
    induction ps with
    | nil => intro acc h; exact h
    | cons p ps ih => intro acc h; exact ih _ (widen_nd h p)
  exact this ps [[]] (by simp)
def InR : List Rng → List Int → Prop
  | [], [] => True
  | p :: ps, v :: t => (p.1 ≤ v ∧ v ≤ p.2) ∧ InR ps t
  | _, _ => False
theorem inR_mem : ∀ (ps : List Rng) (acc : List St1) (o t : List Int), o ∈ acc → InR ps t → o ++ t ∈ ps.foldl widen acc
  | [], acc, o, [], h, _ => by rw [List.append_nil]; exact h
  | p :: ps, acc, o, v :: t, h, hr => by
    obtain ⟨hv, hr⟩ := hr
    rw [show o ++ v :: t = (o ++ [v]) ++ t by simp]
    refine inR_mem ps (widen acc p) (o ++ [v]) t ?_ hr
    refine List.mem_flatMap.mpr ⟨o, h, List.mem_map.mpr ⟨(v - p.1).toNat, List.mem_range.mpr (by unfold span; omega), ?_⟩⟩
    have : p.1 + ((v - p.1).toNat : Int) = v := by omega
    rw [this]
  | [], acc, o, _ :: _, _, hr => hr.elim
  | _ :: _, acc, o, [], _, hr => hr.elim
theorem inR_of : ∀ (ps : List Rng) (o : St1), o.length = ps.length → (∀ (i : Nat) (r : Rng), ps[i]? = some r → r.1 ≤ gt o i ∧ gt o i ≤ r.2) → InR ps o
  | [], [], _, _ => trivial
  | p :: ps, v :: o, h, hr => by
    refine ⟨hr 0 p rfl, inR_of ps o (Nat.succ.inj h) fun i r hi => ?_⟩
    have := hr (i + 1) r (by simpa using hi)
    unfold gt at this ⊢
    rw [Int.toNat_natCast] at this ⊢
    simpa using this
  | [], _ :: _, h, _ => by cases h
  | _ :: _, [], h, _ => by cases h
theorem stok_mem {rs : List Row} {st : St1} (h : st.length = total rs) (hr : ∀ (i : Nat) (r : Rng), (rg rs)[i]? = some r → r.1 ≤ gt st i ∧ gt st i ≤ r.2) : st ∈ statesOf (rg rs) := by
  have := inR_mem (rg rs) [[]] [] st (List.mem_singleton.mpr rfl) (inR_of _ _ (by rw [h, rg_len]) hr)
  exact this
theorem gt_set {st : St1} {j i : Nat} {v : Int} : gt (st.set j v) (i : Int) = if j = i ∧ i < st.length then v else gt st i := by
  unfold gt
  rw [Int.toNat_natCast, List.getD_eq_getElem?_getD, List.getD_eq_getElem?_getD, List.getElem?_set]
  by_cases h : j = i
  · subst h
    by_cases h2 : j < st.length
    · rw [if_pos rfl, if_pos h2, if_pos ⟨rfl, h2⟩]; rfl
    · rw [if_pos rfl, if_neg h2, if_neg fun z => h2 z.2, List.getElem?_eq_none (by omega)]
  · rw [if_neg h, if_neg fun z => h z.1]
theorem fold_rng {rs : List Row} : ∀ (es : List (Int × Int)) (st : St1), (∀ p ∈ es, (0 ≤ p.1 ∧ p.1 < total rs) ∧ inR rs p = true) → (∀ (i : Nat) (r : Rng), (rg rs)[i]? = some r → r.1 ≤ gt st i ∧ gt st i ≤ r.2) → ∀ (i : Nat) (r : Rng), (rg rs)[i]? = some r → r.1 ≤ gt (es.foldl setAt st) i ∧ gt (es.foldl setAt st) i ≤ r.2
  | [], st, _, h => h
  | p :: es, st, hp, h => by
    refine fold_rng es (setAt st p) (fun q hq => hp q (List.mem_cons_of_mem _ hq)) fun i r hi => ?_
    obtain ⟨⟨h0, h1⟩, hr⟩ := hp p (List.mem_cons_self ..)
    unfold setAt
    rw [gt_set]
    by_cases e : p.1.toNat = i ∧ i < st.length
    · rw [if_pos e]
      unfold inR at hr
      rw [e.1, hi] at hr
      simpa using hr
    · rw [if_neg e]
      exact h i r hi
theorem beh_mem {rs : List Row} {st : St1} (S : StOk rs st) (r : Rl) : beh rs st r ∈ statesOf (rg rs) := by
  unfold beh
  cases e : asg rs st r with
  | none => exact stok_mem S.len S.rng
  | some es =>
    obtain ⟨hin, _⟩ := asg_in e
    exact stok_mem (by show (es.foldl setAt st).length = _; rw [setAt_len, S.len]) (fold_rng es st hin S.rng)
def num (rs : List Row) (st : St1) : Int := (((statesOf (rg rs)).idxOf st : Nat) : Int)
def mvs (rs : List Row) (r : Rl) : List Int := (statesOf (rg rs)).map fun st => num rs (beh rs st r)
end K
namespace G
open PySem PySem.Spec PyProof.Rows L2
/-- {st: k for k, st in enumerate(list)} -/
theorem dcT_enum {c : Cd} {σ : L2.St} {H : Hp} {Q : VK} {kx vx e : Expr} {p ppos tpos : Pos} {elts : List Expr} {kk : Nat} {scope : Scope} {vs : List Nat} (hm : c.mg "enumerate" = none)
    (q : RE c e σ H fun x H1 => ∃ b us sts, x = .ref b ∧ SqL c.K H1 b us ∧ RAll K.TI H1 us sts ∧ sts.length ≤ 1000 ∧ sts.Nodup ∧ (∀ i st T v H', sts[i]? = some st → Same H1 H' → H' T = some (.tup [.int (i : Nat), v]) → K.TI H' v st → RG (blkCd c scope) (.Tuple elts kk tpos) (.ref T) (wipe σ vs) H' fun σ2 H2 => H2 = H' ∧ wipe σ2 vs = wipe σ vs ∧
        RE (blkCd c scope) kx σ2 H2 fun y H3 => y = v ∧ H3 = H2 ∧ RE (blkCd c scope) vx σ2 H3 fun z H4 => z = .int (i : Nat) ∧ H4 = H2) ∧ ∀ D H2, Same H1 H2 → H1 D = none → H2 D = some (.dT (K.numF sts 0)) → Q (.ref D) H2)
    (hg : c.sc.names.lookup ("enumerate" : Str) = some .globalImplicit := by rfl) (hs : ∀ env, starEach [e] env = [(false, eval e env)] := by intro _; rfl) :
    tDcT (RI c (.Tuple elts kk tpos) (.Call (.Name "enumerate" p) [e] [] ppos)) (RG (blkCd c scope) (.Tuple elts kk tpos)) (RTs (blkCd c scope) []) (RE (blkCd c scope) kx) (RE (blkCd c scope) vx) vs σ H Q := by
  refine i_enumL hm (RE.mono (fun x H1 z => ?_) q) hg hs
  obtain ⟨b, us, sts, rfl, ht, hd, few, nd, tn, k⟩ := z
  have hl := hd.len
  refine ⟨b, us, rfl, ht, fun D hD => ⟨fun i m H' => m = sts.length - i ∧ i ≤ sts.length ∧ H' D = some (.dT (K.numF (sts.take i) 0)) ∧ Same H1 H', ⟨_, rfl, Nat.zero_le _, upd_same, same_new hD⟩, ?_⟩⟩
  rintro i m H' ⟨rfl, hi, hA, s⟩
  by_cases more : i < sts.length
  · refine .inr ⟨⟨us, us[i], s.seq ht, List.getElem?_eq_getElem (by omega)⟩, fun H' => H' D = some (.dT (K.numF (sts.take (i + 1)) 0)) ∧ Same H1 H', fun H' z => ⟨sts.length - (i + 1), by omega, rfl, more, z⟩, fun x H2 got => ?_⟩
    obtain ⟨T, y, rfl, hT, rfl, hyy⟩ := got
    obtain ⟨v, hv, dv⟩ := hd.get (List.getElem?_eq_getElem more)
    have := hyy us (s.seq ht)
    rw [hv] at this
    cases this
    have sn := same_new (o := .tup [.int (i : Nat), y]) hT
    have ea := List.getElem?_eq_getElem more
    refine RG.mono (fun σ2 H2 z => ?_) (tn i _ T y _ ea (s.trans sn) upd_same (K.kTI.k (tp_same (s.trans sn)) dv))
    obtain ⟨rfl, z1, z⟩ := z
    refine ⟨z1, ts_nil (ift (RE.mono (fun y' H3 z => ?_) z))⟩
    obtain ⟨rfl, rfl, z⟩ := z
    refine RE.mono (fun z' H4 z => ?_) z
    obtain ⟨rfl, rfl⟩ := z
    obtain ⟨a, rfl, ha⟩ := K.kTI.k (tp_same (s.trans sn)) dv
    have nm : sts[i] ∉ sts.take i := by
      intro hm
      have h2 : (sts.take i ++ [sts[i]]).Nodup := by
        rw [← List.take_succ_eq_append_getElem more]
        exact nd.sublist (List.take_sublist _ _)
      rw [List.nodup_append] at h2
      exact h2.2.2 _ hm _ (List.mem_singleton.mpr rfl) rfl
    refine ⟨_, K.keyI sts[i], a, rfl, K.TI.key ha, sn _ _ hA, Nat.lt_of_le_of_lt (show (K.numF (sts.take i) 0).length ≤ 1000 by rw [K.numF_len, List.length_take]; omega) (by decide), ?_, same_mut (s.trans sn) hD⟩
    have e := K.numF_put nm
    rw [List.length_take, Nat.min_eq_left (Nat.le_of_lt more)] at e
    rw [e, ← List.take_succ_eq_append_getElem more]
    exact upd_same
  · obtain rfl : i = sts.length := by omega
    rw [List.take_length] at hA
    exact .inl ⟨⟨us, s.seq ht, by omega⟩, k D H' s hD hA⟩
end G
namespace K
open PySem PySem.Spec PyProof.Rows L2 G
variable {M : Md}
def rMoves : List PyData → PyData → Prop := fun ds d => ∃ (rs : List Row) (rl : List Rl) (more : List PyData) (nm : Str) (r : Rl), ds = [progD rs rl more, .str nm] ∧ PgOk rs rl nm r ∧ d = intsD (mvs rs r)
/-- a def that changes nothing and answers with a tuple of ints, as it is kept -/
def spT (R : List PyData → List Int → Prop) (K : PySem.W.Frag) : Sp := fun vs H Q _ => ∃ ds ns, DtAll K H vs ds ∧ R ds ns ∧ ∀ v H', Same H H' → TI H' v ns → Q v H'
theorem e_callTI {c : Cd} {σ : L2.St} {H : Hp} {Q : VK} {pos : Pos} {x : Str} {p : Pos} {e : Expr} {es : List Expr} {ps : List Str} {k : Nat} {R : List PyData → List Int → Prop} (D : Dc c.toMd x ps k (spT R c.K)) (q : RA c (e :: es) σ H fun vs H1 => ∃ ds ns, DtAll c.K H1 vs ds ∧ R ds ns ∧ ∀ v H', Same H1 H' → TI H' v ns → Q v H') (hk : k ≤ c.k := by exact Nat.le_of_ble_eq_true rfl) (hg : c.sc.names.lookup x = some .globalImplicit := by rfl)
    (hdb : (x == ("__debug__" : Str)) = false := by decide) (he : ∀ env, starEach (e :: es) env = (false, eval e env) :: starEach es env := by intro _; rfl) (hpl : ∀ env, (backTo pos (starEach es env)).any (·.1) = false := by intro _; rfl) :
    RE c (.Call (.Name x p) (e :: es) [] pos) σ H Q := e_call D q hk hg hdb he hpl
theorem rc_tupTI {c : Cd} {H : Hp} {Q : VK} {p : Addr} {ns : List Int} (hl : SqL c.K H p (ns.map V.int)) (q : ∀ v H2, Same H H2 → TI H2 v ns → Q v H2) : RC c (.type "tuple") [.ref p] H Q :=
  rc_of (r := fun xs H Q => ∃ p ys, xs = [.ref p] ∧ ((SqL c.K H p ys ∧ ∀ l, H l = none → Q (.ref l) (upd H l (.tup ys))) ∨ (SqT c.K H p ys ∧ Q (.ref p) H))) (fun X h => by rw [← h.K]; exact call_tuple_of) ⟨p, _, rfl, .inl ⟨hl, fun l hn => q _ _ (same_new hn) ⟨l, rfl, upd_same⟩⟩⟩
def rWaI : List PyData → List Int → Prop := fun ds d => ∃ (rs : List Row) (st : St1) (r : Rl), ds = [stD st, asgD (asg rs st r)] ∧ StOk rs st ∧ FitR rs r ∧ d = beh rs st r
def rBehI : List PyData → List Int → Prop := fun ds d => ∃ (rs : List Row) (st : St1) (r : Rl), ds = [cellsD rs, r.d, stD st] ∧ StOk rs st ∧ FitR rs r ∧ d = beh rs st r
end K

namespace K
open PySem L2 G
variable {M : Md}
end K

namespace G
open PySem PySem.Spec PyProof.Rows L2
theorem In.app {K0 : PySem.W.Frag} {fp cl l : Addr} {us : List V} {H H1 : Hp} (i : K.In K0 fp cl l us H H1) (v : V) : K.In K0 fp cl l (us ++ [v]) H (upd H1 l (.lst (us ++ [v]))) :=
  ⟨kp_mut i.kp i.n, i.fd.upd i.ne i.nc, i.nc, upd_same, i.n, i.ne⟩
theorem inI (w : Int) (l : List Int) : inV (.int w) (l.map .int) = decide (w ∈ l) := by
  unfold inV
  rw [Bool.eq_iff_iff, List.any_eq_true, decide_eq_true_iff]
  constructor
  · rintro ⟨y, hy, h⟩
    obtain ⟨z, hz, rfl⟩ := List.mem_map.mp hy
    have : z = w := by simpa [eqV] using h
    rw [← this]; exact hz
  · intro h
    exact ⟨.int w, List.mem_map.mpr ⟨w, h, rfl⟩, by simp [eqV]⟩
theorem ro_inIT {c : Cd} {H : Hp} {Q : VK} {y : V} {w : Int} {ws : List Int} (hx : Dt c.K H y (.tuple (ws.map .int))) (q : Q (.bl (decide (w ∈ ws))) H) : RQ c .In (.int w) y H Q := by
  obtain ⟨a, xs, rfl, ht, hd⟩ := hx.tupE
  obtain rfl := K.dtInts_eq hd
  refine rq_of (r := rIn c.K false) (fun X h => by rw [← h.K]; exact op_in_seq) ⟨a, _, rfl, .inr ht, rfl, by simp [flatV], ?_⟩
  show Q (.bl (inV (.int w) (ws.map .int))) H
  rw [inI]
  exact q
theorem e_popAt {c : Cd} {σ : L2.St} {H : Hp} {Q : VK} {pos : Pos} {o e : Expr} {apos : Pos} (q : RE c o σ H fun x H1 => ∃ l zs, x = .ref l ∧ H1 l = some (.lst zs) ∧ RE c e σ H1 fun y H2 => ∃ (ys : List V) (i : Int) (v : V), y = .int i ∧ H2 l = some (.lst ys) ∧ 0 ≤ i ∧ i < ys.length ∧ ys.length ≤ 100000 ∧ ys[i.toNat]? = some v ∧ Q v (upd H2 l (.lst (ys.eraseIdx i.toNat))))
    (hbase : ∀ env, attributeBase o "pop" env (eval o env) = eval o env := by intro _; rfl)
    (hfew : ∀ env, ((backTo pos (starEach [e] env)).all (fun x => !x.1) && (backToKw pos (keywordEach [] env)).all (fun x => x.1.isSome)
      && decide (([e] : List Expr).length + ([] : List Keyword).length + (if ([] : List Keyword).isEmpty then 0 else 1) < 30)) = true := by intro _; rfl)
    (hline : (apos.endLine == pos.line) = true := by rfl) (hs : ∀ env, starEach [e] env = (false, eval e env) :: starEach [] env := by intro _; rfl) (hplain : ∀ env, (backTo pos (starEach [] env)).any (·.1) = false := by intro _; rfl) :
    RE c (.Call (.Attribute o "pop" apos) [e] [] pos) σ H Q := by
  refine e_bm PySem.F.plainAttrs_list PySem.F.slot_list_pop PySem.F.type_list_pop (RE.mono (fun x H1 z => ?_) q) hbase hfew hline hs hplain
  obtain ⟨l, zs, rfl, hl, z⟩ := z
  refine ⟨Or.inl ⟨rfl, _, Or.inl (Or.inl hl)⟩, a_cons (RE.mono (fun y H2 z => a_nil ?_) z) hs⟩
  obtain ⟨ys, i, v, rfl, hl, h0, h1, hz, hv, z⟩ := z
  refine rm_of (fun X h => mt_popAt) ⟨l, ys, i, i.toNat, v, rfl, rfl, hl, by omega, by omega, ?_, hv, z⟩
  unfold seqIndex?
  have e1 : (if i < 0 then i + (ys.length : Int) else i) = i := if_neg (by omega)
  simp only [e1]
  rw [if_pos (by simp; omega)]
theorem e_insert {c : Cd} {σ : L2.St} {H : Hp} {Q : VK} {pos : Pos} {o e1 e2 : Expr} {apos : Pos} (q : RE c o σ H fun x H1 => ∃ l zs, x = .ref l ∧ H1 l = some (.lst zs) ∧ RE c e1 σ H1 fun y H2 => RE c e2 σ H2 fun y2 H3 => ∃ (ys : List V) (i : Int), y = .int i ∧ H3 l = some (.lst ys) ∧ 0 ≤ i ∧ i ≤ 100000 ∧ ys.length ≤ 100000 ∧ Q .non (upd H3 l (.lst (ys.take i.toNat ++ [y2] ++ ys.drop i.toNat))))
    (hbase : ∀ env, attributeBase o "insert" env (eval o env) = eval o env := by intro _; rfl)
    (hfew : ∀ env, ((backTo pos (starEach [e1, e2] env)).all (fun x => !x.1) && (backToKw pos (keywordEach [] env)).all (fun x => x.1.isSome)
      && decide (([e1, e2] : List Expr).length + ([] : List Keyword).length + (if ([] : List Keyword).isEmpty then 0 else 1) < 30)) = true := by intro _; rfl)
    (hline : (apos.endLine == pos.line) = true := by rfl) (hs : ∀ env, starEach [e1, e2] env = (false, eval e1 env) :: starEach [e2] env := by intro _; rfl) (hs2 : ∀ env, starEach [e2] env = (false, eval e2 env) :: starEach [] env := by intro _; rfl) (hplain : ∀ env, (backTo pos (starEach [e2] env)).any (·.1) = false := by intro _; rfl) :
    RE c (.Call (.Attribute o "insert" apos) [e1, e2] [] pos) σ H Q := by
  refine e_bm PySem.F.plainAttrs_list PySem.F.slot_list_insert PySem.F.type_list_insert (RE.mono (fun x H1 z => ?_) q) hbase hfew hline hs hplain
  obtain ⟨l, zs, rfl, hl, z⟩ := z
  refine ⟨Or.inl ⟨rfl, _, Or.inl (Or.inl hl)⟩, a_cons (RE.mono (fun y H2 z => a_cons (RE.mono (fun y2 H3 z => a_nil ?_) z) hs2) z) hs⟩
  obtain ⟨ys, i, rfl, hl, h0, h1, hz, z⟩ := z
  exact rm_of (fun X h => mt_insert) ⟨l, ys, i, y2, rfl, rfl, hl, Nat.lt_of_le_of_lt hz (by decide), h0, by omega, z⟩
end G
namespace K
open PySem PySem.Spec PyProof.Rows L2 G
variable {M : Md}
abbrev dcDraw (M : Md) : Prop := Dc M "_law_draw" ["_law_feed_here", "_law_many_here"] 1 (spD preDraw rDraw M.K)
/-- one of some things, in a list of ours or a tuple -/
def spAny (K : PySem.W.Frag) : Sp := fun vs H Q _ => ∃ fd cl l us ds, vs = [.ref fd, .ref l] ∧ Feed K H fd cl ∧ ((H l = some (.lst us) ∧ l ≠ fd) ∨ SqT K H l us) ∧ DtAll K H us ds ∧ 0 < ds.length ∧ ds.length < 1000 ∧
  ∀ d v H', d ∈ ds → Kp fd H H' → Feed K H' fd cl → Dt K H' v d → Q v H'
theorem e_drawV {c : Cd} {σ : L2.St} {H : Hp} {Q : VK} {pos : Pos} (D : dcDraw c.toMd) {e1 e2 : Expr} {p : Pos} (q : RE c e1 σ H fun x H1 => RE c e2 σ H1 fun y H2 => ∃ (fp cl : Addr) (m : Int), x = .ref fp ∧ y = .int m ∧ (0 < m ∧ m < 1000) ∧ Feed c.K H2 fp cl ∧ ∀ r H3, 0 ≤ r → r < m → Kp fp H2 H3 → Feed c.K H3 fp cl → Q (.int r) H3)
    (hk : 1 ≤ c.k := by exact Nat.le_of_ble_eq_true rfl) (hg : c.sc.names.lookup ("_law_draw" : Str) = some .globalImplicit := by rfl) (h1 : ∀ env, starEach [e1, e2] env = (false, eval e1 env) :: starEach [e2] env := by intro _; rfl) (h2 : ∀ env, starEach [e2] env = (false, eval e2 env) :: starEach [] env := by intro _; rfl) (hpl : ∀ env, (backTo pos (starEach [e2] env)).any (·.1) = false := by intro _; rfl) :
    RE c (.Call (.Name "_law_draw" p) [e1, e2] [] pos) σ H Q := by
  refine e_call D (a_cons (RE.mono (fun x H1 z => a_cons (RE.mono (fun y H2 z => a_nil ?_) z) h2) q) h1) hk hg (by decide) h1 hpl
  obtain ⟨fp, cl, m, rfl, rfl, hm, hf, k⟩ := z
  refine ⟨fp, cl, _, _, rfl, hf, .cons (.int m) .nil, ⟨m, rfl, hm⟩, ?_⟩
  rintro d v H3 ⟨m', r, hm', rfl, r0, r1⟩ k3 f3 hv
  cases hm'
  cases hv
  exact k r H3 r0 r1 k3 f3
theorem ok_any {f fd} (F : Fun M.K "_law_any" "_law_any" s__law_any f fd) (b : Bl M) (dd : dcDraw M) : FnG M.prog M.w M.K M.mg M.base CX0 2 f fd ["_law_feed_here", "_law_some"] (spAny M.K) := by
  refine fn_ok F sc__law_any (fun vs H Q E h => ?_) (fun H vs Q E h => ?_)
  · obtain ⟨_, _, _, _, _, rfl, _⟩ := h
    rfl
  obtain ⟨fp, cl, l, us, ds, rfl, hf, hl, hd, d0, d1, k⟩ := h
  have len := hd.len
  refine b_one (s_ret (e_ix (e_var (by tm_at "at") ?_)))
  refine e_drawV dd ?_
  tm_at "go"
  have fin : ∀ r H3, 0 ≤ r → r < (us.length : Int) → Kp fp H H3 → Feed M.K H3 fp cl → RX ⟨M, N__law_any, defScope s__law_any, 1, true, false, none⟩ (.ref l) (.int r) H3 Q := by
    intro r H3 r0 r1 k3 f3
    have lt : r.toNat < ds.length := by omega
    obtain ⟨v, hv, dv⟩ := hd.get (List.getElem?_eq_getElem lt)
    have q := k _ v H3 (List.getElem_mem lt) k3 f3 (dv.mono k3.t)
    rcases hl with ⟨hl, ne⟩ | ht
    · exact rx_list (.of (k3.k _ _ ne hl)) (pl_at (j := r.toNat) (by omega) hv) q
    · exact rx_of (r := rIxT M.K) (fun X h => by rw [← h.K]; exact ix_tup) ⟨l, us, r, v, rfl, rfl, k3.t.sqt ht, pl_at (j := r.toNat) (by omega) hv, q⟩
  rcases id hl with ⟨hl, ne⟩ | ht
  · refine rc_lenL (.of hl) ?_
    exact ⟨fp, cl, _, rfl, rfl, by omega, hf, fin⟩
  · refine rc_lenT (.tup ht hd) ?_
    rw [← len]
    exact ⟨fp, cl, _, rfl, rfl, by omega, hf, fin⟩
theorem e_any {c : Cd} {σ : L2.St} {H : Hp} {Q : VK} {pos : Pos} (D : Dc c.toMd "_law_any" ["_law_feed_here", "_law_some"] 2 (spAny c.K)) {e1 e2 : Expr} {p : Pos} (q : RE c e1 σ H fun x H1 => RE c e2 σ H1 fun y H2 => ∃ (fp cl l : Addr) (us : List V) (ds : List PyData), x = .ref fp ∧ y = .ref l ∧ Feed c.K H2 fp cl ∧ ((H2 l = some (.lst us) ∧ l ≠ fp) ∨ SqT c.K H2 l us) ∧ DtAll c.K H2 us ds ∧ 0 < ds.length ∧ ds.length < 1000 ∧ ∀ d v H', d ∈ ds → Kp fp H2 H' → Feed c.K H' fp cl → Dt c.K H' v d → Q v H')
    (hk : 2 ≤ c.k := by exact Nat.le_of_ble_eq_true rfl) (hg : c.sc.names.lookup ("_law_any" : Str) = some .globalImplicit := by rfl) (h1 : ∀ env, starEach [e1, e2] env = (false, eval e1 env) :: starEach [e2] env := by intro _; rfl) (h2 : ∀ env, starEach [e2] env = (false, eval e2 env) :: starEach [] env := by intro _; rfl) (hpl : ∀ env, (backTo pos (starEach [e2] env)).any (·.1) = false := by intro _; rfl) :
    RE c (.Call (.Name "_law_any" p) [e1, e2] [] pos) σ H Q := by
  refine e_call D (a_cons (RE.mono (fun x H1 z => a_cons (RE.mono (fun y H2 z => a_nil ?_) z) h2) q) h1) hk hg (by decide) h1 hpl
  obtain ⟨fp, cl, l, us, ds, rfl, rfl, hf, hl, hd, d0, d1, k⟩ := z
  exact ⟨fp, cl, l, us, ds, rfl, hf, hl, hd, d0, d1, k⟩
theorem erase_map {α β : Type} (f : α → β) : ∀ (l : List α) (j : Nat), (l.map f).eraseIdx j = (l.eraseIdx j).map f
  | [], _ => rfl
  | _ :: _, 0 => rfl
  | a :: l, j + 1 => by
    show f a :: (l.map f).eraseIdx j = f a :: (l.eraseIdx j).map f
    rw [erase_map f l j]
/-! ### names of rules -/
def names5 : List Str := ["a", "go", "pair", "x", "zzzzzzzz"]
def spNames (K : PySem.W.Frag) : Sp := fun vs H Q _ => ∃ (fd cl : Addr) (m : Int), vs = [.ref fd, .int m] ∧ Feed K H fd cl ∧ (1 ≤ m ∧ m ≤ 4) ∧
  ∀ (l : Addr) (ns : List Str) (H' : Hp), ns.Sublist names5 → 1 ≤ ns.length → ns.length ≤ m → Kp fd H H' → Feed K H' fd cl → H l = none → H' l = some (.lst (ns.map V.str)) → l ≠ cl → l ≠ fd → Q (.ref l) H'
theorem ok_nm {f fd} (F : Fun M.K "_law_names" "_law_names" s__law_names f fd) (b : Bl M) (dd : dcDraw M) : FnG M.prog M.w M.K M.mg M.base CX0 2 f fd ["_law_feed_here", "_law_most"] (spNames M.K) := by
  refine fn_ok F sc__law_names (fun vs H Q E h => ?_) (fun H vs Q E h => ?_)
  · obtain ⟨_, _, _, rfl, _⟩ := h
    rfl
  obtain ⟨fp, cl, m, rfl, hf, hm, k⟩ := h
  refine b_cons (s_set (by tm_at "at") (e_lstD ?_))
  tm_at "go"
  refine ⟨by decide, fun l H1 s1 n1 g1 => ?_⟩
  have ne := ne_feed hf (Same.refl _) n1
  have nc := ne_cl hf (Same.refl _) n1
  refine b_cons (s_set (by tm_at "at") ?_)
  refine e_bin (e_int (e_drawV dd ?_))
  tm_at "go"
  refine ⟨fp, cl, m, rfl, rfl, by omega, hf.same s1, fun r H2 r0 r1 k2 f2 => ?_⟩
  tm_at "run"
  have g2 := k2.k _ _ ne g1
  have nF : H l = none := n1
  refine b_cons (s_while (fun n σ1 H' => ∃ ns : List Str, n = ns.length ∧ σ1 = [some (.ref fp), some (.int m), some (.ref l), some (.int (1 + r))] ∧ Kp fp H H' ∧ Feed M.K H' fp cl ∧ H' l = some (.lst (ns.map V.str)) ∧ ns.Sublist names5 ∧ 1 + r ≤ ns.length) 5 ⟨names5, rfl, rfl, (kp_same s1).trans k2, f2, g2, List.Sublist.refl _, by show 1 + r ≤ 5; omega⟩ ?_)
  rintro n σ' H' ⟨ns, rfl, rfl, kp, ff, gg, sub, le⟩
  have l5 := sub.length_le
  have l5 : ns.length ≤ 5 := l5
  refine t_cmp ?_
  tm_at "go"
  refine rc_lenL (.of gg) ?_
  rw [List.length_map]
  tm_at "go"
  refine ifd (fun c1 => ?_) (fun c1 => ?_)
  · refine b_one (s_expr (e_popAt (e_var (by tm_at "at") ⟨l, _, rfl, gg, ?_⟩)))
    refine e_drawV dd ?_
    tm_at "go"
    refine rc_lenL (.of gg) ?_
    rw [List.length_map]
    refine ⟨fp, cl, _, rfl, rfl, by omega, ff, fun q H3 q0 q1 k3 f3 => ?_⟩
    have g3 := k3.k _ _ ne gg
    have lt : q.toNat < ns.length := by omega
    refine ⟨_, q, .str ns[q.toNat], rfl, g3, q0, by rw [List.length_map]; exact q1, by rw [List.length_map]; omega, by rw [List.getElem?_map, List.getElem?_eq_getElem lt]; rfl, ?_⟩
    refine ⟨ns.length - 1, by omega, ns.eraseIdx q.toNat, by rw [List.length_eraseIdx_of_lt lt], rfl, ?_, f3.upd ne nc, ?_, (List.eraseIdx_sublist _ _).trans sub, by rw [List.length_eraseIdx_of_lt lt]; omega⟩
    · exact kp_mut (kp.trans k3) nF
    · rw [erase_map]; exact upd_same
  · tm_at "go"
    exact k l ns H' sub (by omega) (by omega) kp ff nF gg nc ne
end K

namespace K
open PySem PySem.Spec PyProof.Rows L2 G
/-! ### repr of data: its size -/
structure Shw (m n : Nat) (d : PyData) : Prop where
  ok : d.showable = true
  len : d.shown.length ≤ n
  dep : d.depth ≤ m
  nod : d.hasDict = false
theorem Shw.up {m n m' n' : Nat} {d : PyData} (h : Shw m n d) (h1 : m ≤ m') (h2 : n ≤ n') : Shw m' n' d := ⟨h.ok, Nat.le_trans h.len h2, Nat.le_trans h.dep h1, h.nod⟩
theorem sw_none : Shw 0 13 .none := ⟨by simp only [PyData.showable], by simp only [PyData.shown]; decide, by simp only [PyData.depth]; exact Nat.le_refl _, by simp only [PyData.hasDict]⟩
theorem sw_bool (b : Bool) : Shw 0 13 (.bool b) := by
  refine ⟨by simp only [PyData.showable], ?_, by simp only [PyData.depth]; exact Nat.le_refl _, by simp only [PyData.hasDict]⟩
  simp only [PyData.shown]
  cases b <;> decide
theorem sw_int {i : Int} (h : i.natAbs < 10 ^ 12) : Shw 0 13 (.int i) := by
  refine ⟨?_, PyData.shown_int_le h, by simp only [PyData.depth]; exact Nat.le_refl _, by simp only [PyData.hasDict]⟩
  simp only [PyData.showable, decide_eq_true_eq]
  have h2 : i.natAbs.log2 < 40 := PySem.Flt.log2_lt_of (by decide) (Nat.lt_of_lt_of_le h (by decide))
  omega
theorem sw_str {x : Str} {n : Nat} (h : (reprText x).length ≤ n) : Shw 0 n (.str x) := ⟨by simp only [PyData.showable], by simp only [PyData.shown]; exact h, by simp only [PyData.depth]; exact Nat.le_refl _, by simp only [PyData.hasDict]⟩
theorem sw_all {m n : Nat} : ∀ {ds : List PyData}, (∀ d ∈ ds, Shw m n d) → PyData.showableAll ds = true ∧ ((PyData.shownAll ds).map (·.length)).sum ≤ ds.length * n ∧ PyData.depthAll ds ≤ m ∧ PyData.hasDictAll ds = false
  | [], _ => ⟨by simp only [PyData.showableAll], by simp only [PyData.shownAll]; exact Nat.zero_le _, by simp only [PyData.depthAll]; exact Nat.zero_le _, by simp only [PyData.hasDictAll]⟩
  | d :: ds, h => by
    have h1 := h d (List.mem_cons_self ..)
    obtain ⟨a1, a2, a3, a4⟩ := sw_all fun e he => h e (List.mem_cons_of_mem _ he)
    refine ⟨by simp only [PyData.showableAll, h1.ok, a1, Bool.and_self], ?_, ?_, by simp only [PyData.hasDictAll, h1.nod, a4, Bool.or_self]⟩
    · have := h1.len
      simp only [PyData.shownAll, List.map_cons, List.sum_cons, List.length_cons, Nat.succ_mul]
      omega
    · simp only [PyData.depthAll]
      exact Nat.max_le.mpr ⟨h1.dep, a3⟩
theorem sw_tup {m n k : Nat} {ds : List PyData} (h : ∀ d ∈ ds, Shw m n d) (hk : ds.length ≤ k) : Shw (m + 1) (k * (n + 2) + 3) (.tuple ds) := by
  obtain ⟨a1, a2, a3, a4⟩ := sw_all h
  refine ⟨by simp only [PyData.showable, a1], ?_, by simp only [PyData.depth]; omega, by simp only [PyData.hasDict, a4]⟩
  simp only [PyData.shown]
  refine Nat.le_trans (tupleText_len_le _) ?_
  have e : (PyData.shownAll ds).length = ds.length := PyData.shownAll_length ds
  have e2 : ds.length * (n + 2) ≤ k * (n + 2) := Nat.mul_le_mul_right _ hk
  rw [e]
  rw [Nat.mul_add] at e2
  omega
theorem sw_lst {m n k : Nat} {ds : List PyData} (h : ∀ d ∈ ds, Shw m n d) (hk : ds.length ≤ k) : Shw (m + 1) (k * (n + 2) + 3) (.list ds) := by
  obtain ⟨a1, a2, a3, a4⟩ := sw_all h
  refine ⟨by simp only [PyData.showable, a1], ?_, by simp only [PyData.depth]; omega, by simp only [PyData.hasDict, a4]⟩
  simp only [PyData.shown]
  refine Nat.le_trans (listText_len_le _) ?_
  have e : (PyData.shownAll ds).length = ds.length := PyData.shownAll_length ds
  have e2 : ds.length * (n + 2) ≤ k * (n + 2) := Nat.mul_le_mul_right _ hk
  rw [e]
  rw [Nat.mul_add] at e2
  omega
/-! ### repr(v) of a tuple or list of data -/
def rRepr (K : PySem.W.Frag) : List V → Hp → VK → Prop := fun vs H Q => ∃ a d, vs = [.ref a] ∧ Dp K H (.ref a) d ∧ Shw 60 1000000 d ∧ Q (.str d.shown) H
theorem cr_repr {X : Cx} (quiet : X.A.guards = some []) (hu : X.A.units + 64 < cLine) : CallR X (.builtin "repr") (rRepr X.K) := by
  intro pins st σ H vs us Q J rv z
  obtain ⟨a, d, rfl, hd, sw, k⟩ := z
  obtain rfl := Vals.ref1 rv
  obtain ⟨as, rd⟩ := Dp.reads J d (.ref a) (.ref a) hd rfl
  have h1 := sw.dep
  have h2 := sw.len
  refine repr_of_reads' rd sw.ok (fun h => by rw [sw.nod] at h; cases h) quiet (by omega) (fun _ _ e => e) (fun h' u tk keep => ?_) (by rw [sizeLine_eq]; omega)
  exact ⟨.str d.shown, H, J.kept (t' := tk) keep, ⟨u, rfl⟩, k⟩
theorem rc_repr {c : Cd} {H : Hp} {Q : VK} {a : Addr} {d : PyData} (hd : Dp c.K H (.ref a) d) (sw : Shw 60 1000000 d) (q : Q (.str d.shown) H) (hq : c.g = true := by rfl) : RC c (.builtin "repr") [.ref a] H Q :=
  rc_of (r := rRepr c.K) (fun X h => by rw [← h.K]; exact cr_repr (h.gd hq) h.room.units) ⟨a, d, rfl, hd, sw, q⟩
end K

namespace K
open PySem PySem.Spec PyProof.Rows L2 G
variable {M : Md}
theorem In.app {K0 : PySem.W.Frag} {fp cl l : Addr} {us : List V} {H H1 : Hp} (i : In K0 fp cl l us H H1) (v : V) : In K0 fp cl l (us ++ [v]) H (upd H1 l (.lst (us ++ [v]))) := G.In.app i v
/-! ### cells -/
structure CellsOk (rs : List Row) : Prop where
  all : RowsAll rs
  ne : 0 < rs.length
  plain : 0 < (plains rs).length
  tab : ∀ r : Row, rs[0]? = some r → 0 < r.2.1 → r.1 = ("t" : Str)
  txt : ∀ r ∈ rs, (reprText r.1).length ≤ 20
  val : ∀ r ∈ rs, r.2.2.2.2.2.2.natAbs < 10 ^ 12
  ini : ∀ r ∈ rs, r.2.2.1 ≤ r.2.2.2.2.2.2 ∧ r.2.2.2.2.2.2 ≤ r.2.2.2.1
  hasx : ∃ r ∈ rs, r.1 = ("x" : Str) ∧ r.2.1 = 0
def cellB0 (rs : List Row) : Bool := (decide (total rs ≤ 10) && (rg rs).all (fun p => decide (1 ≤ span p) && decide (-10 ≤ p.1) && decide (p.2 ≤ 10)) && decide (many (rg rs) ≤ 256) && decide (rs.length ≤ 10) && rs.all (fun r => PyData.strOk r.1) && decide (rs.map nameOf).Nodup) &&
  (decide (0 < rs.length) && (decide (0 < (plains rs).length) && ((match rs[0]? with | some (r : Row) => decide (0 < r.2.1 → r.1 = ("t" : Str)) | none => true) && rs.all fun r => (decide ((reprText r.1).length ≤ 20) && decide (r.2.2.2.2.2.2.natAbs < 10 ^ 12)) && decide (r.2.2.1 ≤ r.2.2.2.2.2.2 ∧ r.2.2.2.2.2.2 ≤ r.2.2.2.1))))
def cellB (rs : List Row) : Bool := cellB0 rs && rs.any fun r => decide (r.1 = ("x" : Str)) && decide (r.2.1 = 0)
theorem cellB_ok {rs : List Row} (h : cellB rs = true) : CellsOk rs := by
  unfold cellB at h
  rw [Bool.and_eq_true] at h
  obtain ⟨h, hx⟩ := h
  unfold cellB0 at h
  rw [Bool.and_eq_true] at h
  obtain ⟨h1, h2⟩ := h
  rw [Bool.and_eq_true, Bool.and_eq_true, Bool.and_eq_true] at h2
  obtain ⟨h2, h3, h4, h5⟩ := h2
  rw [List.all_eq_true] at h5
  refine ⟨all_of _ h1, of_decide_eq_true h2, of_decide_eq_true h3, fun r hr => ?_, fun r hr => ?_, fun r hr => ?_, fun r hr => ?_, fitB hx⟩
  · rw [hr] at h4
    exact of_decide_eq_true h4
  · have := h5 r hr
    rw [Bool.and_eq_true, Bool.and_eq_true] at this
    exact of_decide_eq_true this.1.1
  · have := h5 r hr
    rw [Bool.and_eq_true, Bool.and_eq_true] at this
    exact of_decide_eq_true this.1.2
  · have := h5 r hr
    rw [Bool.and_eq_true] at this
    exact of_decide_eq_true this.2
def mkT (a b : Bool) : Row := ("t", 2, 0, 1, a, b, 0)
def mkX (hi : Int) (c : Bool) : Row := ("x", 0, 0, hi, true, c, 0)
def mkY (low : Int) (d : Bool) (e : Int) : Row := ("y", 0, low, 1, false, d, low + e)
def cellsOf (w : Nat) (a b : Bool) (hi : Int) (c : Bool) (low : Int) (d : Bool) (e : Int) : List Row := (if 1 < w then [mkT a b] else []) ++ mkX hi c :: (if w = 0 ∨ w = 3 then [mkY low d e] else [])
theorem cellsOf_ok : ∀ w ∈ [0, 1, 2, 3], ∀ a ∈ [true, false], ∀ b ∈ [true, false], ∀ hi ∈ [(1 : Int), 3], ∀ c ∈ [true, false], ∀ low ∈ [(0 : Int), -1], ∀ d ∈ [true, false], ∀ e ∈ [(0 : Int), 1], cellB (cellsOf w a b hi c low d e) = true := by decide +kernel
def preCells : List PyData → Prop := fun ds => ds = []
def rCells : List PyData → PyData → Prop := fun ds d => ∃ rs, d = cellsD rs ∧ CellsOk rs
theorem b2_mem (k : Bool) : k ∈ [true, false] := by cases k <;> simp
theorem i2_mem {r : Int} (h0 : 0 ≤ r) (h1 : r < 2) : r ∈ [(0 : Int), 1] := by
  have : r = 0 ∨ r = 1 := by omega
  rcases this with rfl | rfl <;> simp
set_option maxHeartbeats 1000000 in
theorem ok_cells {f fd} (F : Fun M.K "_law_cells" "_law_cells" s__law_cells f fd) (b : Bl M) (dd : dcDraw M) : FnG M.prog M.w M.K M.mg M.base CX0 2 f fd ["_law_feed_here"] (spD preCells rCells M.K) := by
  refine fn_ok F sc__law_cells (spD_len (n := 0) (by rintro ds rfl; rfl)) (fun H vs Q E h => ?_)
  obtain ⟨fp, cl, rest, ds, rfl, hf, hds, rfl, k⟩ := h
  cases hds
  refine b_cut (fun σ1 H' => ∃ (w : Nat) (l : Addr), w ∈ [0, 1, 2, 3] ∧ σ1 = [some (.ref fp), some (.int (w : Int)), some (.ref l), none] ∧ In M.K fp cl l [] H H') ?_ ?_
  · refine s_par2 (by tm_at "at") (by tm_at "at") ?_
    refine e_drawV dd ?_
    tm_at "go"
    refine ⟨fp, cl, 4, rfl, rfl, by decide, hf, fun r H2 r0 r1 k2 f2 => ?_⟩
    refine e_lstD (a_nil ⟨(Nat.le_of_ble_eq_true rfl), fun l H3 s3 n3 g3 => ?_⟩)
    have ne := ne_feed f2 (Same.refl _) n3
    have e : r = ((r.toNat : Nat) : Int) := by omega
    rw [e]
    refine ⟨r.toNat, l, ?_, rfl, k2.trans (kp_same s3), f2.same s3, ne_cl f2 (Same.refl _) n3, g3, kp_none k2 n3 ne, ne⟩
    have : r.toNat = 0 ∨ r.toNat = 1 ∨ r.toNat = 2 ∨ r.toNat = 3 := by omega
    rcases this with z | z | z | z <;> rw [z] <;> simp
  rintro _ H1 ⟨w, l, hw, rfl, i1⟩
  refine b_cut (fun σ1 H' => ∃ (a b : Bool) (us : List V), σ1 = [some (.ref fp), some (.int (w : Int)), some (.ref l), none] ∧ In M.K fp cl l us H H' ∧ DtAll M.K H' us ((if 1 < w then [mkT a b] else []).map rowD)) ?_ ?_
  · tm_at "go"
    refine ifd (fun c1 => ?_) (fun c1 => ?_)
    · have c2 : 1 < w := by omega
      refine b_one (s_expr (e_app (e_var (by tm_at "at") ⟨l, _, rfl, i1.g, ?_⟩)))
      refine e_tupD ?_
      tm_at "go"
      refine e_drawV dd ?_
      tm_at "go"
      refine ⟨fp, cl, 2, rfl, rfl, by decide, i1.fd, fun r H2 r0 r1 k2 f2 => ?_⟩
      have i2 := i1.draw k2 f2
      tm_at "go"
      refine e_drawV dd ?_
      tm_at "go"
      refine ⟨fp, cl, 2, rfl, rfl, by decide, f2, fun q H3 q0 q1 k3 f3 => ?_⟩
      have i3 := i2.draw k3 f3
      tm_at "go"
      refine tupend (ds := [.str "t", .int 2, .int 0, .int 1, .bool (decide (r = 0)), .bool (decide (q = 0)), .int 0]) (by tm_at "dts") (Nat.le_of_ble_eq_true rfl) fun v4 H4 s4 h4 => ?_
      have i4 := i3.same s4
      refine ⟨[], i4.g, (Nat.le_of_ble_eq_true rfl), ?_⟩
      have i5 := i4.app v4
      refine ⟨decide (r = 0), decide (q = 0), [v4], rfl, i5, ?_⟩
      rw [if_pos c2]
      have hv : Dt M.K H4 v4 (rowD (mkT (decide (r = 0)) (decide (q = 0)))) := h4
      exact .cons (hv.mono (kp_upd i4.g (fun _ e => nomatch e) (fun _ _ e => nomatch e)).t) .nil
    · have c2 : ¬ 1 < w := by omega
      tm_at "go"
      refine ⟨true, true, [], rfl, i1, ?_⟩
      rw [if_neg c2]
      exact .nil
  rintro _ H2 ⟨a, b', us, rfl, i2, h2⟩
  refine b_cut (fun σ1 H' => ∃ (hi : Int) (c : Bool) (us : List V), hi ∈ [(1 : Int), 3] ∧ σ1 = [some (.ref fp), some (.int (w : Int)), some (.ref l), none] ∧ In M.K fp cl l us H H' ∧ DtAll M.K H' us (((if 1 < w then [mkT a b'] else []) ++ [mkX hi c]).map rowD)) ?_ ?_
  · refine s_expr (e_app (e_var (by tm_at "at") ⟨l, _, rfl, i2.g, ?_⟩))
    have lus := h2.len
    have lus2 : us.length ≤ 5 := by
      rw [lus, List.length_map]
      split <;> simp
    have fin : ∀ (hi : Int) (H3 : Hp), hi ∈ [(1 : Int), 3] → In M.K fp cl l us H H3 → DtAll M.K H3 us ((if 1 < w then [mkT a b'] else []).map rowD) → ∀ (c : Bool) v4 H4, Same H3 H4 → Dt M.K H4 v4 (.tuple [.str "x", .int 0, .int 0, .int hi, .bool true, .bool c, .int 0]) →
        ∃ (hi : Int) (c : Bool) (us' : List V), hi ∈ [(1 : Int), 3] ∧ ([some (.ref fp), some (.int (w : Int)), some (.ref l), none] : L2.St) = [some (.ref fp), some (.int (w : Int)), some (.ref l), none] ∧ In M.K fp cl l us' H (upd H4 l (.lst (us ++ [v4]))) ∧ DtAll M.K (upd H4 l (.lst (us ++ [v4]))) us' (((if 1 < w then [mkT a b'] else []) ++ [mkX hi c]).map rowD) := by
      intro hi H3 hhi i3 h3 c v4 H4 s4 h4
      have i4 := i3.same s4
      have kt := (kp_upd (o' := .lst (us ++ [v4])) i4.g (fun _ e => nomatch e) (fun _ _ e => nomatch e)).t
      refine ⟨hi, c, us ++ [v4], hhi, rfl, i4.app v4, ?_⟩
      rw [List.map_append]
      have hv : Dt M.K H4 v4 (rowD (mkX hi c)) := h4
      exact ((h3.mono (tp_same s4)).mono kt).app (.cons (hv.mono kt) .nil)
    refine e_tupD ?_
    refine a_cons (e_str (a_cons (e_int (a_cons (e_int (a_cons (e_if ?_)))))))
    tm_at "go"
    refine ifd (fun c1 => ?_) (fun c1 => ?_)
    · tm_at "go"
      refine e_drawV dd ?_
      tm_at "go"
      refine ⟨fp, cl, 2, rfl, rfl, by decide, i2.fd, fun q H3 q0 q1 k3 f3 => ?_⟩
      have i3 := i2.draw k3 f3
      tm_at "go"
      refine tupend (ds := [.str "x", .int 0, .int 0, .int 1, .bool true, .bool (decide (q = 0)), .int 0]) (by tm_at "dts") (Nat.le_of_ble_eq_true rfl) fun v4 H4 s4 h4 => ?_
      refine ⟨us, (i3.same s4).g, by omega, fin 1 H3 (by simp) i3 (h2.mono k3.t) _ v4 H4 s4 h4⟩
    · tm_at "go"
      refine e_drawV dd ?_
      tm_at "go"
      refine ⟨fp, cl, 2, rfl, rfl, by decide, i2.fd, fun r H3 r0 r1 k3 f3 => ?_⟩
      have i3 := i2.draw k3 f3
      refine ro_mul (.inl ⟨by decide, by decide⟩) ?_
      tm_at "go"
      refine e_drawV dd ?_
      tm_at "go"
      refine ⟨fp, cl, 2, rfl, rfl, by decide, f3, fun q H4 q0 q1 k4 f4 => ?_⟩
      have i4 := i3.draw k4 f4
      tm_at "go"
      have hhi : 1 + 2 * r ∈ [(1 : Int), 3] := by
        have : r = 0 ∨ r = 1 := by omega
        rcases this with rfl | rfl <;> simp
      refine tupend (ds := [.str "x", .int 0, .int 0, .int (1 + 2 * r), .bool true, .bool (decide (q = 0)), .int 0]) (by tm_at "dts") (Nat.le_of_ble_eq_true rfl) fun v5 H5 s5 h5 => ?_
      refine ⟨us, (i4.same s5).g, by omega, fin _ H4 hhi i4 ((h2.mono k3.t).mono k4.t) _ v5 H5 s5 h5⟩
  rintro _ H3 ⟨hi, c, us3, hhi, rfl, i3, h3⟩
  refine b_cut (fun σ1 H' => ∃ (low : Int) (d : Bool) (e : Int) (us : List V) (v3 : Option V), low ∈ [(0 : Int), -1] ∧ e ∈ [(0 : Int), 1] ∧ σ1 = [some (.ref fp), some (.int (w : Int)), some (.ref l), v3] ∧ In M.K fp cl l us H H' ∧ DtAll M.K H' us ((cellsOf w a b' hi c low d e).map rowD)) ?_ ?_
  · refine s_if (t_cmp ?_)
    tm_at "go"
    refine e_tupD ?_
    tm_at "go"
    refine tupend (ds := [.int 0, .int 3]) (by tm_at "dts") (Nat.le_of_ble_eq_true rfl) fun vt H4 s4 h4 => ?_
    refine ro_inIT (ws := [0, 3]) h4 ?_
    have i4 := i3.same s4
    refine ⟨_, rfl, ifd (fun c1 => ?_) (fun c1 => ?_)⟩
    · have cw : w = 0 ∨ w = 3 := by
        simp at c1
        omega
      refine b_cons (s_set (by tm_at "at") ?_)
      tm_at "go"
      refine e_drawV dd ?_
      tm_at "go"
      refine ⟨fp, cl, 2, rfl, rfl, by decide, i4.fd, fun r H5 r0 r1 k5 f5 => ?_⟩
      have i5 := i4.draw k5 f5
      tm_at "run"
      refine b_one (s_expr (e_app (e_var (by tm_at "at") ⟨l, _, rfl, i5.g, ?_⟩)))
      refine e_tupD ?_
      tm_at "go"
      refine e_drawV dd ?_
      tm_at "go"
      refine ⟨fp, cl, 4, rfl, rfl, by decide, f5, fun q H6 q0 q1 k6 f6 => ?_⟩
      have i6 := i5.draw k6 f6
      tm_at "go"
      refine e_drawV dd ?_
      tm_at "go"
      refine ⟨fp, cl, 2, rfl, rfl, by decide, f6, fun z H7 z0 z1 k7 f7 => ?_⟩
      have i7 := i6.draw k7 f7
      tm_at "go"
      refine tupend (ds := [.str "y", .int 0, .int (0 - r), .int 1, .bool false, .bool (decide (0 < q)), .int (0 - r + z)]) (by tm_at "dts") (Nat.le_of_ble_eq_true rfl) fun v8 H8 s8 h8 => ?_
      have i8 := i7.same s8
      have lus := h3.len
      have lus2 : us3.length ≤ 5 := by
        rw [lus, List.length_map, List.length_append]
        split <;> simp
      refine ⟨us3, i8.g, by omega, ?_⟩
      have kt := (kp_upd (o' := .lst (us3 ++ [v8])) i8.g (fun _ e => nomatch e) (fun _ _ e => nomatch e)).t
      refine ⟨0 - r, decide (0 < q), z, us3 ++ [v8], _, ?_, i2_mem z0 z1, rfl, i8.app v8, ?_⟩
      · have : r = 0 ∨ r = 1 := by omega
        rcases this with rfl | rfl <;> simp
      · have hv : Dt M.K H8 v8 (rowD (mkY (0 - r) (decide (0 < q)) z)) := h8
        unfold cellsOf
        rw [if_pos cw, show ∀ (A : List Row) x y, A ++ x :: [y] = (A ++ [x]) ++ [y] from fun A x y => by simp, List.map_append]
        exact ((((h3.mono (tp_same s4)).mono k5.t).mono (k6.t.trans (k7.t.trans (tp_same s8)))).mono kt).app (.cons (hv.mono kt) .nil)
    · have cw : ¬ (w = 0 ∨ w = 3) := by
        simp at c1
        omega
      tm_at "go"
      refine ⟨0, true, 0, us3, _, by simp, by simp, rfl, i4, ?_⟩
      unfold cellsOf
      rw [if_neg cw]
      exact h3.mono (tp_same s4)
  rintro _ H4 ⟨low, d, e, us4, v3, hlow, he, rfl, i4, h4⟩
  tm_at "go"
  refine rc_tupL (.of i4.g) h4 fun v5 H5 s5 h5 => ?_
  exact k _ _ _ ⟨_, rfl, cellB_ok (cellsOf_ok w hw a (b2_mem a) b' (b2_mem b') hi hhi c (b2_mem c) low hlow d (b2_mem d) e he)⟩ (i4.kp.trans (kp_same s5)) (i4.fd.same s5) h5
end K

namespace K
open PySem PySem.Spec PyProof.Rows L2 G
variable {M : Md}
def preEx (n : Nat) : List PyData → Prop := fun ds => ∃ (rs : List Row) (deep : Int), ds = [cellsD rs, .int deep] ∧ CellsOk rs ∧ deep ≤ n
abbrev dcExpr (M : Md) (m : Nat) : Prop := Dc M "_law_expr" ["_law_feed_here", "_law_cells_here", "_law_deep"] (m + 3) (spD (preEx m) rForm M.K)
abbrev dcAny (M : Md) : Prop := Dc M "_law_any" ["_law_feed_here", "_law_some"] 2 (spAny M.K)
def opsA : List Str := ["+", "-", "*", "least", "most"]
def opsB : List Str := ["=", "<", "<=", "and", "or"]
theorem opsA_in : ∀ w ∈ opsA, w ∈ bins := by decide +kernel
theorem opsB_in : ∀ w ∈ opsB, w ∈ bins := by decide +kernel
theorem five : ∀ w ∈ ([0, 1, 2, -1, 3] : List Int), -1000000 ≤ w ∧ w ≤ 1000000 := by decide
theorem rForm_of {rs : List Row} {deep : Int} {d : PyData} (h : rForm [cellsD rs, .int deep] d) : ∃ e : Ex, d = e.d ∧ Fit rs e ∧ e.dep ≤ deep.toNat := by
  obtain ⟨rs', deep', e, e1, rfl, fit, dep⟩ := h
  obtain rfl : rs = rs' := cellsD_inj (List.cons.inj e1).1
  obtain rfl : deep = deep' := PyData.int.inj (List.cons.inj (List.cons.inj e1).2).1
  exact ⟨e, rfl, fit, dep⟩
theorem mem_str {l : List Str} {d : PyData} (h : d ∈ l.map PyData.str) : ∃ w ∈ l, d = .str w := by
  obtain ⟨w, hw, rfl⟩ := List.mem_map.mp h
  exact ⟨w, hw, rfl⟩
set_option maxHeartbeats 2000000 in
theorem ok_expr (n : Nat) {f fd} (F : Fun M.K "_law_expr" "_law_expr" s__law_expr f fd) (b : Bl M) (dd : dcDraw M) (da : dcAny M) (rec : ∀ m, n = m + 1 → dcExpr M m) :
    FnG M.prog M.w M.K M.mg M.base CX0 (n + 3) f fd ["_law_feed_here", "_law_cells_here", "_law_deep"] (spD (preEx n) rForm M.K) := by
  refine fn_ok F sc__law_expr (spD_len (n := 2) (by rintro ds ⟨_, _, rfl, _⟩; rfl)) (fun H vs Q E h => ?_)
  obtain ⟨fp, cl, rest, ds, rfl, hf, hds, ⟨rs, deep, rfl, C, hdeep⟩, k⟩ := h
  obtain _ | ⟨hc, hds⟩ := hds
  obtain _ | ⟨hdp, hds⟩ := hds
  cases hds
  cases hdp
  rename_i vr
  have ri := C.all.ri
  refine b_cons (s_setLc (own := [("_law_row", 7)]) (by tm_at "at") (Blk.of (N := N__law_expr) (sc := defScope s__law_expr) rfl rfl (by decide +kernel)) ?_)
  refine lcT_F gPlain ?_
  tm_at "go"
  refine ⟨rs.map rowD, hc, by rw [List.length_map]; exact Nat.le_trans ri.len (show 10 ≤ 1000 by decide), fun d x H' hd s hx => ?_, fun l6 us H1 s1 n1 g1 h1 => ?_⟩
  · obtain ⟨r, hr, rfl⟩ := List.mem_map.mp hd
    refine g_name (by tm_at "at") ⟨rfl, rfl, ts_one ?_⟩
    tm_at "go"
    refine ⟨Same.refl _, ifd (fun c1 => ?_) (fun c1 => ?_)⟩
    · tm_at "go"
      exact ⟨Same.refl _, _, by show (if _ then _ else _) = _; rw [if_pos c1], .str _⟩
    · show (if _ then _ else _) = _
      rw [if_neg c1]
  rw [gPlain_all] at h1
  have nl : l6 ≠ fp := ne_feed hf (Same.refl _) n1
  have plen : (plains rs).length ≤ 10 := by
    unfold plains
    rw [List.length_map]
    exact Nat.le_trans (List.length_filter_le ..) ri.len
  refine b_cut (fun σ1 H' => ∃ w : Int, (0 ≤ w ∧ w < 10) ∧ (deep ≤ 0 → w < 3) ∧ Kp fp H1 H' ∧ Feed M.K H' fp cl ∧ σ1 = [some (.ref fp), some vr, some (.int deep), some (.ref l6), some (.int w), none, none, none]) ?_ ?_
  · refine s_set (by tm_at "at") (e_if ?_)
    tm_at "go"
    refine ifd (fun c1 => ?_) (fun c1 => ?_)
    · refine e_drawV dd ?_
      tm_at "go"
      exact ⟨fp, cl, 10, rfl, rfl, by decide, hf.same s1, fun r H2 r0 r1 k2 f2 => ⟨r, ⟨r0, r1⟩, fun z => by omega, k2, f2, rfl⟩⟩
    · refine e_drawV dd ?_
      tm_at "go"
      exact ⟨fp, cl, 3, rfl, rfl, by decide, hf.same s1, fun r H2 r0 r1 k2 f2 => ⟨r, ⟨r0, by omega⟩, fun _ => r1, k2, f2, rfl⟩⟩
  rintro _ H2 ⟨w, hw, hw2, k2, f2, rfl⟩
  have k12 : Kp fp H H2 := (kp_same s1).trans k2
  have g2 := k2.k _ _ nl g1
  have h2 := h1.mono k2.t
  refine b_cut (fun σ1 H' => w ≠ 0 ∧ H2 = H' ∧ σ1 = [some (.ref fp), some vr, some (.int deep), some (.ref l6), some (.int w), none, none, none]) ?_ ?_
  · tm_at "go"
    refine ifd (fun c1 => ?_) (fun c1 => ?_)
    · tm_at "go"
      refine e_any da ?_
      tm_at "go"
      refine e_lstD ?_
      tm_at "go"
      refine ⟨(Nat.le_of_ble_eq_true rfl), fun l7 H7 s7 n7 g7 => ?_⟩
      refine ⟨fp, cl, l7, _, _, rfl, rfl, f2.same s7, .inl ⟨g7, ne_feed f2 (Same.refl _) n7⟩, dtInts [0, 1, 2, -1, 3], by decide, by decide, fun d v H8 hd k8 f8 hv => ?_⟩
      obtain ⟨z, hz, rfl⟩ := List.mem_map.mp hd
      exact k _ _ _ ⟨rs, deep, .int z, rfl, rfl, five z hz, Nat.zero_le _⟩ (k12.trans ((kp_same s7).trans k8)) f8 hv
    · tm_at "go"
      exact ⟨c1, rfl, rfl⟩
  rintro _ _ ⟨w0, rfl, rfl⟩
  refine b_cut (fun σ1 H' => ¬ w < 3 ∧ H2 = H' ∧ σ1 = [some (.ref fp), some vr, some (.int deep), some (.ref l6), some (.int w), none, none, none]) ?_ ?_
  · tm_at "go"
    refine ifd (fun c1 => ?_) (fun c1 => ?_)
    · tm_at "go"
      refine e_any da ?_
      tm_at "go"
      refine ⟨fp, cl, l6, us, (plains rs).map .str, rfl, rfl, f2, .inl ⟨g2, nl⟩, h2, by rw [List.length_map]; exact C.plain, by rw [List.length_map]; omega, fun d v H8 hd k8 f8 hv => ?_⟩
      obtain ⟨z, hz, rfl⟩ := mem_str hd
      exact k _ _ _ ⟨rs, deep, .nm z, rfl, rfl, plains_mem hz, Nat.zero_le _⟩ (k12.trans k8) f8 hv
    · tm_at "go"
      exact ⟨c1, rfl, rfl⟩
  rintro _ _ ⟨w3, rfl, rfl⟩
  have hd1 : 1 ≤ deep := by
    by_cases z : deep ≤ 0
    · exact absurd (hw2 z) w3
    · omega
  obtain ⟨m, rfl⟩ : ∃ m, n = m + 1 := ⟨n - 1, by omega⟩
  have dr := rec m rfl
  have prim : preEx m [cellsD rs, .int (deep - 1)] := ⟨rs, deep - 1, rfl, C, by omega⟩
  have nxt : ∀ (H' : Hp) (σ1 : L2.St) (Q1 : VK), Kp fp H H' → Feed M.K H' fp cl → σ1[0]? = some (some (.ref fp)) → True := fun _ _ _ _ _ _ => trivial
  clear nxt
  refine b_cons (s_set (by tm_at "at") ?_)
  refine e_callD dr ?_ (Nat.le_refl _)
  tm_at "go"
  refine ⟨fp, cl, _, _, rfl, f2, .cons (hc.mono k12.t) (.cons (.int _) .nil), prim, ?_⟩
  intro d v1 H3 hr1 k3 f3 hv1
  obtain ⟨e1, rfl, fit1, dep1⟩ := rForm_of hr1
  have k13 := k12.trans k3
  refine b_cut (fun σ1 H' => H3 = H' ∧ σ1 = [some (.ref fp), some vr, some (.int deep), some (.ref l6), some (.int w), some v1, none, none]) ?_ ?_
  · tm_at "go"
    refine ifd (fun c1 => ?_) (fun c1 => ?_)
    · tm_at "go"
      cases rs with
      | nil => exact absurd C.ne (Nat.lt_irrefl 0)
      | cons r0 rs0 =>
        refine rx_tup (hc.mono k13.t) (d := rowD r0) (pl_at (j := 0) rfl rfl) fun v0 hv0 => ?_
        tm_at "go"
        refine ifd (fun c2 => ?_) (fun c2 => ?_)
        · have pos : 0 < r0.2.1 := by omega
          tm_at "go"
          refine e_tupD ?_
          tm_at "go"
          refine tupend (ds := [.str "at", .str "t", e1.d]) (by tm_at "dts") (Nat.le_of_ble_eq_true rfl) fun v9 H9 s9 h9 => ?_
          exact k _ _ _ ⟨_, deep, .at "t" e1, rfl, rfl, ⟨⟨r0, List.mem_cons_self .., C.tab r0 rfl pos, pos⟩, fit1⟩, by show e1.dep + 1 ≤ _; omega⟩ (k13.trans (kp_same s9)) (f3.same s9) h9
        · tm_at "go"
          exact ⟨rfl, rfl⟩
    · tm_at "go"
      exact ⟨rfl, rfl⟩
  rintro _ _ ⟨rfl, rfl⟩
  refine b_cut (fun σ1 H' => w ≠ 8 ∧ H3 = H' ∧ σ1 = [some (.ref fp), some vr, some (.int deep), some (.ref l6), some (.int w), some v1, none, none]) ?_ ?_
  · tm_at "go"
    refine ifd (fun c1 => ?_) (fun c1 => ?_)
    · tm_at "go"
      refine e_any da ?_
      tm_at "go"
      refine e_lstD ?_
      refine a_cons (e_tupD ?_)
      tm_at "go"
      refine tupend (ds := [.str "not", e1.d]) (by tm_at "dts") (Nat.le_of_ble_eq_true rfl) fun va Ha sa ha => ?_
      refine a_cons (e_tupD ?_)
      tm_at "go"
      refine tupend (ds := [.str "neg", e1.d]) (by tm_at "dts") (Nat.le_of_ble_eq_true rfl) fun vb Hb sb hb => ?_
      refine a_cons (e_tupD ?_)
      tm_at "go"
      refine tupend (ds := [.str "div", e1.d, .int 2]) (by tm_at "dts") (Nat.le_of_ble_eq_true rfl) fun vc Hc sc hcc => ?_
      refine a_cons (e_tupD ?_)
      tm_at "go"
      refine tupend (ds := [.str "mod", e1.d, .int 2]) (by tm_at "dts") (Nat.le_of_ble_eq_true rfl) fun vd Hd sd hdd => ?_
      refine a_nil ⟨(Nat.le_of_ble_eq_true rfl), fun l7 H7 s7 n7 g7 => ?_⟩
      have s37 := (((sa.trans sb).trans sc).trans sd).trans s7
      have fd7 := (((f3.same sa).same sb).same sc).same sd
      refine ⟨fp, cl, l7, _, ([Ex.un "not" e1, .un "neg" e1, .kk "div" e1 2, .kk "mod" e1 2].map Ex.d), rfl, rfl, fd7.same s7, .inl ⟨g7, ne_feed fd7 (Same.refl _) n7⟩, ?_, (show 0 < 4 by decide), (show 4 < 1000 by decide), fun d v H8 hd k8 f8 hv => ?_⟩
      · exact .cons (ha.mono (tp_same (((sb.trans sc).trans sd).trans s7))) (.cons (hb.mono (tp_same ((sc.trans sd).trans s7))) (.cons (hcc.mono (tp_same (sd.trans s7))) (.cons (hdd.mono (tp_same s7)) .nil)))
      obtain ⟨e, he, rfl⟩ := List.mem_map.mp hd
      have kk8 := k13.trans ((kp_same s37).trans k8)
      have ff : Fit rs e ∧ e.dep = e1.dep + 1 := by
        simp only [List.mem_cons, List.not_mem_nil, or_false] at he
        rcases he with rfl | rfl | rfl | rfl
        · exact ⟨⟨by decide +kernel, fit1⟩, rfl⟩
        · exact ⟨⟨by decide +kernel, fit1⟩, rfl⟩
        · exact ⟨⟨by decide +kernel, fit1, by decide⟩, rfl⟩
        · exact ⟨⟨by decide +kernel, fit1, by decide⟩, rfl⟩
      exact k _ _ _ ⟨rs, deep, e, rfl, rfl, ff.1, by rw [ff.2]; omega⟩ kk8 f8 hv
    · tm_at "go"
      exact ⟨c1, rfl, rfl⟩
  rintro _ _ ⟨w8, rfl, rfl⟩
  refine b_cons (s_set (by tm_at "at") ?_)
  refine e_callD dr ?_ (Nat.le_refl _)
  tm_at "go"
  refine ⟨fp, cl, _, _, rfl, f3, .cons (hc.mono k13.t) (.cons (.int _) .nil), prim, ?_⟩
  intro d v2 H4 hr2 k4 f4 hv2
  obtain ⟨e2, rfl, fit2, dep2⟩ := rForm_of hr2
  have k14 := k13.trans k4
  have hv1' := hv1.mono k4.t
  have word : ∀ (ops : List Str) (l7 : Addr) (H7 : Hp) (pp : Pos) (n2 : Nat), (∀ w ∈ ops, w ∈ bins) → True := fun _ _ _ _ _ _ => trivial
  clear word
  refine b_cut (fun σ1 H' => ¬ w < 6 ∧ H4 = H' ∧ σ1 = [some (.ref fp), some vr, some (.int deep), some (.ref l6), some (.int w), some v1, some v2, none]) ?_ ?_
  · tm_at "go"
    refine ifd (fun c1 => ?_) (fun c1 => ?_)
    · tm_at "go"
      refine e_tupD ?_
      refine a_cons ?_
      refine e_any da ?_
      tm_at "go"
      refine e_lstD ?_
      tm_at "go"
      refine ⟨(Nat.le_of_ble_eq_true rfl), fun l7 H7 s7 n7 g7 => ?_⟩
      refine ⟨fp, cl, l7, _, _, rfl, rfl, f4.same s7, .inl ⟨g7, ne_feed f4 (Same.refl _) n7⟩, dtStrs opsA, by decide, by decide, fun d v H8 hd k8 f8 hv => ?_⟩
      obtain ⟨z, hz, rfl⟩ := mem_str hd
      have t8 := (tp_same s7).trans k8.t
      tm_at "go"
      refine tupend (ds := [.str z, e1.d, e2.d]) (.cons hv (.cons (hv1'.mono t8) (.cons (hv2.mono t8) .nil))) (Nat.le_of_ble_eq_true rfl) fun v9 H9 s9 h9 => ?_
      exact k _ _ _ ⟨rs, deep, .bin z e1 e2, rfl, rfl, ⟨opsA_in z hz, fit1, fit2⟩, by show max e1.dep e2.dep + 1 ≤ _; omega⟩ (k14.trans ((kp_same s7).trans (k8.trans (kp_same s9)))) (f8.same s9) h9
    · tm_at "go"
      exact ⟨c1, rfl, rfl⟩
  rintro _ _ ⟨w6, rfl, rfl⟩
  refine b_cut (fun σ1 H' => H4 = H' ∧ σ1 = [some (.ref fp), some vr, some (.int deep), some (.ref l6), some (.int w), some v1, some v2, none]) ?_ ?_
  · tm_at "go"
    refine ifd (fun c1 => ?_) (fun c1 => ?_)
    · tm_at "go"
      refine e_tupD ?_
      refine a_cons ?_
      refine e_any da ?_
      tm_at "go"
      refine e_lstD ?_
      tm_at "go"
      refine ⟨(Nat.le_of_ble_eq_true rfl), fun l7 H7 s7 n7 g7 => ?_⟩
      refine ⟨fp, cl, l7, _, _, rfl, rfl, f4.same s7, .inl ⟨g7, ne_feed f4 (Same.refl _) n7⟩, dtStrs opsB, by decide, by decide, fun d v H8 hd k8 f8 hv => ?_⟩
      obtain ⟨z, hz, rfl⟩ := mem_str hd
      have t8 := (tp_same s7).trans k8.t
      tm_at "go"
      refine tupend (ds := [.str z, e1.d, e2.d]) (.cons hv (.cons (hv1'.mono t8) (.cons (hv2.mono t8) .nil))) (Nat.le_of_ble_eq_true rfl) fun v9 H9 s9 h9 => ?_
      exact k _ _ _ ⟨rs, deep, .bin z e1 e2, rfl, rfl, ⟨opsB_in z hz, fit1, fit2⟩, by show max e1.dep e2.dep + 1 ≤ _; omega⟩ (k14.trans ((kp_same s7).trans (k8.trans (kp_same s9)))) (f8.same s9) h9
    · tm_at "go"
      exact ⟨rfl, rfl⟩
  rintro _ _ ⟨rfl, rfl⟩
  tm_at "go"
  refine e_tupD ?_
  tm_at "go"
  refine e_callD dr ?_ (Nat.le_refl _)
  tm_at "go"
  refine ⟨fp, cl, _, _, rfl, f4, .cons (hc.mono k14.t) (.cons (.int _) .nil), prim, ?_⟩
  intro d v3 H5 hr3 k5 f5 hv3
  obtain ⟨e3, rfl, fit3, dep3⟩ := rForm_of hr3
  tm_at "go"
  refine tupend (ds := [.str "if", e1.d, e2.d, e3.d]) (.cons (.str _) (.cons (hv1'.mono k5.t) (.cons (hv2.mono k5.t) (.cons hv3 .nil)))) (Nat.le_of_ble_eq_true rfl) fun v9 H9 s9 h9 => ?_
  exact k _ _ _ ⟨rs, deep, .ite e1 e2 e3, rfl, rfl, ⟨fit1, fit2, fit3⟩, by show max e1.dep (max e2.dep e3.dep) + 1 ≤ _; omega⟩ (k14.trans (k5.trans (kp_same s9))) (f5.same s9) h9
end K

namespace K
open PySem PySem.Spec PyProof.Rows L2 G
variable {M : Md}
def preRl : List PyData → Prop := fun ds => ∃ (rs : List Row) (nm : Str), ds = [cellsD rs, .str nm] ∧ CellsOk rs ∧ nm ∈ names5
structure RlOk (rs : List Row) (r : Rl) : Prop where
  fit : FitR rs r
  two : r.as.length ≤ 2
def rRl : List PyData → PyData → Prop := fun ds d => ∃ (rs : List Row) (nm : Str) (r : Rl), ds = [cellsD rs, .str nm] ∧ d = r.d ∧ RlOk rs r ∧ r.name = nm
theorem names_ok : ∀ w ∈ names5, PyData.strOk w = true := by decide +kernel
abbrev dcRl (M : Md) : Prop := Dc M "_law_rule" ["_law_feed_here", "_law_cells_here", "_law_name"] 6 (spD preRl rRl M.K)
set_option maxHeartbeats 2000000 in
theorem ok_rl {f fd} (F : Fun M.K "_law_rule" "_law_rule" s__law_rule f fd) (b : Bl M) (dd : dcDraw M) (da : dcAny M) (d0 : dcExpr M 0) (d1 : dcExpr M 1) (d2 : dcExpr M 2) :
    FnG M.prog M.w M.K M.mg M.base CX0 6 f fd ["_law_feed_here", "_law_cells_here", "_law_name"] (spD preRl rRl M.K) := by
  refine fn_ok F sc__law_rule (spD_len (n := 2) (by rintro ds ⟨_, _, rfl, _⟩; rfl)) (fun H vs Q E h => ?_)
  obtain ⟨fp, cl, rest, ds, rfl, hf, hds, ⟨rs, nm, rfl, C, hnm⟩, k⟩ := h
  obtain _ | ⟨hc, hds⟩ := hds
  obtain _ | ⟨hn, hds⟩ := hds
  cases hds
  cases hn
  rename_i vr
  refine b_cut (fun σ1 H' => ∃ (g : Ex) (vg : V), Fit rs g ∧ g.dep ≤ 1 ∧ Dt M.K H' vg g.d ∧ Kp fp H H' ∧ Feed M.K H' fp cl ∧ σ1 = [some (.ref fp), some vr, some (.str nm), some vg, none, none, none, none]) ?_ ?_
  · tm_at "go"
    refine e_drawV dd ?_
    tm_at "go"
    refine ⟨fp, cl, _, rfl, rfl, by decide, hf, fun r1 H1 r10 r11 k1 f1 => ?_⟩
    tm_at "go"
    refine ifd (fun c1 => ?_) (fun c1 => ?_)
    · tm_at "go"
      exact ⟨.int 1, _, ⟨by decide, by decide⟩, Nat.zero_le _, .int 1, k1, f1, rfl⟩
    · refine e_callD d1 ?_
      tm_at "go"
      refine ⟨fp, cl, _, _, rfl, f1, by tm_at "dts", ⟨rs, 1, rfl, C, by decide⟩, ?_⟩
      intro d v2 H2 hr k2 f2 hv2
      obtain ⟨e, rfl, fit, dep⟩ := rForm_of hr
      exact ⟨e, v2, fit, dep, hv2, k1.trans k2, f2, rfl⟩
  rintro _ H1 ⟨g, vg, gfit, gdep, hg, k1, f1, rfl⟩
  refine b_cons (s_set (by tm_at "at") (e_lstD (a_nil ⟨(Nat.le_of_ble_eq_true rfl), fun l H2 s2 n2 g2 => ?_⟩)))
  have ne := ne_feed f1 (Same.refl _) n2
  have i2 : In M.K fp cl l [] H H2 := ⟨k1.trans (kp_same s2), f1.same s2, ne_cl f1 (Same.refl _) n2, g2, kp_none k1 n2 ne, ne⟩
  refine b_cut (fun σ1 H' => ∃ (us : List V) (as : List (Tg × Ex)) (v5 v6 v7 : Option V), (∀ p ∈ as, FitT rs p.1 ∧ Fit rs p.2 ∧ p.2.dep ≤ 2) ∧ 1 ≤ as.length ∧ as.length ≤ 2 ∧ In M.K fp cl l us H H' ∧ Kp fp H1 H' ∧ DtAll M.K H' us (as.map asD) ∧ σ1 = [some (.ref fp), some vr, some (.str nm), some vg, some (.ref l), v5, v6, v7]) ?_ ?_
  · refine s_forR1 b.range ?_
    tm_at "go"
    refine e_drawV dd ?_
    tm_at "go"
    refine ⟨fp, cl, 4, rfl, rfl, by decide, i2.fd, fun r3 H3 r30 r31 k3 f3 => ?_⟩
    tm_at "go"
    have i3 := i2.draw k3 f3
    refine ⟨by split <;> decide, by split <;> decide, ?_⟩
    have hn : ∃ n : Nat, (1 + (if decide (r3 = 0) = true then (1 : Int) else 0)).toNat = n ∧ 1 ≤ n ∧ n ≤ 2 := by
      refine ⟨_, rfl, ?_, ?_⟩ <;> (split <;> decide)
    obtain ⟨n, en, n1, n2'⟩ := hn
    refine ⟨fun i σ1 H' => ∃ (us : List V) (as : List (Tg × Ex)) (v5 v6 v7 : Option V), (∀ p ∈ as, FitT rs p.1 ∧ Fit rs p.2 ∧ p.2.dep ≤ 2) ∧ as.length = i ∧ In M.K fp cl l us H H' ∧ Kp fp H1 H' ∧ DtAll M.K H' us (as.map asD) ∧ σ1 = [some (.ref fp), some vr, some (.str nm), some vg, some (.ref l), v5, v6, v7], ?_, ?_, ?_⟩
    · exact ⟨[], [], _, _, _, fun _ h => (nomatch h), rfl, i3, (kp_same s2).trans k3, .nil, rfl⟩
    · rintro i σ' H4 hi ⟨us, as, v5, v6, v7, hfit, hlen, i4, kk4, h4, rfl⟩
      rw [en] at hi
      have lus := h4.len
      rw [List.length_map] at lus
      refine g_name (by tm_at "at") ?_
      refine b_cons (s_set (by tm_at "at") ?_)
      refine e_any da ?_
      tm_at "go"
      have ht := hc.mono i4.kp.t
      obtain ⟨ta, ts, rfl, htt, htd⟩ := ht.tupE
      refine ⟨fp, cl, ta, ts, rs.map rowD, rfl, rfl, i4.fd, .inr htt, htd, by rw [List.length_map]; exact C.ne, by rw [List.length_map]; exact Nat.lt_of_le_of_lt C.all.ri.len (by decide), fun d v H5 hd k5 f5 hv => ?_⟩
      obtain ⟨r, hr, rfl⟩ := List.mem_map.mp hd
      have i5 := i4.draw k5 f5
      refine b_cut (fun σ1 H' => ∃ (t : Tg) (vt : V) (us : List V), FitT rs t ∧ Dt M.K H' vt t.d ∧ In M.K fp cl l us H H' ∧ Kp fp H5 H' ∧ us.length = as.length ∧ DtAll M.K H' us (as.map asD) ∧ σ1 = [some (.ref fp), some (.ref ta), some (.str nm), some vg, some (.ref l), some (.int (i : Int)), some v, some vt]) ?_ ?_
      · tm_at "go"
        refine ifd (fun c1 => ?_) (fun c1 => ?_)
        · refine e_ix ?_
          tm_at "go"
          exact ⟨.nm r.1, _, us, ⟨r, hr, rfl, by omega⟩, .str _, i5, Kp.refl _ _, lus, h4.mono k5.t, rfl⟩
        · refine e_tupD ?_
          tm_at "go"
          refine e_callD d0 ?_
          tm_at "go"
          refine ⟨fp, cl, _, _, rfl, f5, .cons (hc.mono i5.kp.t) (.cons (.int 0) .nil), ⟨rs, 0, rfl, C, by decide⟩, ?_⟩
          intro d v6 H6 hr6 k6 f6 hv6
          obtain ⟨e, rfl, fit, dep⟩ := rForm_of hr6
          tm_at "go"
          refine tupend (ds := [.str r.1, e.d]) (.cons (.str _) (.cons hv6 .nil)) (Nat.le_of_ble_eq_true rfl) fun v9 H9 s9 h9 => ?_
          have dep : e.dep ≤ 0 := dep
          exact ⟨.at r.1 e, v9, us, ⟨⟨r, hr, rfl, by omega⟩, fit, by omega⟩, h9, (i5.draw k6 f6).same s9, k6.trans (kp_same s9), lus, h4.mono (k5.t.trans (k6.t.trans (tp_same s9))), rfl⟩
      rintro _ H6 ⟨t, vt, us, fitT, hvt, i6, k6, lus6, h6, rfl⟩
      tm_at "go"
      refine s_expr (e_app (e_var (by tm_at "at") ⟨l, _, rfl, i6.g, ?_⟩))
      refine e_tupD ?_
      tm_at "go"
      refine e_callD d2 ?_
      tm_at "go"
      refine ⟨fp, cl, _, _, rfl, i6.fd, .cons (hc.mono i6.kp.t) (.cons (.int 2) .nil), ⟨rs, 2, rfl, C, by decide⟩, ?_⟩
      intro d v7 H7 hr7 k7 f7 hv7
      obtain ⟨e, rfl, fit, dep⟩ := rForm_of hr7
      tm_at "go"
      refine tupend (ds := [t.d, e.d]) (.cons (hvt.mono k7.t) (.cons hv7 .nil)) (Nat.le_of_ble_eq_true rfl) fun v9 H9 s9 h9 => ?_
      have i9 := (i6.draw k7 f7).same s9
      refine ⟨us, i9.g, by omega, ?_⟩
      have kt := (kp_upd (o' := .lst (us ++ [v9])) i9.g (fun _ e => nomatch e) (fun _ _ e => nomatch e)).t
      have kk : Kp fp H1 H9 := kk4.trans (k5.trans (k6.trans (k7.trans (kp_same s9))))
      refine ⟨us ++ [v9], as ++ [(t, e)], _, _, _, ?_, by rw [List.length_append, hlen]; rfl, i9.app v9, kp_mut kk n2, ?_, rfl⟩
      · intro p hp
        rcases List.mem_append.mp hp with hp | hp
        · exact hfit p hp
        · rw [List.mem_singleton.mp hp]
          exact ⟨fitT, fit, dep⟩
      · rw [List.map_append]
        exact ((h6.mono (k7.t.trans (tp_same s9))).mono kt).app (.cons (h9.mono kt) .nil)
    · rintro σ' H4 ⟨us, as, v5, v6, v7, hfit, hlen, i4, kk4, h4, rfl⟩
      rw [en] at hlen
      exact ⟨us, as, v5, v6, v7, hfit, by omega, by omega, i4, kk4, h4, rfl⟩
  rintro _ H4 ⟨us, as, v5, v6, v7, hfit, h1, h2, i4, kk4, h4, rfl⟩
  have lus := h4.len
  rw [List.length_map] at lus
  tm_at "go"
  refine e_tupD ?_
  tm_at "go"
  refine rc_tupL (.of i4.g) h4 fun v8 H8 s8 h8 => ?_
  tm_at "go"
  refine tupend (ds := [.str nm, g.d, .tuple (as.map asD)]) (.cons (.str _) (.cons (hg.mono ?_) (.cons h8 .nil))) (Nat.le_of_ble_eq_true rfl) fun v9 H9 s9 h9 => ?_
  · exact kk4.t.trans (tp_same s8)
  refine k _ _ _ ⟨rs, nm, ⟨nm, g, as⟩, rfl, rfl, ⟨⟨names_ok nm hnm, ⟨gfit, by show g.dep ≤ 4; omega⟩, by show as.length ≤ 10; omega, fun z => ?_, hfit⟩, h2⟩, rfl⟩ (i4.kp.trans ((kp_same s8).trans (kp_same s9))) ((i4.fd.same s8).same s9) h9
  have z : as = [] := z
  rw [z] at h1
  exact absurd h1 (by decide)
end K

namespace Srt
open PySem PySem.Spec PySem.W PySem.Calls PyProof.Rows
variable {prog : Program} {w : World} {A : Around} {E : Value → Shared → Prop} {s : Shared}
/-- v is a tuple of two texts in the heap -/
def IsPrS (h : Heap) (v : Value) (x y : Str) : Prop := ∃ a o t u n, v = .ref a ∧ h.get? a = some o ∧ o.cls = .type "tuple" ∧ o.data = .seq #[.str x t, .str y u] n
theorem IsPrS.keeps {h h' : Heap} {v : Value} {x y : Str} (p : IsPrS h v x y) (k : ∀ b o, h.get? b = some o → o.cls = .type "tuple" → h'.get? b = some o) : IsPrS h' v x y := by
  obtain ⟨a, o, t, u, n, e, ho, hc, hd⟩ := p
  exact ⟨a, o, t, u, n, e, k _ _ ho hc, hc, hd⟩
theorem prS_tot {vs : List Value} (hp : ∀ v ∈ vs, ∃ x y, IsPrS s.heap v x y) : Tot prog w A s (tuples' true) (fun p => p.1 ∈ vs) := by
  intro p q hm hm'
  obtain ⟨x, y, a, o, t, u, n, e, ho, hc, hd⟩ := hp _ hm
  obtain ⟨x', y', a', o', t', u', n', e', ho', hc', hd'⟩ := hp _ hm'
  rw [e, e']
  refine ⟨if (x == x') = true then (if (y == y') = true then false else decide (y.cps.toList < y'.cps.toList)) else decide (x.cps.toList < x'.cps.toList), ?_⟩
  refine PySem.W.kat_lt ho hd ho' hd' ?_
  show PySem.W.KatLex prog w A true (decide (2 < 2)) _ [(.str x t, .str x' t'), (.str y u, .str y' u')] 0 s
  refine PySem.W.kat_cons (SeqAt.EqAt.str_str x t x' t' prog w _ _ ?_)
  refine PySem.W.kat_go (fun e1 => ?_) (fun e1 => ?_)
  · refine PySem.W.kat_yes (PySem.W.kat_cons (SeqAt.EqAt.str_str y u y' u' prog w _ _ ?_))
    refine PySem.W.kat_go (fun e2 => ?_) (fun e2 => ?_)
    · exact PySem.W.kat_yes (PySem.W.kat_nil ⟨rfl, by rw [if_pos e1, if_pos e2]; rfl⟩)
    · refine PySem.W.kat_no (oneLt_any_str ?_)
      exact ⟨rfl, by rw [if_pos e1, if_neg (by rw [e2]; decide)]⟩
  · refine PySem.W.kat_no (oneLt_any_str ?_)
    exact ⟨rfl, by rw [if_neg (by rw [e1]; decide)]⟩
theorem firstsS {h : Heap} : ∀ {vs : List Value}, (∀ v ∈ vs, ∃ x y, IsPrS h v x y) → ∃ fs : List Value, PySem.W.KatTups h vs fs ∧ fs.length = vs.length ∧ ∀ f ∈ fs, ∃ x t, f = Value.str x t
  | [], _ => ⟨[], PySem.W.KatTups.nil, rfl, fun _ hm => by simp at hm⟩
  | v :: vs, hp => by
    obtain ⟨fs, h1, h2, h3⟩ := firstsS (vs := vs) fun v' hm => hp v' (List.mem_cons_of_mem _ hm)
    obtain ⟨x, y, a, o, t, u, n, e, ho, hc, hd⟩ := hp v (List.mem_cons_self ..)
    subst e
    refine ⟨.str x t :: fs, PySem.W.KatTups.cons ho hc hd rfl h1, by rw [List.length_cons, List.length_cons, h2], fun f hm => ?_⟩
    rcases List.mem_cons.mp hm with rfl | hm
    · exact ⟨x, t, rfl⟩
    · exact h3 f hm
theorem prS_sortable {a : Addr} {vs : List Value} (h0 : 0 < vs.length) (hp : ∀ v ∈ vs, ∃ x y, IsPrS s.heap v x y) (ha : ∀ o, s.heap.get? a = some o → o.cls ≠ .type "tuple") : Sortable prog w A s a vs := by
  intro h' keep
  have hp' : ∀ v ∈ vs, ∃ x y, IsPrS h' v x y := fun v hm => by
    obtain ⟨x, y, p⟩ := hp v hm
    exact ⟨x, y, p.keeps fun b o e c => keep b o (fun z => by subst z; exact ha o e c) e⟩
  obtain ⟨fs, h1, h2, h3⟩ := firstsS hp'
  refine ⟨tuples' true, fun Q E hq => ?_, prS_tot hp'⟩
  refine PySem.W.kat_kind (T := .type "str") h1 (by omega) (fun f hm => ?_) (by rfl) ?_
  · obtain ⟨x, t, rfl⟩ := h3 f hm
    exact PySem.W.Looks.now
  · have e : (Value.type "str" != Value.type "tuple") = true := by first | decide +kernel | rfl | decide
    rw [e]
    exact hq
theorem sorted_prS {l : Addr} {vs : List Value} {Q : Value → Shared → Prop} (hl : s.heap.IsList l vs.toArray) (hz : vs.length ≤ sizeLine) (hp : ∀ v ∈ vs, ∃ x y, IsPrS s.heap v x y)
    (h : ∀ (h' : Heap) (d : Addr) (out : List Value), out.Perm vs → (∀ b o, s.heap.get? b = some o → h'.get? b = some o) → s.heap.objs.size ≤ d → (∃ n, h'.get? d = some (seqObj "list" out.toArray n)) → Q (.ref d) { s with heap := h' }) :
    wpAny (model prog w) A (call (.builtin "sorted") [.ref l]) Q E s := by
  refine sorted_any hl hz (fun h2 h₁ a ha k => ?_) fun out ho => ?_
  · refine prS_sortable (s := { s with heap := h₁ }) (by omega) (fun v hm => ?_) fun o e => ?_
    · obtain ⟨x, y, p⟩ := hp v hm
      exact ⟨x, y, p.keeps fun b o e _ => (k b o e).2⟩
    · have e' : some o = some (seqObj "list" vs.toArray 0) := e.symm.trans ha
      cases e'
      intro c
      exact absurd (Value.type.inj c) (by decide)
  · exact h _ _ out ho (fun b o e => sortedAll_old e) (Nat.le_succ _) (sortedAll_at s.heap vs out.toArray)
end Srt
namespace G
open PySem PySem.Spec PyProof.Rows L2
def prS (p : Str × Str) : PyData := .tuple [.str p.1, .str p.2]
theorem DtAll.perm {K : PySem.W.Frag} {H : Hp} {P : PyData → Prop} : ∀ {ys xs : List V}, ys.Perm xs → (∀ x ∈ xs, ∃ d, P d ∧ Dt K H x d) → ∃ ds, DtAll K H ys ds ∧ ds.length = xs.length ∧ ∀ d ∈ ds, P d := by
  intro ys xs hp h
  have h2 : ∀ y ∈ ys, ∃ d, P d ∧ Dt K H y d := fun y hy => h y (hp.mem_iff.mp hy)
  have : ∃ ds, DtAll K H ys ds ∧ ds.length = ys.length ∧ ∀ d ∈ ds, P d := by
    clear hp h
    induction ys with
    | nil => exact ⟨[], .nil, rfl, fun _ h => nomatch h⟩
    | cons y ys ih =>
      obtain ⟨d, hd, dt⟩ := h2 y (List.mem_cons_self ..)
      obtain ⟨ds, a, b, c⟩ := ih fun z hz => h2 z (List.mem_cons_of_mem _ hz)
      refine ⟨d :: ds, .cons dt a, by rw [List.length_cons, List.length_cons, b], fun e he => ?_⟩
      rcases List.mem_cons.mp he with rfl | he
      · exact hd
      · exact c e he
  obtain ⟨ds, a, b, c⟩ := this
  exact ⟨ds, a, b.trans hp.length_eq, c⟩
/-- sorted(xs) of pairs of texts: the same pairs in some order -/
def rSoS (K : PySem.W.Frag) : List V → Hp → VK → Prop := fun vs H Q => ∃ (a : Addr) (xs : List V) (ps : List (Str × Str)), vs = [V.ref a] ∧ SqL K H a xs ∧ DtAll K H xs (ps.map prS) ∧
  ∀ ys p, H p = none → ys.Perm xs → Q (.ref p) (upd H p (.lst ys))
theorem cr_soS {X : Cx} : CallR X (.builtin "sorted") (rSoS X.K) := by
  intro pins st σ H args us Q J rv z
  obtain ⟨a, xs, es, rfl, hs, hd, k⟩ := z
  obtain rfl := Vals.ref1 rv
  obtain ⟨its, rel, plain, few⟩ := J.list hs
  have has : ∀ v ∈ xs, ∃ (p : Str × Str) (t : Addr), v = .ref t ∧ SqT X.K H t [.str p.1, .str p.2] := fun v hv => by
    obtain ⟨i, hi⟩ := List.mem_iff_getElem?.mp hv
    obtain ⟨d, hd', hx⟩ := hd.getV hi
    rw [List.getElem?_map] at hd'
    obtain ⟨p, _, rfl⟩ := Option.map_eq_some_iff.mp hd'
    obtain ⟨a, ys, rfl, ht, hd2⟩ := Dt.tupE (show Dt X.K H v (.tuple [.str p.1, .str p.2]) from hx)
    obtain _ | ⟨h1, hd2⟩ := hd2
    obtain _ | ⟨h2, hd2⟩ := hd2
    cases hd2
    cases h1
    cases h2
    exact ⟨p, a, rfl, ht⟩
  obtain ⟨back, refs⟩ := refs_back rel fun x m => let ⟨_, t, e, _⟩ := has x m; ⟨t, e⟩
  refine Srt.sorted_prS plain.isList (by rw [← rel.length]; exact few) (fun v hv => ?_) fun h' d out h2 kp hdd new => ?_
  · obtain ⟨t, rfl⟩ := refs v hv
    have inx : V.ref t ∈ xs := by rw [back]; exact List.mem_map.mpr ⟨_, hv, rfl⟩
    obtain ⟨p, t', e, ht⟩ := has _ inx
    cases e
    obtain ⟨its2, r2, ⟨o, g1, g2, n, g3⟩, _⟩ := J.tuple ht
    obtain ⟨u1, u2, rfl, ⟨t1, rfl⟩, ⟨t2, rfl⟩⟩ := vals2 r2
    exact ⟨p.1, p.2, t, o, t1, t2, n, rfl, g1, g2, g3⟩
  · obtain ⟨n, made⟩ := new
    have perm : (out.map backV).Perm xs := by
      rw [back]
      exact h2.map _
    have h3 : ∀ u ∈ out, ∃ a, u = Value.ref a := fun u hu => refs u (h2.mem_iff.mp hu)
    refine ⟨.ref d, upd H d (.lst (out.map backV)), J.laid (t' := st.toks) kp hdd ⟨?_, out, n, vals_back h3, made⟩, rfl, k _ d (J.hok.fresh hdd) perm⟩
    rw [perm.length_eq]
    exact few
theorem rc_sortedS {c : Cd} {H : Hp} {Q : VK} {l : Addr} {us : List V} {ps : List (Str × Str)} (hl : H l = some (.lst us)) (hd : DtAll c.K H us (ps.map prS))
    (q : ∀ p ys H', Same H H' → H p = none → H' p = some (.lst ys) → (∃ qs : List (Str × Str), DtAll c.K H' ys (qs.map prS) ∧ qs.length = ps.length ∧ ∀ p ∈ qs, p ∈ ps) → Q (.ref p) H') : RC c (.builtin "sorted") [.ref l] H Q := by
  refine rc_of (r := rSoS c.K) (fun X h => by rw [← h.K]; exact cr_soS) ⟨l, us, ps, rfl, .of hl, hd, fun ys p hp perm => ?_⟩
  have s := same_new (o := .lst ys) hp
  refine q p ys _ s hp upd_same ?_
  have hall : ∀ x ∈ us, ∃ d, (∃ p ∈ ps, d = prS p) ∧ Dt c.K H x d := fun x hx => by
    obtain ⟨i, hi⟩ := List.mem_iff_getElem?.mp hx
    obtain ⟨d, hd', hx'⟩ := hd.getV hi
    rw [List.getElem?_map] at hd'
    obtain ⟨p, hp, rfl⟩ := Option.map_eq_some_iff.mp hd'
    exact ⟨_, ⟨p, List.mem_of_getElem? hp, rfl⟩, hx'⟩
  obtain ⟨ds, a, b, cc⟩ := DtAll.perm perm hall
  have : ∃ qs : List (Str × Str), ds = qs.map prS ∧ ∀ p ∈ qs, p ∈ ps := by
    clear a b
    induction ds with
    | nil => exact ⟨[], rfl, fun _ h => nomatch h⟩
    | cons d ds ih =>
      obtain ⟨p, hp, rfl⟩ := cc d (List.mem_cons_self ..)
      obtain ⟨qs, rfl, h2⟩ := ih fun e he => cc e (List.mem_cons_of_mem _ he)
      refine ⟨p :: qs, rfl, fun e he => ?_⟩
      rcases List.mem_cons.mp he with rfl | he
      · exact hp
      · exact h2 e he
  obtain ⟨qs, rfl, h2⟩ := this
  have hl2 := hd.len
  rw [List.length_map] at hl2 b
  exact ⟨qs, a.mono (tp_same s), by omega, h2⟩
end G

namespace K
open PySem PySem.Spec PyProof.Rows L2 G
variable {M : Md}
theorem In.oth {K0 : PySem.W.Frag} {fp cl l l2 : Addr} {us ws : List V} {H H1 : Hp} (i : In K0 fp cl l us H H1) (i2 : In K0 fp cl l2 ws H H1) (ne : l2 ≠ l) (o : HO) : In K0 fp cl l2 ws H (upd H1 l o) :=
  ⟨kp_mut i.kp i.n, i.fd.upd i.ne i.nc, i2.nc, (upd_ne ne).trans i2.g, i2.n, i2.ne⟩
def pairsD (ps : List (Str × Str)) : PyData := .tuple (ps.map prS)
def spPairs (K : PySem.W.Frag) : Sp := fun vs H Q _ => ∃ (fd cl nl : Addr) (ns : List Str), vs = [.ref fd, .ref nl] ∧ Feed K H fd cl ∧ H nl = some (.lst (ns.map .str)) ∧ nl ≠ fd ∧ ns.length ≤ 5 ∧
  ∀ (v : V) (ps : List (Str × Str)) (H' : Hp), (∀ p ∈ ps, p.1 ∈ ns ∧ p.2 ∈ ns) → ps.length ≤ 25 → Kp fd H H' → Feed K H' fd cl → Dt K H' v (pairsD ps) → Q v H'
theorem cutV_map (os : List Str) (lo hi : Option Int) : ∃ ws : List Str, cutV (os.map V.str) lo hi = ws.map .str ∧ ws.Sublist os := by
  unfold cutV
  rw [List.length_map, ← List.map_drop, ← List.map_take]
  exact ⟨_, rfl, (List.take_sublist _ _).trans (List.drop_sublist _ _)⟩
set_option maxHeartbeats 2000000 in
theorem ok_pairs {f fd} (F : Fun M.K "_law_some_pairs" "_law_some_pairs" s__law_some_pairs f fd) (b : Bl M) (b3 : Bl3 M) (dd : dcDraw M) : FnG M.prog M.w M.K M.mg M.base CX0 2 f fd ["_law_feed_here", "_law_names_here"] (spPairs M.K) := by
  refine fn_ok F sc__law_some_pairs (fun vs H Q E h => ?_) (fun H vs Q E h => ?_)
  · obtain ⟨_, _, _, _, rfl, _⟩ := h
    rfl
  obtain ⟨fp, cl, nl, ns, rfl, hf, hn, hne, hlen, k⟩ := h
  refine b_cut (fun σ1 H' => ∃ (l1 l2 : Addr), l1 ≠ l2 ∧ σ1 = [some (.ref fp), some (.ref nl), some (.ref l1), some (.ref l2), none, none, none, none] ∧ In M.K fp cl l1 [] H H' ∧ In M.K fp cl l2 [] H H') ?_ ?_
  · refine s_par2 (by tm_at "at") (by tm_at "at") ?_
    refine e_lstD (a_nil ⟨(Nat.le_of_ble_eq_true rfl), fun l1 H1 s1 n1 g1 => ?_⟩)
    refine e_lstD (a_nil ⟨(Nat.le_of_ble_eq_true rfl), fun l2 H2 s2 n2 g2 => ?_⟩)
    have f1 := hf.same s1
    have i1 : In M.K fp cl l1 [] H H1 := ⟨kp_same s1, f1, ne_cl hf (Same.refl _) n1, g1, n1, ne_feed hf (Same.refl _) n1⟩
    refine ⟨l1, l2, fun e => ?_, rfl, i1.same s2, kp_same (s1.trans s2), f1.same s2, ne_cl f1 (Same.refl _) n2, g2, ?_, ne_feed f1 (Same.refl _) n2⟩
    · rw [← e, g1] at n2
      cases n2
    · exact kp_none (kp_same (m := fp) s1) n2 (ne_feed f1 (Same.refl _) n2)
  rintro _ H1 ⟨l1, l2, ne12, rfl, i1, j1⟩
  refine b_cut (fun σ1 H' => ∃ (os : List Str) (v4 : Option V), os.length = ns.length ∧ (∀ o ∈ os, o ∈ ns) ∧ σ1 = [some (.ref fp), some (.ref nl), some (.ref l1), some (.ref l2), v4, none, none, none] ∧ In M.K fp cl l1 (os.map .str) H H' ∧ In M.K fp cl l2 [] H H') ?_ ?_
  · refine s_forL (e_var (by tm_at "at") ⟨nl, _, rfl, .of (i1.kp.k _ _ hne hn), fun i σ' H' => ∃ (os : List Str) (v4 : Option V), os.length = i ∧ (∀ o ∈ os, o ∈ ns) ∧ σ' = [some (.ref fp), some (.ref nl), some (.ref l1), some (.ref l2), v4, none, none, none] ∧ In M.K fp cl l1 (os.map .str) H H' ∧ In M.K fp cl l2 [] H H', ?_, ?_, ?_, ?_⟩)
    · exact ⟨[], none, rfl, (fun _ h => nomatch h), rfl, i1, j1⟩
    · rintro i σ' H' hi ⟨os, v4, h1, h2, rfl, h4, h5⟩
      exact .of (h4.kp.k _ _ hne hn)
    · rintro i x σ' H' hx ⟨os, v4, h1, h2, rfl, h4, h5⟩
      have hi := (List.getElem?_eq_some_iff.mp hx).1
      rw [List.length_map] at hi
      rw [List.getElem?_map] at hx
      obtain ⟨nm, hnm, rfl⟩ := Option.map_eq_some_iff.mp hx
      refine g_name (by tm_at "at") ?_
      refine b_one (s_expr (e_insert (e_var (by tm_at "at") ⟨l1, _, rfl, h4.g, ?_⟩)))
      refine e_drawV dd ?_
      tm_at "go"
      refine rc_lenL (.of h4.g) ?_
      rw [List.length_map]
      tm_at "go"
      refine ⟨fp, cl, _, rfl, rfl, by omega, h4.fd, fun r H2 r0 r1 k2 f2 => ?_⟩
      tm_at "go"
      have h42 := h4.draw k2 f2
      have h52 := h5.draw k2 f2
      refine ⟨_, r, rfl, h42.g, r0, by omega, by rw [List.length_map]; omega, ?_⟩
      refine ⟨os.take r.toNat ++ [nm] ++ os.drop r.toNat, _, ?_, ?_, rfl, ?_, h42.oth h52 (Ne.symm ne12) _⟩
      · simp only [List.length_append, List.length_take, List.length_drop, List.length_singleton]
        omega
      · intro o ho
        rcases List.mem_append.mp ho with ho | ho
        · rcases List.mem_append.mp ho with ho | ho
          · exact h2 o (List.mem_of_mem_take ho)
          · rw [List.mem_singleton.mp ho]
            exact List.mem_of_getElem? hnm
        · exact h2 o (List.mem_of_mem_drop ho)
      · have e : (os.take r.toNat ++ [nm] ++ os.drop r.toNat).map V.str = (os.map V.str).take r.toNat ++ [V.str nm] ++ (os.map V.str).drop r.toNat := by
          rw [List.map_append, List.map_append, List.map_take, List.map_drop]
          rfl
        rw [e]
        exact ⟨kp_mut h42.kp h42.n, h42.fd.upd h42.ne h42.nc, h42.nc, upd_same, h42.n, h42.ne⟩
    · rintro σ' H' ⟨os, v4, h1, h2, rfl, h4, h5⟩
      rw [List.length_map] at h1
      exact ⟨os, v4, h1, h2, rfl, h4, h5⟩
  rintro _ H2 ⟨os, v4, ol, om, rfl, i2, j2⟩
  refine b_cut (fun σ1 H' => ∃ (ps : List (Str × Str)) (us : List V) (v4 v5 v6 v7 : Option V), ps.length ≤ 25 ∧ (∀ p ∈ ps, p.1 ∈ ns ∧ p.2 ∈ ns) ∧ σ1 = [some (.ref fp), some (.ref nl), some (.ref l1), some (.ref l2), v4, v5, v6, v7] ∧ In M.K fp cl l2 us H H' ∧ DtAll M.K H' us (ps.map prS)) ?_ ?_
  · refine s_for (i_enumL b3.enum (e_var (by tm_at "at") ⟨l1, _, rfl, .of i2.g, ?_⟩))
    refine ⟨fun i m σ' H' => m = os.length - i ∧ i ≤ os.length ∧ ∃ (ps : List (Str × Str)) (us : List V) (v4 v5 v6 v7 : Option V), ps.length ≤ 5 * i ∧ (∀ p ∈ ps, p.1 ∈ ns ∧ p.2 ∈ ns) ∧ σ' = [some (.ref fp), some (.ref nl), some (.ref l1), some (.ref l2), v4, v5, v6, v7] ∧ In M.K fp cl l1 (os.map .str) H H' ∧ In M.K fp cl l2 us H H' ∧ DtAll M.K H' us (ps.map prS), ⟨_, rfl, Nat.zero_le _, [], [], _, _, _, _, Nat.le_refl _, (fun _ h => nomatch h), rfl, i2, j2, .nil⟩, ?_⟩
    rintro i m σ' H' ⟨rfl, hi, ps, us, v4, v5, v6, v7, hl, hp, rfl, ii, jj, hd⟩
    have osq : SqL M.K H' l1 (os.map V.str) := .of ii.g
    by_cases more : i < os.length
    · refine .inr ⟨⟨os.map V.str, V.str os[i], osq, by rw [List.getElem?_map, List.getElem?_eq_getElem more]; rfl⟩, _, fun σ2 H2 z => ⟨os.length - (i + 1), by omega, rfl, more, z⟩, fun x H3 got => ?_⟩
      obtain ⟨T, y, rfl, hT, rfl, hyy⟩ := got
      have e1 := hyy _ osq
      rw [List.getElem?_map, List.getElem?_eq_getElem more] at e1
      obtain rfl : V.str os[i] = y := Option.some.inj e1
      have sn := same_new (o := .tup [.int (i : Nat), .str os[i]]) hT
      have ii := ii.same sn
      have jj := jj.same sn
      have hd := hd.mono (tp_same sn)
      refine g_tup (.of upd_same) (gs_cons (g_name (by tm_at "at") (gs_cons (g_name (by tm_at "at") (gs_nil ?_)))))
      generalize upd H' T (HO.tup [.int (i : Nat), .str os[i]]) = H3 at *
      refine b_one (s_expr (e_ext (e_var (by tm_at "at") ⟨l2, _, rfl, jj.g, ?_⟩)))
      refine e_lc (own := [("_law_other", 7)]) (Blk.of (N := N__law_some_pairs) (sc := defScope s__law_some_pairs) rfl rfl (by decide +kernel)) ?_
      refine lc_L ?_
      refine e_slice ?_
      tm_at "go"
      refine rsl_list (.of ii.g) fun p H4 s4 n4 g4 => ?_
      obtain ⟨ws, ew, sub⟩ := cutV_map os (some ((i : Int) + 1)) none
      rw [ew] at g4
      have wl : ws.length ≤ 5 := Nat.le_trans sub.length_le (by omega)
      have jj4 := jj.same s4
      refine ⟨p, _, rfl, .of g4, by rw [List.length_map]; omega, fun D hD => ?_⟩
      have pD : p ≠ D := fun e => by rw [e, hD] at g4; cases g4
      have nD : D ≠ fp := ne_feed jj4.fd (Same.refl _) hD
      have nC : D ≠ cl := ne_cl jj4.fd (Same.refl _) hD
      have n2D : l2 ≠ D := fun e => by have := jj4.g; rw [e, hD] at this; cases this
      have hpfp : p ≠ fp := ne_feed jj.fd (Same.refl _) n4
      have jD : In M.K fp cl D [] H4 (upd H4 D (.lst [])) := ⟨kp_same (same_new hD), jj4.fd.upd nD nC, nC, upd_same, hD, nD⟩
      refine ⟨fun t acc H' => ∃ qs : List (Str × Str), acc.length ≤ t ∧ qs.length = acc.length ∧ (∀ p ∈ qs, p.1 ∈ ns ∧ p.2 ∈ ns) ∧ In M.K fp cl D acc H4 H' ∧ DtAll M.K H' acc (qs.map prS), ⟨[], Nat.le_refl _, rfl, (fun _ h => nomatch h), jD, .nil⟩, ?_, ?_, ?_⟩
      · rintro t acc H' ht ⟨qs, a1, a2, a3, a4, a5⟩
        exact ⟨.of (a4.kp.k _ _ hpfp g4), a1⟩
      · rintro t x acc H' hx ⟨qs, a1, a2, a3, a4, a5⟩
        rw [List.getElem?_map] at hx
        obtain ⟨o2, ho2, rfl⟩ := Option.map_eq_some_iff.mp hx
        have o2m : o2 ∈ ns := om _ (sub.mem (List.mem_of_getElem? ho2))
        refine g_name (by tm_at "at") ⟨rfl, ts_one ?_⟩
        tm_at "go"
        refine e_drawV dd ?_
        tm_at "go"
        refine ⟨fp, cl, 4, rfl, rfl, by decide, a4.fd, fun r H5 r0 r1 k5 f5 => ?_⟩
        have b4 := a4.draw k5 f5
        tm_at "go"
        refine ifd (fun c1 => ?_) (fun c1 => ?_)
        · refine e_tupD ?_
          tm_at "go"
          refine tupend (ds := [.str os[i], .str o2]) (.cons (.str _) (.cons (.str _) .nil)) (Nat.le_of_ble_eq_true rfl) fun v9 H9 s9 h9 => ?_
          have b9 := b4.same s9
          have kt := (kp_upd (o' := .lst (acc ++ [v9])) b9.g (fun _ e => nomatch e) (fun _ _ e => nomatch e)).t
          refine ⟨b9.g, qs ++ [(os[i], o2)], by rw [List.length_append]; exact Nat.succ_le_succ a1, by rw [List.length_append, List.length_append, a2]; rfl, ?_, b9.app v9, ?_⟩
          · intro q hq
            rcases List.mem_append.mp hq with hq | hq
            · exact a3 q hq
            · rw [List.mem_singleton.mp hq]
              exact ⟨om _ (List.getElem_mem more), o2m⟩
          · rw [List.map_append]
            exact ((a5.mono (k5.t.trans (tp_same s9))).mono kt).app (.cons (h9.mono kt) .nil)
        · exact ⟨qs, Nat.le_succ_of_le a1, a2, a3, b4, a5.mono k5.t⟩
      · rintro acc H5 ⟨qs, a1, a2, a3, a4, a5⟩
        rw [List.length_map] at a1
        have jj5 := jj4.draw a4.kp a4.fd
        have lus := hd.len
        rw [List.length_map] at lus
        refine ⟨D, _, _, rfl, jj5.g, a4.g, by omega, ?_⟩
        have kt := (kp_upd (o' := .lst (us ++ acc)) jj5.g (fun _ e => nomatch e) (fun _ _ e => nomatch e)).t
        refine ⟨ps ++ qs, us ++ acc, _, _, _, _, by rw [List.length_append]; omega, ?_, rfl, ?_, ?_, ?_⟩
        · intro q hq
          rcases List.mem_append.mp hq with hq | hq
          · exact hp q hq
          · exact a3 q hq
        · exact In.oth jj5 (((ii.same s4).draw a4.kp a4.fd)) ne12 _
        · exact ⟨kp_mut jj5.kp jj5.n, jj5.fd.upd jj5.ne jj5.nc, jj5.nc, upd_same, jj5.n, jj5.ne⟩
        · rw [List.map_append]
          exact (((hd.mono (tp_same s4)).mono a4.kp.t).mono kt).app (a5.mono kt)
    · obtain rfl : i = os.length := by omega
      exact .inl ⟨⟨_, osq, by rw [List.length_map]; exact Nat.le_refl _⟩, ps, us, v4, v5, v6, v7, by omega, hp, rfl, jj, hd⟩
  rintro _ H3 ⟨ps, us, v4, v5, v6, v7, hl, hp, rfl, jj, hd⟩
  tm_at "go"
  refine rc_sortedS jj.g hd fun p ys H4 s4 n4 g4 ⟨qs, hq, ql, qm⟩ => ?_
  tm_at "go"
  refine rc_tupL (.of g4) hq fun v8 H8 s8 h8 => ?_
  exact k _ _ _ (fun p hp' => hp p (qm p hp')) (by omega) (jj.kp.trans ((kp_same s4).trans (kp_same s8))) ((jj.fd.same s4).same s8) h8
end K

namespace K
open PySem PySem.Spec PyProof.Rows L2 G
variable {M : Md}
/-! ### programs drawn -/
def namesA : List Str := ["a", "go", "pair", "x", "zzzzzzzz", "add", "twice", "see"]
structure Wd where
  rs : List Row
  rl : List Rl
  ps : List (Str × Str)
  goal : Ex
def goals : List Ex := [.int 1, .bin "<" (.nm "x") (.int 1), .int 0, .at "t" (.int 1)]
def Wd.d (w : Wd) : PyData := progD w.rs w.rl [pairsD w.ps, w.goal.d]
structure WdOk (w : Wd) : Prop where
  cells : CellsOk w.rs
  rules : ∀ r ∈ w.rl, RlOk w.rs r ∧ r.name ∈ namesA
  few : w.rl.length ≤ 5
  nd : (w.rl.map Rl.name).Nodup
  ps : ∀ p ∈ w.ps, p.1 ∈ namesA ∧ p.2 ∈ namesA
  pl : w.ps.length ≤ 25
  goal : w.goal ∈ goals
  gfit : Fit w.rs w.goal
theorem names_sub : ∀ w ∈ names5, w ∈ namesA := by decide +kernel
theorem names_nd : names5.Nodup := by decide +kernel
def prePg : List PyData → Prop := fun ds => ∃ m : Int, ds = [.int m] ∧ (1 ≤ m ∧ m ≤ 4)
def rPg : List PyData → PyData → Prop := fun _ d => ∃ w : Wd, d = w.d ∧ WdOk w
abbrev dcNm (M : Md) : Prop := Dc M "_law_names" ["_law_feed_here", "_law_most"] 2 (spNames M.K)
abbrev dcPairs (M : Md) : Prop := Dc M "_law_some_pairs" ["_law_feed_here", "_law_names_here"] 2 (spPairs M.K)
abbrev dcCells (M : Md) : Prop := Dc M "_law_cells" ["_law_feed_here"] 2 (spD preCells rCells M.K)
set_option maxHeartbeats 2000000 in
theorem ok_program {f fd} (F : Fun M.K "_law_program" "_law_program" s__law_program f fd) (b : Bl M) (dc : dcCells M) (dn : dcNm M) (dr : dcRl M) (dp : dcPairs M) (da : dcAny M) : FnG M.prog M.w M.K M.mg M.base CX0 7 f fd ["_law_feed_here", "_law_most"] (spD prePg rPg M.K) := by
  refine fn_ok F sc__law_program (spD_len (n := 1) (by rintro ds ⟨_, rfl, _⟩; rfl)) (fun H vs Q E h => ?_)
  obtain ⟨fp, cl, rest, ds, rfl, hf, hds, ⟨m, rfl, hm⟩, k⟩ := h
  obtain _ | ⟨hmm, hds⟩ := hds
  cases hds
  cases hmm
  refine b_cons (s_set (by tm_at "at") ?_)
  refine e_callD dc ?_
  tm_at "go"
  refine ⟨fp, cl, _, _, rfl, hf, .nil, rfl, ?_⟩
  rintro d vc H1 ⟨rs, rfl, C⟩ k1 f1 hc
  refine b_cons (s_set (by tm_at "at") ?_)
  refine e_call dn ?_
  tm_at "go"
  refine ⟨fp, cl, m, rfl, f1, hm, fun nl ns H2 sub n1 n2 k2 f2 nn gn nc nf => ?_⟩
  have nlen : ns.length ≤ 5 := sub.length_le
  have ns5 : ∀ o ∈ ns, o ∈ names5 := fun o ho => sub.mem ho
  refine b_cut (fun σ1 H' => ∃ (vr : V) (rl : List Rl), σ1 = [some (.ref fp), some (.int m), some vc, some (.ref nl), some vr, none, none, none] ∧ Kp fp H2 H' ∧ Feed M.K H' fp cl ∧ rl.map Rl.name = ns ∧ (∀ r ∈ rl, RlOk rs r) ∧ Dt M.K H' vr (.tuple (rl.map Rl.d))) ?_ ?_
  · refine s_set (by tm_at "at") (e_callT (T := "tuple") b.tuple (by decide +kernel) (a_cons ?_))
    refine e_lc (own := [("_law_name", 7)]) (Blk.of (N := N__law_program) (sc := defScope s__law_program) rfl rfl (by decide +kernel)) ?_
    refine lc_L ?_
    tm_at "go"
    refine ⟨nl, _, rfl, .of gn, by rw [List.length_map]; omega, fun D hD => ?_⟩
    have nD : D ≠ fp := ne_feed f2 (Same.refl _) hD
    have nC : D ≠ cl := ne_cl f2 (Same.refl _) hD
    have jD : In M.K fp cl D [] H2 (upd H2 D (.lst [])) := ⟨kp_same (same_new hD), f2.upd nD nC, nC, upd_same, hD, nD⟩
    refine ⟨fun t acc H' => ∃ rl : List Rl, acc.length ≤ t ∧ rl.map Rl.name = ns.take t ∧ (∀ r ∈ rl, RlOk rs r) ∧ In M.K fp cl D acc H2 H' ∧ DtAll M.K H' acc (rl.map Rl.d), ⟨[], Nat.le_refl _, rfl, (fun _ h => nomatch h), jD, .nil⟩, ?_, ?_, ?_⟩
    · rintro t acc H' ht ⟨rl, a1, a2, a3, a4, a5⟩
      exact ⟨.of (a4.kp.k _ _ nf gn), a1⟩
    · rintro t x acc H' hx ⟨rl, a1, a2, a3, a4, a5⟩
      have ht := (List.getElem?_eq_some_iff.mp hx).1
      rw [List.length_map] at ht
      rw [List.getElem?_map] at hx
      obtain ⟨nm, hnm, rfl⟩ := Option.map_eq_some_iff.mp hx
      refine g_name (by tm_at "at") ⟨rfl, ts_nil (ift ?_)⟩
      refine e_callD dr ?_
      tm_at "go"
      refine ⟨fp, cl, _, _, rfl, a4.fd, .cons (hc.mono (k2.t.trans a4.kp.t)) (.cons (.str _) .nil), ⟨rs, nm, rfl, C, ns5 nm (List.mem_of_getElem? hnm)⟩, ?_⟩
      rintro d v5 H5 ⟨rs', nm', r, e1, rfl, R, rnm⟩ k5 f5 hv5
      obtain rfl : rs = rs' := cellsD_inj (List.cons.inj e1).1
      obtain rfl : nm = nm' := PyData.str.inj (List.cons.inj (List.cons.inj e1).2).1
      have b4 := a4.draw k5 f5
      have kt := (kp_upd (o' := .lst (acc ++ [v5])) b4.g (fun _ e => nomatch e) (fun _ _ e => nomatch e)).t
      refine ⟨b4.g, rl ++ [r], by rw [List.length_append]; exact Nat.succ_le_succ a1, ?_, ?_, b4.app v5, ?_⟩
      · rw [List.map_append, a2, List.take_succ, hnm, List.map_cons, rnm]
        rfl
      · intro q hq
        rcases List.mem_append.mp hq with hq | hq
        · exact a3 q hq
        · rw [List.mem_singleton.mp hq]
          exact R
      · rw [List.map_append]
        exact ((a5.mono k5.t).mono kt).app (.cons (hv5.mono kt) .nil)
    · rintro acc H5 ⟨rl, a1, a2, a3, a4, a5⟩
      rw [List.length_map, List.take_length] at a2
      tm_at "go"
      refine rc_tupL (.of a4.g) a5 fun v8 H8 s8 h8 => ?_
      exact ⟨v8, rl, rfl, a4.kp.trans (kp_same s8), a4.fd.same s8, a2, a3, h8⟩
  rintro _ H3 ⟨vr, rl, rfl, k3, f3, rnm, rok, hr⟩
  refine b_cons (s_set (by tm_at "at") ?_)
  refine e_call dp ?_
  tm_at "go"
  refine ⟨fp, cl, nl, ns, rfl, f3, k3.k _ _ nf gn, nf, nlen, fun vp ps H4 pm pl k4 f4 hp => ?_⟩
  refine b_cut (fun σ1 H' => ∃ (l : Addr) (us : List V) (gs : List Ex), σ1 = [some (.ref fp), some (.int m), some vc, some (.ref nl), some vr, some vp, some (.ref l), none] ∧ Same H4 H' ∧ l ≠ fp ∧ H4 l = none ∧ H' l = some (.lst us) ∧ DtAll M.K H' us (gs.map Ex.d) ∧ gs.length = 4 ∧ ∀ g ∈ gs, g ∈ goals ∧ Fit rs g) ?_ ?_
  · refine s_set (by tm_at "at") (e_lstD ?_)
    refine a_cons (e_int (a_cons (e_int (a_cons (e_tupD ?_)))))
    tm_at "go"
    refine tupend (ds := [.str "<", .str "x", .int 1]) (by tm_at "dts") (Nat.le_of_ble_eq_true rfl) fun v9 H9 s9 h9 => ?_
    tm_at "go"
    refine ⟨(Nat.le_of_ble_eq_true rfl), fun l H10 s10 n10 g10 => ?_⟩
    refine ⟨l, _, [.int 1, .int 1, .bin "<" (.nm "x") (.int 1), .int 0], rfl, s9.trans s10, ne_feed (f4.same s9) (Same.refl _) n10, ?_, g10, ?_, rfl, ?_⟩
    · exact kp_none (kp_same (m := fp) s9) n10 (ne_feed (f4.same s9) (Same.refl _) n10)
    · have h9' : Dt M.K H9 v9 (Ex.bin "<" (.nm "x") (.int 1)).d := h9
      exact .cons (.int 1) (.cons (.int 1) (.cons (h9'.mono (tp_same s10)) (.cons (.int 0) .nil)))
    · intro g hg
      simp only [List.mem_cons, List.not_mem_nil, or_false] at hg
      have f1 : ∀ i : Int, 0 ≤ i → i ≤ 1 → Fit rs (.int i) := fun i a b => show -1000000 ≤ i ∧ i ≤ 1000000 by omega
      unfold goals
      rcases hg with rfl | rfl | rfl | rfl
      · exact ⟨by simp, f1 1 (by decide) (by decide)⟩
      · exact ⟨by simp, f1 1 (by decide) (by decide)⟩
      · exact ⟨by simp, by decide +kernel, C.hasx, f1 1 (by decide) (by decide)⟩
      · exact ⟨by simp, f1 0 (by decide) (by decide)⟩
  rintro _ H5 ⟨l, us, gs, rfl, s5, nlf, nl4, gl, hg, glen, gm⟩
  have kall : Kp fp H H5 := k1.trans (k2.trans (k3.trans (k4.trans (kp_same s5))))
  have hc5 : Dt M.K H5 vc (cellsD rs) := hc.mono (k2.t.trans (k3.t.trans (k4.t.trans (tp_same s5))))
  refine b_cut (fun σ1 H' => ∃ (us : List V) (gs : List Ex), σ1 = [some (.ref fp), some (.int m), some vc, some (.ref nl), some vr, some vp, some (.ref l), none] ∧ Same H4 H' ∧ H' l = some (.lst us) ∧ DtAll M.K H' us (gs.map Ex.d) ∧ (gs.length = 4 ∨ gs.length = 5) ∧ ∀ g ∈ gs, g ∈ goals ∧ Fit rs g) ?_ ?_
  · have base := fun (σ1 : L2.St) (e : σ1 = [some (.ref fp), some (.int m), some vc, some (.ref nl), some vr, some vp, some (.ref l), none]) => (⟨us, gs, e, s5, gl, hg, .inl glen, gm⟩ : ∃ (us : List V) (gs : List Ex), σ1 = [some (.ref fp), some (.int m), some vc, some (.ref nl), some vr, some vp, some (.ref l), none] ∧ Same H4 H5 ∧ H5 l = some (.lst us) ∧ DtAll M.K H5 us (gs.map Ex.d) ∧ (gs.length = 4 ∨ gs.length = 5) ∧ ∀ g ∈ gs, g ∈ goals ∧ Fit rs g)
    cases rs with
    | nil => exact absurd C.ne (Nat.lt_irrefl 0)
    | cons r0 rs0 =>
      tm_at "go"
      refine rx_tup hc5 (d := rowD r0) (pl_at (j := 0) rfl rfl) fun v0 hv0 => ?_
      tm_at "go"
      refine ifd (fun c2 => ?_) (fun c2 => ?_)
      · tm_at "go"
        refine t_val ?_
        tm_at "go"
        refine rx_tup hc5 (d := rowD r0) (pl_at (j := 0) rfl rfl) fun v0 hv0 => ?_
        tm_at "go"
        refine ifb (fun c3 => ?_) (fun c3 => ?_)
        · refine b_one (s_expr (e_app (e_var (by tm_at "at") ⟨l, _, rfl, gl, ?_⟩)))
          refine e_tupD ?_
          tm_at "go"
          refine tupend (ds := [.str "at", .str "t", .int 1]) (by tm_at "dts") (Nat.le_of_ble_eq_true rfl) fun v9 H9 s9 h9 => ?_
          have lus := hg.len
          rw [List.length_map] at lus
          refine ⟨us, s9 _ _ gl, by omega, ?_⟩
          have n49 := nl4
          refine ⟨us ++ [v9], gs ++ [.at "t" (.int 1)], rfl, same_mut (s5.trans s9) nl4, upd_same, ?_, by rw [List.length_append, glen]; exact .inr rfl, ?_⟩
          · have kt := (kp_upd (o' := .lst (us ++ [v9])) (s9 _ _ gl) (fun _ e => nomatch e) (fun _ _ e => nomatch e)).t
            rw [List.map_append]
            have h9' : Dt M.K H9 v9 (Ex.at "t" (.int 1)).d := h9
            exact ((hg.mono (tp_same s9)).mono kt).app (.cons (h9'.mono kt) .nil)
          · intro g hgm
            rcases List.mem_append.mp hgm with hgm | hgm
            · exact gm g hgm
            · rw [List.mem_singleton.mp hgm]
              unfold goals
              exact ⟨by simp, ⟨r0, List.mem_cons_self .., C.tab r0 rfl (by omega), by omega⟩, show (-1000000 : Int) ≤ 1 ∧ (1 : Int) ≤ 1000000 by decide⟩
        · tm_at "go"
          exact base _ rfl
      · tm_at "go"
        exact base _ rfl
  rintro _ H6 ⟨us6, gs6, rfl, s6, g6, h6, gl6, gm6⟩
  tm_at "go"
  refine e_tupD ?_
  tm_at "go"
  refine e_any da ?_
  tm_at "go"
  refine ⟨fp, cl, l, us6, gs6.map Ex.d, rfl, rfl, f4.same s6, .inl ⟨g6, nlf⟩, h6, by rw [List.length_map]; omega, by rw [List.length_map]; omega, fun d v7 H7 hd k7 f7 hv7 => ?_⟩
  obtain ⟨g, hgm, rfl⟩ := List.mem_map.mp hd
  have t7 := (tp_same s6).trans k7.t
  tm_at "go"
  refine tupend (ds := [cellsD rs, .tuple (rl.map Rl.d), pairsD ps, g.d]) (.cons ((hc.mono (k2.t.trans (k3.t.trans k4.t))).mono t7) (.cons ((hr.mono k4.t).mono t7) (.cons (hp.mono t7) (.cons hv7 .nil)))) (Nat.le_of_ble_eq_true rfl) fun v9 H9 s9 h9 => ?_
  refine k _ _ _ ⟨⟨rs, rl, ps, g⟩, rfl, ?_⟩ (k1.trans (k2.trans (k3.trans (k4.trans ((kp_same s6).trans (k7.trans (kp_same s9))))))) (f7.same s9) h9
  have rlen : rl.length = ns.length := by rw [← rnm, List.length_map]
  have nmA : ∀ o ∈ ns, o ∈ namesA := fun o ho => names_sub o (ns5 o ho)
  refine ⟨C, fun r hr => ⟨rok r hr, ?_⟩, by show rl.length ≤ 5; omega, ?_, fun p hp => ⟨nmA _ (pm p hp).1, nmA _ (pm p hp).2⟩, pl, (gm6 g hgm).1, (gm6 g hgm).2⟩
  · refine nmA _ ?_
    rw [← rnm]
    exact List.mem_map.mpr ⟨r, hr, rfl⟩
  · show (rl.map Rl.name).Nodup
    rw [rnm]
    exact names_nd.sublist sub
end K

local macro_rules | `(tactic| tm_at "mk") => `(tactic| repeat (first | (refine gRE ?_; refine e_tupD ?_) | tm_at "s" | (refine gRB ?_; first | refine b_one ?_ | refine b_cons ?_) | (refine tupend (by tm_at "dts") (Nat.le_of_ble_eq_true rfl) fun v H s h => ?_)))
namespace K
open PySem PySem.Spec PyProof.Rows L2 G
variable {M : Md}
def wDoc : Wd := ⟨rowsA, [rAdd, rSee, rTwice], [], .int 1⟩
theorem wDoc_cells : CellsOk rowsA := cellB_ok (by decide +kernel)
theorem wDoc_ok : WdOk wDoc := by
  refine ⟨wDoc_cells, ?_, by decide, by decide +kernel, (fun _ h => nomatch h), by decide, by unfold goals; simp [wDoc], show (-1000000 : Int) ≤ 1 ∧ (1 : Int) ≤ 1000000 by decide⟩
  intro r hr
  have hr : r = rAdd ∨ r = rSee ∨ r = rTwice := by simpa [wDoc] using hr
  rcases hr with rfl | rfl | rfl
  · exact ⟨⟨rlb_ok (by decide +kernel), by decide⟩, by decide +kernel⟩
  · exact ⟨⟨rlb_ok (by decide +kernel), by decide⟩, by decide +kernel⟩
  · exact ⟨⟨rlb_ok (by decide +kernel), by decide⟩, by decide +kernel⟩
def spOne (d : PyData) (K : PySem.W.Frag) : Sp := fun vs H Q _ => vs = [] ∧ ∀ v H', Same H H' → Dt K H' v d → Q v H'
set_option maxHeartbeats 2000000 in
theorem ok_doc {f fd} (F : Fun M.K "_law_document" "_law_document" s__law_document f fd) (b : Bl M) : FnG M.prog M.w M.K M.mg M.base CX0 1 f fd [] (spOne wDoc.d M.K) := by
  refine fn_ok F sc__law_document (fun vs H Q E h => by rw [h.1]; rfl) (fun H vs Q E h => ?_)
  obtain ⟨rfl, k⟩ := h
  refine b_cut (fun σ1 H' => ∃ v0 v1, σ1 = [some v0, some v1, none, none] ∧ Same H H' ∧ Dt M.K H' v0 rAdd.d ∧ Dt M.K H' v1 rTwice.d) ?_ ?_
  · refine s_asg ?_ (hw := sw0 (by rfl))
    tm_at "mk"
    refine g_unp2 (d1 := rAdd.d) (d2 := rTwice.d) (by tm_at "at") (by tm_at "at") (by assumption) fun v0 v1 h0 h1 => ?_
    exact ⟨_, _, rfl, by tm_at "same", h0, h1⟩
  rintro _ H1 ⟨v0, v1, rfl, s1, h0, h1⟩
  refine b_cut (fun σ1 H' => ∃ v2, σ1 = [some v0, some v1, some v2, none] ∧ Same H1 H' ∧ Dt M.K H' v2 rSee.d) ?_ ?_
  · tm_at "mk"
    exact ⟨by tm_at "same", by assumption⟩
  rintro _ H2 ⟨v2, rfl, s2, h2⟩
  refine b_cut (fun σ1 H' => ∃ v3, σ1 = [some v0, some v1, some v2, some v3] ∧ Same H2 H' ∧ Dt M.K H' v3 (cellsD rowsA)) ?_ ?_
  · tm_at "mk"
    exact ⟨by tm_at "same", by assumption⟩
  rintro _ H3 ⟨v3, rfl, s3, h3⟩
  have a0 := h0.mono (tp_same (s2.trans s3))
  have a1 := h1.mono (tp_same (s2.trans s3))
  have a2 := h2.mono (tp_same s3)
  tm_at "mk"
  refine k _ _ ?_ (show Dt M.K _ _ wDoc.d by assumption)
  tm_at "same"
def preCase : List PyData → Prop := fun ds => ∃ m t : Int, ds = [.int m, .int t] ∧ (1 ≤ m ∧ m ≤ 4)
theorem ok_case {f fd} (F : Fun M.K "_law_case" "_law_case" s__law_case f fd) (b : Bl M) (dd : Dc M "_law_document" [] 1 (spOne wDoc.d M.K)) (dp : Dc M "_law_program" ["_law_feed_here", "_law_most"] 7 (spD prePg rPg M.K)) : FnG M.prog M.w M.K M.mg M.base CX0 8 f fd ["_law_feed_here", "_law_most", "_law_turn"] (spD preCase rPg M.K) := by
  refine fn_ok F sc__law_case (spD_len (n := 2) (by rintro ds ⟨_, _, rfl, _⟩; rfl)) (fun H vs Q E h => ?_)
  obtain ⟨fp, cl, rest, ds, rfl, hf, hds, ⟨m, t, rfl, hm⟩, k⟩ := h
  obtain _ | ⟨hmm, hds⟩ := hds
  obtain _ | ⟨htt, hds⟩ := hds
  cases hds
  cases hmm
  cases htt
  tm_at "go"
  refine ifd (fun c1 => ?_) (fun c1 => ?_)
  · refine e_call0 dd ⟨rfl, fun v H1 s1 h1 => ?_⟩
    exact k _ _ _ ⟨wDoc, rfl, wDoc_ok⟩ (kp_same s1) (hf.same s1) h1
  · refine e_callD dp ?_
    tm_at "go"
    refine ⟨fp, cl, _, _, rfl, hf, .cons (.int _) .nil, ⟨m, rfl, hm⟩, ?_⟩
    intro d v H1 hr k1 f1 hv
    exact k _ _ _ hr k1 f1 hv
end K

namespace K
open PySem PySem.Spec PyProof.Rows L2 G
variable {M : Md}
/-! ### the law's own find -/
def fI : List Row → Str → Option Int → Int → Option Int
  | [], _, _, _ => none
  | r :: rs, nm, key, b => match (if r.1 = nm then hit r key b else none) with
    | some j => some j
    | none => fI rs nm key (b + width r)
theorem fI_out : ∀ {rs : List Row} {nm : Str} {key : Option Int} {b : Int}, nm ∉ rs.map nameOf → fI rs nm key b = none
  | [], _, _, _, _ => rfl
  | r :: rs, nm, key, b, h => by
    rw [List.map_cons, List.mem_cons, not_or] at h
    rw [fI, if_neg fun e => h.1 (show nm = nameOf r from e.symm)]
    exact fI_out h.2
theorem fI_eq : ∀ {rs : List Row} {nm : Str} {key : Option Int} {b : Int}, (rs.map nameOf).Nodup → fI rs nm key b = fIdx rs nm key b
  | [], _, _, _, _ => rfl
  | r :: rs, nm, key, b, nd => by
    rw [List.map_cons, List.nodup_cons] at nd
    rw [fI, fIdx]
    by_cases e : r.1 = nm
    · rw [if_pos e, if_pos e]
      cases hh : hit r key b with
      | some j => rfl
      | none =>
        refine fI_out ?_
        rw [← e]
        exact nd.1
    · rw [if_neg e, if_neg e]
      exact fI_eq nd.2
def rFI : List PyData → PyData → Prop := fun ds d => ∃ (rs : List Row) (nm : Str) (key : Option Int), ds = [cellsD rs, .str nm, optD key] ∧ (rs.map nameOf).Nodup ∧ d = optD (fIdx rs nm key 0)
abbrev dcFI (M : Md) : Prop := Dc M "_law_find" ["_law_cells_here", "_law_name", "_law_key"] 1 (spF rFI M.K)
theorem ok_find {f fd} (F : Fun M.K "_law_find" "_law_find" s__law_find f fd) (b : Bl M) : FnG M.prog M.w M.K M.mg M.base CX0 1 f fd ["_law_cells_here", "_law_name", "_law_key"] (spF rFI M.K) := by
  refine fn_ok F sc__law_find (fun vs H Q E h => ?_) (fun H vs Q E h => ?_)
  · obtain ⟨ds, d, h, ⟨rs, nm, key, rfl, _⟩, _⟩ := h
    exact h.len
  obtain ⟨ds, d, h, ⟨rs, nm, key, rfl, nd, rfl⟩, k⟩ := h
  rw [← fI_eq nd] at k
  obtain _ | ⟨hc, h⟩ := h
  obtain _ | ⟨hn, h⟩ := h
  obtain _ | ⟨hk, h⟩ := h
  cases h
  cases hn
  obtain ⟨a, xs, rfl, hxs, hrs⟩ := hc.tupE
  rename_i vk
  tm_at "go"
  refine s_forT ?_
  tm_at "s"
  refine ⟨a, xs, rfl, hxs, fun i σ1 H1 => ∃ (b : Int) (v : Option V), σ1 = [some (.ref a), some (.str nm), some vk, some (.int b), v] ∧ Same H H1 ∧ fI rs nm key 0 = fI (rs.drop i) nm key b, ⟨0, _, rfl, Same.refl _, rfl⟩, ?_, ?_, ?_⟩
  · rintro i σ' H' _ ⟨b, v, rfl, s, _⟩
    exact (tp_same s).sqt hxs
  · rintro i x σ' H' hx ⟨b0, v, rfl, s, e⟩
    obtain ⟨d, hd, hx'⟩ := hrs.getV hx
    rw [List.getElem?_map] at hd
    obtain ⟨r, hr, rfl⟩ := Option.map_eq_some_iff.mp hd
    have ed : rs.drop i = r :: rs.drop (i + 1) := by
      obtain ⟨h1, h2⟩ := List.getElem?_eq_some_iff.mp hr
      rw [← h2]; exact List.drop_eq_getElem_cons h1
    rw [ed, fI] at e
    have hx2 := hx'.mono (tp_same s)
    refine g_name (by tm_at "at") ?_
    have nxt : (if r.1 = nm then hit r key b0 else none) = none → fI rs nm key 0 = fI (rs.drop (i + 1)) nm key (b0 + width r) := fun z => by rw [e, z]
    have don : ∀ j : Int, (if r.1 = nm then hit r key b0 else none) = some j → fI rs nm key 0 = some j := fun j z => by rw [e, z]
    refine b_cut (fun σ1 H1 => H' = H1 ∧ σ1 = [some (.ref a), some (.str nm), some vk, some (.int b0), some x] ∧ (key = none → (if r.1 = nm then hit r key b0 else none) = none)) ?_ ?_
    · refine s_if (t_w (e := .BoolOp _ _ _) (w_and ?_))
      tm_at "go"
      refine ifd (fun c1 => ?_) (fun c1 => ?_)
      · cases key with
        | none =>
          cases hk
          tm_at "go"
          refine ifd (fun c2 => ?_) (fun c2 => ?_)
          · tm_at "go"
            refine k _ _ s ?_
            rw [don b0 (by rw [if_pos c1, hit, if_pos c2])]
            exact .int _
          · tm_at "go"
            exact ⟨rfl, rfl, fun _ => by rw [if_pos c1, hit, if_neg c2]⟩
        | some kk =>
          cases hk
          tm_at "go"
          exact ⟨rfl, rfl, fun z => nomatch z⟩
      · tm_at "go"
        exact ⟨rfl, rfl, fun _ => if_neg c1⟩
    rintro _ _ ⟨rfl, rfl, hno⟩
    refine b_cut (fun σ1 H1 => H' = H1 ∧ σ1 = [some (.ref a), some (.str nm), some vk, some (.int b0), some x] ∧ (if r.1 = nm then hit r key b0 else none) = none) ?_ ?_
    · refine s_if (t_w (e := .BoolOp _ _ _) (w_and ?_))
      tm_at "go"
      refine ifd (fun c1 => ?_) (fun c1 => ?_)
      · cases key with
        | none =>
          cases hk
          tm_at "go"
          exact ⟨rfl, rfl, hno rfl⟩
        | some kk =>
          cases hk
          tm_at "go"
          refine ifd (fun c2 => ?_) (fun c2 => ?_)
          · tm_at "go"
            refine ifd (fun c3 => ?_) (fun c3 => ?_)
            · tm_at "go"
              refine k _ _ s ?_
              rw [don (b0 + kk) (by rw [if_pos c1, hit, if_pos ⟨c2, c3⟩])]
              exact .int _
            · tm_at "go"
              exact ⟨rfl, rfl, by rw [if_pos c1, hit, if_neg fun z => c3 z.2]⟩
          · tm_at "go"
            exact ⟨rfl, rfl, by rw [if_pos c1, hit, if_neg fun z => c2 z.1]⟩
      · tm_at "go"
        exact ⟨rfl, rfl, if_neg c1⟩
    rintro _ _ ⟨rfl, rfl, hno2⟩
    have ew : (if (r.2.1 : Int) > 1 then (r.2.1 : Int) else 1) = width r := by
      unfold width
      split <;> omega
    tm_at "go"
    refine ⟨_, _, rfl, s, ?_⟩
    rw [nxt hno2]
    rw [ew]
  · rintro σ' H' ⟨b0, v, rfl, s, e⟩
    tm_at "go"
    refine k _ _ s ?_
    rw [e, List.drop_eq_nil_of_le (by have := hrs.len; rw [List.length_map] at this; omega)]
    exact .non
/-! ### the law's own ranges -/
def rLR : List PyData → List PyData → Prop := fun ds es => ∃ rs : List Row, ds = [cellsD rs] ∧ total rs ≤ 10 ∧ es = rngs rs
abbrev dcLR (M : Md) : Prop := Dc M "_law_ranges" ["_law_cells_here"] 1 (spL rLR M.K)
theorem ok_lranges {f fd} (F : Fun M.K "_law_ranges" "_law_ranges" s__law_ranges f fd) (b : Bl M) : FnG M.prog M.w M.K M.mg M.base CX0 1 f fd ["_law_cells_here"] (spL rLR M.K) := by
  refine fn_ok F sc__law_ranges (fun vs H Q E h => ?_) (fun H vs Q E h => ?_)
  · obtain ⟨ds, d, h, ⟨rs, rfl, _⟩, _⟩ := h
    exact h.len
  obtain ⟨ds, d, h, ⟨rs, rfl, ht, rfl⟩, k⟩ := h
  obtain _ | ⟨hc, h⟩ := h
  cases h
  obtain ⟨a, xs, rfl, hxs, hrs⟩ := hc.tupE
  refine b_cons (s_set (by tm_at "at") (e_lstD (a_nil ⟨(Nat.le_of_ble_eq_true rfl), fun l H1 s1 n1 g1 => ?_⟩)))
  tm_at "go"
  refine s_forT ?_
  tm_at "s"
  refine ⟨a, xs, rfl, (tp_same s1).sqt hxs, fun i σ1 H' => ∃ (us : List V) (v2 v3 : Option V), σ1 = [some (.ref a), some (.ref l), v2, v3] ∧ Same H H' ∧ H' l = some (.lst us) ∧ DtAll M.K H' us (rngs (rs.take i)), ⟨[], _, _, rfl, s1, g1, .nil⟩, ?_, ?_, ?_⟩
  · rintro i σ' H' _ ⟨us, v2, v3, rfl, s, _⟩
    exact (tp_same s).sqt hxs
  · rintro i x σ' H' hx ⟨us, v2, v3, rfl, s, gg, hu⟩
    obtain ⟨d, hd, hx'⟩ := hrs.getV hx
    rw [List.getElem?_map] at hd
    obtain ⟨r, hr, rfl⟩ := Option.map_eq_some_iff.mp hd
    have hw := width_le hr
    have hul := hu.len
    rw [rngs_len] at hul
    have hx2 := hx'.mono (tp_same s)
    refine g_name (by tm_at "at") ?_
    refine b_one (s_expr (e_ext (e_var (by tm_at "at") ⟨l, _, rfl, gg, ?_⟩)))
    refine e_lc (own := [("_law_k", 3)]) (Blk.of (N := N__law_ranges) (sc := defScope s__law_ranges) rfl rfl (by decide +kernel)) ?_
    refine lc_R1 b.range ?_
    tm_at "go"
    have ew : (if (r.2.1 : Int) > 1 then (r.2.1 : Int) else 1) = width r := by
      unfold width
      split <;> omega
    rw [ew]
    refine ⟨by omega, fun D hD => ?_⟩
    have lD : l ≠ D := fun e => by rw [e, hD] at gg; cases gg
    refine ⟨fun t acc H1 => acc.length ≤ t ∧ H1 D = some (.lst acc) ∧ Same H' H1 ∧ DtAll M.K H1 acc (List.replicate t (pairD r)), ⟨Nat.le_refl _, upd_same, same_new hD, .nil⟩, fun t acc H1 z => z.1, ?_, ?_⟩
    · rintro t acc H1 htt ⟨a1, a2, a3, a4⟩
      refine g_name (by tm_at "at") ⟨rfl, ts_nil (ift ?_)⟩
      have hrow : Dt M.K H1 x (rowD r) := hx2.mono (tp_same a3)
      refine e_tupD ?_
      tm_at "go"
      refine tupend (ds := [.int r.2.2.1, .int r.2.2.2.1]) (by tm_at "dts") (Nat.le_of_ble_eq_true rfl) fun v9 H9 s9 h9 => ?_
      have gD := s9 _ _ a2
      have kt := (kp_upd (o' := .lst (acc ++ [v9])) gD (fun _ e => nomatch e) (fun _ _ e => nomatch e)).t
      refine ⟨gD, by rw [List.length_append]; exact Nat.succ_le_succ a1, upd_same, same_mut (a3.trans s9) hD, ?_⟩
      rw [List.replicate_succ']
      exact ((a4.mono (tp_same s9)).mono kt).app (.cons (Dt.mono kt (show Dt M.K H9 v9 (pairD r) from h9)) .nil)
    · rintro acc H1 ⟨a1, a2, a3, a4⟩
      rw [Int.toNat_natCast] at a1 a4
      refine ⟨D, _, _, rfl, a3 _ _ gg, a2, by omega, ?_⟩
      have kt := (kp_upd (o' := .lst (us ++ acc)) (a3 _ _ gg) (fun _ e => nomatch e) (fun _ _ e => nomatch e)).t
      refine ⟨_, _, _, rfl, same_mut (s.trans a3) n1, upd_same, ?_⟩
      rw [rngs_snoc hr]
      exact ((hu.mono (tp_same a3)).mono kt).app (a4.mono kt)
  · rintro σ' H' ⟨us, v2, v3, rfl, s, gg, hu⟩
    have hll := hrs.len
    rw [List.length_map] at hll
    rw [hll, List.take_length] at hu
    tm_at "go"
    exact k _ _ _ s n1 gg hu
end K

namespace K
open PySem PySem.Spec PyProof.Rows L2 G
variable {M : Md}
/-! ### the law's own states -/
def rLS : List PyData → List St1 → Prop := fun ds es => ∃ rs : List Row, ds = [cellsD rs] ∧ Small rs ∧ es = statesOf (rg rs)
abbrev dcLS (M : Md) : Prop := Dc M "_law_states" ["_law_cells_here"] 2 (spLR TI rLS M.K)
set_option maxHeartbeats 2000000 in
theorem ok_lstates {f fd} (F : Fun M.K "_law_states" "_law_states" s__law_states f fd) (b : Bl M) (dl : dcLR M) : FnG M.prog M.w M.K M.mg M.base CX0 2 f fd ["_law_cells_here"] (spLR TI rLS M.K) := by
  refine fn_ok F sc__law_states (fun vs H Q E h => ?_) (fun H vs Q E h => ?_)
  · obtain ⟨ds, d, h, ⟨rs, rfl, _⟩, _⟩ := h
    exact h.len
  obtain ⟨ds, d, h, ⟨rs, rfl, sm, rfl⟩, k⟩ := h
  obtain _ | ⟨hc, h⟩ := h
  cases h
  rename_i vc
  refine b_cut (fun σ1 H1 => ∃ l us, σ1 = [some vc, some (.ref l), none, none, none, none, none] ∧ Same H H1 ∧ H l = none ∧ H1 l = some (.lst us) ∧ RAll TI H1 us [[]]) ?_ ?_
  · refine s_set (by tm_at "at") ?_
    refine e_lstD ?_
    refine a_cons (e_tupTI (a_nil ?_))
    refine ⟨[], rfl, (Nat.le_of_ble_eq_true rfl), fun v0 H0 s0 h0 => ?_⟩
    refine a_nil ⟨(Nat.le_of_ble_eq_true rfl), fun l1 H1 s1 n1 g1 => ?_⟩
    exact ⟨l1, _, rfl, s0.trans s1, same_none s0 n1, g1, .cons (kTI.k (tp_same s1) h0) .nil⟩
  rintro _ H1 ⟨l1, u1, rfl, s1, n1, g1, h1⟩
  refine b_cut (fun σ1 H2 => ∃ (l : Addr) (us : List V) (v2 v3 v4 v5 v6 : Option V), σ1 = [some vc, some (.ref l), v2, v3, v4, v5, v6] ∧ Same H H2 ∧ H l = none ∧ H2 l = some (.lst us) ∧ RAll TI H2 us (statesOf (rg rs))) ?_ ?_
  · refine s_forL ?_
    refine e_callL dl ?_
    tm_at "go"
    refine ⟨_, _, .cons (hc.mono (tp_same s1)) .nil, ⟨rs, rfl, sm.tot, rfl⟩, fun lr ur H2 s2 n2 g2 h2 => ?_⟩
    rw [rngs_eq] at h2
    have rl := h2.len
    rw [List.length_map] at rl
    refine ⟨lr, ur, rfl, .of g2, fun i σ1 H' => ∃ (l : Addr) (us : List V) (v2 v3 v4 v5 v6 : Option V), σ1 = [some vc, some (.ref l), v2, v3, v4, v5, v6] ∧ Same H2 H' ∧ H l = none ∧ H' l = some (.lst us) ∧ RAll TI H' us (statesOf ((rg rs).take i)), ⟨l1, u1, none, none, none, none, none, rfl, Same.refl _, n1, s2 _ _ g1, h1.mono kTI (tp_same s2)⟩, ?_, ?_, ?_⟩
    · rintro i σ' H' _ ⟨l, us, v2, v3, v4, v5, v6, rfl, s, _⟩
      exact .of (s _ _ g2)
    · rintro i x σ' H3 hx ⟨l, us, v2, v3, v4, v5, v6, rfl, s3, n3, g3, h3⟩
      obtain ⟨d, hdi, hx'⟩ := h2.getV hx
      rw [List.getElem?_map] at hdi
      obtain ⟨pr, hp, rfl⟩ := Option.map_eq_some_iff.mp hdi
      have spn := sm.sp pr (List.mem_of_getElem? hp)
      have cnt : (widen (statesOf ((rg rs).take i)) pr).length ≤ 256 := by
        rw [← states_snoc hp, states_len]
        exact Nat.le_trans (many_take (fun p hp => (sm.sp p hp).1) _) sm.many
      rw [widen_len] at cnt
      have ql := h3.len
      refine g_unp2 (d1 := .int pr.1) (d2 := .int pr.2) (by tm_at "at") (by tm_at "at") (hx'.mono (tp_same s3)) fun va vb ha hb => ?_
      cases ha
      cases hb
      refine b_cons (s_set (by tm_at "at") (e_lstD (a_nil ⟨(Nat.le_of_ble_eq_true rfl), fun l4 H4 s4 n4 g4 => ?_⟩)))
      have nl : l ≠ l4 := fun e => by rw [e, n4] at g3; cases g3
      refine b_cut (fun σ1 H' => ∃ (us' : List V) (v5 v6 : Option V), σ1 = [some vc, some (.ref l), some (.int pr.1), some (.int pr.2), some (.ref l4), v5, v6] ∧ Same H3 H' ∧ H' l4 = some (.lst us') ∧ RAll TI H' us' (widen (statesOf ((rg rs).take i)) pr)) ?_ ?_
      · refine s_forL (e_var (by tm_at "at") ?_)
        refine ⟨l, us, rfl, .of (s4 _ _ g3), fun j σ1 H' => ∃ (us' : List V) (v5 v6 : Option V), σ1 = [some vc, some (.ref l), some (.int pr.1), some (.int pr.2), some (.ref l4), v5, v6] ∧ Same H3 H' ∧ H' l4 = some (.lst us') ∧ RAll TI H' us' (widen ((statesOf ((rg rs).take i)).take j) pr), ⟨[], _, _, rfl, s4, g4, .nil⟩, ?_, ?_, ?_⟩
        · rintro j σ' H' _ ⟨us', v5, v6, rfl, s, _⟩
          exact .of (s _ _ g3)
        · rintro j x σ' H5 hx2 ⟨us', v5, v6, rfl, s5, g5, h5⟩
          obtain ⟨st, hst, hxs⟩ := (h3.mono kTI (tp_same s5)).getV hx2
          have jl := (List.getElem?_eq_some_iff.mp hst).1
          have ul := h5.len
          rw [widen_len, List.length_take, Nat.min_eq_left (Nat.le_of_lt jl)] at ul
          have uj : us'.length ≤ 256 := by
            rw [ul]
            exact Nat.le_trans (Nat.mul_le_mul_right _ (Nat.le_of_lt jl)) cnt
          have stl : st.length ≤ 100 := by
            have a1 := states_mem (List.mem_of_getElem? hst)
            have a2 : ((rg rs).take i).length ≤ (rg rs).length := by rw [List.length_take]; omega
            have a3 := sm.tot
            rw [rg_len] at a2
            omega
          refine g_name (by tm_at "at") ?_
          refine b_one (s_expr (e_ext (e_var (by tm_at "at") ⟨l4, _, rfl, g5, ?_⟩)))
          refine e_lc (own := [("_law_value_here", 6)]) (Blk.of (N := N__law_states) (sc := defScope s__law_states) rfl rfl (by decide +kernel)) ?_
          refine lc_R2 b.range ?_
          tm_at "go"
          have spz : (pr.2 + 1 - pr.1).toNat = span pr := rfl
          refine ⟨pr.1, pr.2 + 1, rfl, rfl, by unfold span at spn; omega, by unfold span at spn; omega, fun D hD => ?_⟩
          have lD : l4 ≠ D := fun e => by rw [e, hD] at g5; cases g5
          refine ⟨fun t acc H' => acc.length ≤ t ∧ H' D = some (.lst acc) ∧ Same H5 H' ∧ RAll TI H' acc ((List.range t).map fun t : Nat => (st ++ [pr.1 + (t : Int)] : St1)), ⟨Nat.le_refl _, upd_same, same_new hD, .nil⟩, fun t acc H' z => z.1, ?_, ?_⟩
          · rintro t acc H' ht ⟨a1, a2, a3, a4⟩
            refine g_name (by tm_at "at") ⟨rfl, ts_nil (ift ?_)⟩
            tm_at "go"
            refine e_tupTI ?_
            tm_at "go"
            refine ⟨[_], rfl, (Nat.le_of_ble_eq_true rfl), fun vp H6 s6 hp6 => ?_⟩
            refine ro_catTI (kTI.k (tp_same (a3.trans s6)) hxs) hp6 (by rw [List.length_singleton]; omega) fun v7 H7 s7 h7 => ?_
            have gD := s7 _ _ (s6 _ _ a2)
            have kt := (kp_upd (o' := .lst (acc ++ [v7])) gD (fun _ e => nomatch e) (fun _ _ e => nomatch e)).t
            refine ⟨gD, by rw [List.length_append]; exact Nat.succ_le_succ a1, upd_same, same_mut (a3.trans (s6.trans s7)) hD, ?_⟩
            rw [List.range_succ, List.map_append]
            exact ((a4.mono kTI (tp_same (s6.trans s7))).mono kTI kt).app (.cons (kTI.k kt h7) .nil)
          · rintro acc H' ⟨a1, a2, a3, a4⟩
            rw [spz] at a1 a4
            have sl : span pr ≤ 100 := by unfold span at spn ⊢; omega
            refine ⟨D, _, _, rfl, a3 _ _ g5, a2, by omega, ?_⟩
            have kt := (kp_upd (o' := .lst (us' ++ acc)) (a3 _ _ g5) (fun _ e => nomatch e) (fun _ _ e => nomatch e)).t
            refine ⟨_, _, _, rfl, same_mut (s5.trans a3) n4, upd_same, ?_⟩
            rw [widen_snoc hst]
            exact ((h5.mono kTI (tp_same a3)).mono kTI kt).app (a4.mono kTI kt)
        · rintro σ' H' ⟨us', v5, v6, rfl, s, g, h⟩
          rw [ql, List.take_length] at h
          exact ⟨us', v5, v6, rfl, s, g, h⟩
      rintro _ H5 ⟨us', v5, v6, rfl, s5, g5, h5⟩
      tm_at "go"
      refine ⟨l4, us', _, _, _, _, _, rfl, s3.trans s5, ?_, g5, ?_⟩
      · exact same_none (s1.trans (s2.trans s3)) n4
      · rw [states_snoc hp]
        exact h5
    · rintro σ' H' ⟨l, us, v2, v3, v4, v5, v6, rfl, s, n, g, h⟩
      rw [rl, List.take_length] at h
      exact ⟨l, us, v2, v3, v4, v5, v6, rfl, s1.trans (s2.trans s), n, g, h⟩
  rintro _ H2 ⟨l, us, v2, v3, v4, v5, v6, rfl, s, n, g, h⟩
  tm_at "go"
  exact k _ _ _ s n g h
end K

namespace K
open PySem PySem.Spec PyProof.Rows L2 G
variable {M : Md}
/-! ### the law's own words of two -/
def lbin (op : Str) (a b : Int) : Int := if isLazy op = true then b2 (b ≠ 0) else bin2 op a b
def wA : List Str := ["+", "-", "*"]
def wB : List Str := ["least", "most"]
def wC : List Str := ["and", "or"]
def wD : List Str := ["=", "<", "<="]
def cA (a b : Int) : List (Key × V) := [(Sum.inr "+", .int (a + b)), (Sum.inr "-", .int (a - b)), (Sum.inr "*", .int (a * b))]
def cC (a b : Int) : List (Key × V) := [(Sum.inr "=", .bl (decide (a = b))), (Sum.inr "<", .bl (decide (a < b))), (Sum.inr "<=", .bl (decide (a ≤ b)))]
theorem bins_split : ∀ w ∈ bins, w ∈ wA ∨ w ∈ wB ∨ w ∈ wC ∨ w ∈ wD := by decide +kernel
theorem cA_at (a b : Int) : ∀ op ∈ wA, valV (cA a b) (Sum.inr op : Key) = some (.int (lbin op a b)) := by
  intro op h
  have hs : op = "+" ∨ op = "-" ∨ op = "*" := by simpa [wA] using h
  unfold cA lbin bin2
  rcases hs with rfl | rfl | rfl <;>
  · repeat rw [valV_neg (by dsimp only; decide +kernel)]
    rw [valV_pos rfl]
    refine congrArg (fun z => some (V.int z)) (Eq.symm ?_)
    repeat (first | rw [if_neg (by decide +kernel)] | rw [if_pos (by decide +kernel)])
theorem lbinC {op : Str} (h : op ∈ wD) (a b : Int) : lbin op a b = if cmp2 op a b = true then 1 else 0 := by
  have hs : op = "=" ∨ op = "<" ∨ op = "<=" := by simpa [wD] using h
  unfold lbin bin2
  rcases hs with rfl | rfl | rfl <;>
  · repeat (first | rw [if_neg (by decide +kernel)] | rw [if_pos (by decide +kernel)])
theorem cC_at (a b : Int) : ∀ op ∈ wD, valV (cC a b) (Sum.inr op : Key) = some (.bl (cmp2 op a b)) := by
  intro op h
  have hs : op = "=" ∨ op = "<" ∨ op = "<=" := by simpa [wD] using h
  unfold cC cmp2
  rcases hs with rfl | rfl | rfl <;>
  · repeat rw [valV_neg (by dsimp only; decide +kernel)]
    rw [valV_pos rfl]
    refine congrArg (fun z => some (V.bl z)) (Eq.symm ?_)
    repeat (first | rw [if_neg (by decide +kernel)] | rw [if_pos (by decide +kernel)])
def rLB : List PyData → PyData → Prop := fun ds d => ∃ (op : Str) (a b : Int), ds = [.str op, .int a, .int b] ∧ op ∈ bins ∧ (a.natAbs < 2 ^ 400 ∧ b.natAbs < 2 ^ 400) ∧ d = .int (lbin op a b)
abbrev dcLB (M : Md) : Prop := Dc M "_law_binary" ["_law_word", "_law_one", "_law_other"] 1 (spF rLB M.K)
set_option maxHeartbeats 1000000 in
theorem ok_lbin {f fd} (F : Fun M.K "_law_binary" "_law_binary" s__law_binary f fd) (b : Bl M) : FnG M.prog M.w M.K M.mg M.base CX0 1 f fd ["_law_word", "_law_one", "_law_other"] (spF rLB M.K) := by
  refine fn_ok F sc__law_binary (fun vs H Q E h => ?_) (fun H vs Q E h => ?_)
  · obtain ⟨ds, d, h, ⟨op, v, w, rfl, _⟩, _⟩ := h
    exact h.len
  obtain ⟨ds, d, h, ⟨op, x, y, rfl, hop, hb, rfl⟩, k⟩ := h
  obtain _ | ⟨h1, h⟩ := h
  obtain _ | ⟨h2, h⟩ := h
  obtain _ | ⟨h3, h⟩ := h
  cases h
  cases h1
  cases h2
  cases h3
  refine b_cut (fun σ1 H' => σ1 = [some (.str op), some (.int x), some (.int y)] ∧ Same H H' ∧ op ∉ wA) ?_ ?_
  · tm_at "go"
    refine e_tupD ?_
    tm_at "go"
    refine tupend (ds := wA.map .str) (dtStrs wA) (Nat.le_of_ble_eq_true rfl) fun v6 H6 s6 hv6 => ?_
    refine ro_inST hv6 ?_
    refine ⟨_, rfl, ifd (fun c1 => ?_) (fun c1 => ?_)⟩
    · refine b_one (s_ret (e_dgetK ?_))
      refine e_disp (fun X h => pps_cons (pe_re h) (pe_re h) (pps_cons (pe_re h) (pe_re h) (pps_cons (pe_re h) (pe_re h) pps_nil))) rfl rfl (by intro e; cases e) (by decide) ?_
      intro p hp
      simp only [tPairs]
      tm_at "go"
      refine ro_mulW (wide_mul hb.1 hb.2 (by decide) (by decide) (by decide)) ?_
      tm_at "go"
      refine ⟨upd_same, cA x y, rfl, (Nat.le_of_ble_eq_true rfl), ?_⟩
      rw [show mergeK [] (cA x y) = cA x y from rfl]
      tm_at "go"
      exact ⟨p, _, Sum.inr op, _, rfl, upd_same, rfl, cA_at x y op c1, k _ _ (s6.trans (same_mut (same_new hp) hp)) (.int _)⟩
    · tm_at "go"
      exact ⟨rfl, s6, c1⟩
  rintro _ H1 ⟨rfl, s1, nA⟩
  refine b_cut (fun σ1 H' => σ1 = [some (.str op), some (.int x), some (.int y)] ∧ Same H H' ∧ op ∉ wB) ?_ ?_
  · tm_at "go"
    refine e_tupD ?_
    tm_at "go"
    refine tupend (ds := wB.map .str) (dtStrs wB) (Nat.le_of_ble_eq_true rfl) fun v6 H6 s6 hv6 => ?_
    refine ro_inST hv6 ?_
    refine ⟨_, rfl, ifd (fun c1 => ?_) (fun c1 => ?_)⟩
    · tm_at "go"
      refine ifd (fun c2 => ?_) (fun c2 => ?_)
      · tm_at "go"
        refine k _ _ (s1.trans s6) ?_
        subst c2
        have e : lbin "least" x y = if y < x then y else x := by unfold lbin bin2; repeat (first | rw [if_neg (by decide +kernel)] | rw [if_pos (by decide +kernel)])
        rw [e]
        exact .int _
      · have e0 : op = "most" := by
          have hs : op = "least" ∨ op = "most" := by simpa [wB] using c1
          exact hs.resolve_left c2
        subst e0
        tm_at "go"
        refine k _ _ (s1.trans s6) ?_
        have e : lbin "most" x y = if y > x then y else x := by unfold lbin bin2; repeat (first | rw [if_neg (by decide +kernel)] | rw [if_pos (by decide +kernel)])
        rw [e]
        exact .int _
    · tm_at "go"
      exact ⟨rfl, s1.trans s6, c1⟩
  rintro _ H2 ⟨rfl, s2, nB⟩
  refine b_cut (fun σ1 H' => σ1 = [some (.str op), some (.int x), some (.int y)] ∧ Same H H' ∧ op ∉ wC) ?_ ?_
  · tm_at "go"
    refine e_tupD ?_
    tm_at "go"
    refine tupend (ds := wC.map .str) (dtStrs wC) (Nat.le_of_ble_eq_true rfl) fun v6 H6 s6 hv6 => ?_
    refine ro_inST hv6 ?_
    refine ⟨_, rfl, ifd (fun c1 => ?_) (fun c1 => ?_)⟩
    · tm_at "go"
      refine k _ _ (s2.trans s6) ?_
      have hl : isLazy op = true := by
        have : ∀ op ∈ wC, isLazy op = true := by decide +kernel
        exact this op c1
      rw [lbin, if_pos hl, b2]
      have e : (if (!decide (y = 0)) = true then (1 : Int) else 0) = if y ≠ 0 then 1 else 0 := by by_cases h : y = 0 <;> simp [h]
      rw [e]
      exact .int _
    · tm_at "go"
      exact ⟨rfl, s2.trans s6, c1⟩
  rintro _ H3 ⟨rfl, s3, nC⟩
  have hD : op ∈ wD := by
    rcases bins_split op hop with z | z | z | z
    · exact absurd z nA
    · exact absurd z nB
    · exact absurd z nC
    · exact z
  refine b_one (s_ret (e_callT (T := "int") b.int (by decide +kernel) (a_cons (e_dgetK ?_))))
  refine e_disp (fun X h => pps_cons (pe_re h) (pe_re h) (pps_cons (pe_re h) (pe_re h) (pps_cons (pe_re h) (pe_re h) pps_nil))) rfl rfl (by intro e; cases e) (by decide) ?_
  intro p hp
  simp only [tPairs]
  tm_at "go"
  refine ⟨upd_same, cC x y, rfl, (Nat.le_of_ble_eq_true rfl), ?_⟩
  rw [show mergeK [] (cC x y) = cC x y from rfl]
  tm_at "go"
  refine ⟨p, _, Sum.inr op, _, rfl, upd_same, rfl, cC_at x y op hD, ?_⟩
  tm_at "go"
  refine k _ _ (s3.trans (same_mut (same_new hp) hp)) ?_
  rw [lbinC hD]
  exact .int _
end K

namespace K
open PySem PySem.Spec PyProof.Rows L2 G
variable {M : Md}
/-! ### the law's own value of an expression -/
def vl (rs : List Row) (st : St1) (e : Ex) : Option Int := (ev rs st e).1
theorem thn1_1 {r : Res} {g : Int → Res} : (thn1 r g).1 = r.1.bind fun v => (g v).1 := by
  unfold thn1
  split <;> rename_i h <;> rw [h] <;> rfl
theorem vl_at {rs : List Row} {st : St1} {t : Str} {e : Ex} : vl rs st (.at t e) = (vl rs st e).bind fun v => (fIdx rs t (some v) 0).map (gt st) := by
  unfold vl
  rw [ev, thn1_1]
  unfold keyed
  cases h : (ev rs st e).1 with
  | none => rfl
  | some v =>
    show (fIdx rs t (some v) 0).bind (fun j => some (gt st j)) = (fIdx rs t (some v) 0).map (gt st)
    cases fIdx rs t (some v) 0 <;> rfl
theorem vl_un {rs : List Row} {st : St1} {op : Str} {e : Ex} : vl rs st (.un op e) = (vl rs st e).bind fun v => some (un1 op v) := by
  unfold vl
  rw [ev, thn1_1]
theorem vl_kk {rs : List Row} {st : St1} {op : Str} {e : Ex} {n : Int} : vl rs st (.kk op e n) = (vl rs st e).bind fun v => some (bin2 op v n) := by
  unfold vl
  rw [ev, thn1_1]
theorem vl_ite {rs : List Row} {st : St1} {a b e : Ex} : vl rs st (.ite a b e) = (vl rs st a).bind fun v => if v ≠ 0 then vl rs st b else vl rs st e := by
  unfold vl
  rw [ev, thn1_1]
  congr 1
  funext v
  split <;> rfl
theorem vl_bin {rs : List Row} {st : St1} {op : Str} {a b : Ex} : vl rs st (.bin op a b) = (vl rs st a).bind fun v => if isLazy op = true ∧ (decide (v ≠ 0) = decide (op = "or")) then some (b2 (v ≠ 0)) else (vl rs st b).bind fun w => some (lbin op v w) := by
  unfold vl
  rw [ev]
  by_cases h : isLazy op = true
  · rw [if_pos h, thn1_1]
    congr 1
    funext v
    by_cases h2 : decide (v ≠ 0) = decide (op = "or")
    · rw [if_pos h2, if_pos ⟨h, h2⟩]
    · rw [if_neg h2, if_neg fun z => h2 z.2, thn1_1]
      congr 1
      funext w
      rw [lbin, if_pos h]
  · rw [if_neg h, thn1_1]
    congr 1
    funext v
    rw [if_neg fun z => h z.1, thn1_1]
    congr 1
    funext w
    rw [lbin, if_neg h]
def isStrD : PyData → Bool
  | .str _ => true
  | _ => false
theorem rc_issD {c : Cd} {H : Hp} {Q : VK} {v : V} {x : PyData} (hp : plainD x) (hx : Dt c.K H v x) (q : Q (.bl (isStrD x)) H) : RC c (.builtin "isinstance") [v, .ty "str"] H Q := by
  cases x with
  | int i =>
    cases hx
    exact rc_isi (.base (.int i)) rfl q
  | str s =>
    cases hx
    exact rc_isi (.base (.str s)) rfl q
  | tuple ds =>
    obtain ⟨a, xs, rfl, ht, _⟩ := hx.tupE
    exact rc_isi (ty_tup ht) rfl q
  | none => exact hp.elim
  | bool => exact hp.elim
  | list => exact hp.elim
  | dict => exact hp.elim
def rLV (n : Nat) : List PyData → PyData → Prop := fun ds d => ∃ (rs : List Row) (st : St1) (e : Ex), ds = [cellsD rs, stD st, e.d] ∧ EvIn rs st e n ∧ d = optD (vl rs st e)
abbrev dcVal (M : Md) (n : Nat) : Prop := Dc M "_law_value" ["_law_cells_here", "_law_stands", "_law_e"] (n + 2) (spF (rLV n) M.K)
def sub1 : Ex → Ex
  | .int i => .int i
  | .nm s => .nm s
  | .at _ e => e
  | .un _ e => e
  | .bin _ a _ => a
  | .kk _ e _ => e
  | .ite a _ _ => a
theorem fit1 {rs : List Row} {e : Ex} (h : Fit rs e) : Fit rs (sub1 e) := by
  cases e with
  | int => exact h
  | nm => exact h
  | «at» => exact h.2
  | un => exact h.2
  | bin => exact h.2.1
  | kk => exact h.2.1
  | ite => exact h.1
theorem bin_w : ∀ op ∈ bins, op ≠ "at" ∧ op ∉ uns ∧ op ∉ kks ∧ op ≠ "if" ∧ (isLazy op = (decide (op = "and") || decide (op = "or"))) := by decide +kernel
theorem isN {o : Option Int} {K : PySem.W.Frag} {H : Hp} {v : V} (h : Dt K H v (optD o)) : (o = none ∧ v = .non) ∨ ∃ i, o = some i ∧ v = .int i := optN h
set_option maxHeartbeats 4000000 in
theorem ok_value (n : Nat) {f fd} (F : Fun M.K "_law_value" "_law_value" s__law_value f fd) (b : Bl M) (df : dcFI M) (db : dcLB M) (rec : ∀ m, n = m + 1 → dcVal M m) :
    FnG M.prog M.w M.K M.mg M.base CX0 (n + 2) f fd ["_law_cells_here", "_law_stands", "_law_e"] (spF (rLV n) M.K) := by
  refine fn_ok F sc__law_value (fun vs H Q E h => ?_) (fun H vs Q E h => ?_)
  · obtain ⟨ds, d, h, ⟨rs, st, e, rfl, _⟩, _⟩ := h
    exact h.len
  obtain ⟨ds, d, h, ⟨rs, st, e, rfl, hi, rfl⟩, k⟩ := h
  obtain _ | ⟨hc, h⟩ := h
  obtain _ | ⟨hst, h⟩ := h
  obtain _ | ⟨he, h⟩ := h
  cases h
  rename_i vc vst ve
  have S := hi.S
  refine b_cut (fun σ1 H' => isIntD e.d = false ∧ H = H' ∧ σ1 = [some vc, some vst, some ve, none, none, none]) ?_ ?_
  · tm_at "go"
    refine t_val ?_
    tm_at "go"
    refine rc_isiD e.plain he ?_
    refine ⟨_, rfl, ifb (fun c1 => ?_) (fun c1 => ?_)⟩
    · tm_at "go"
      refine k _ _ (Same.refl _) ?_
      cases e with
      | int i => exact he
      | nm => cases c1
      | «at» => cases c1
      | un => cases c1
      | bin => cases c1
      | kk => cases c1
      | ite => cases c1
    · tm_at "go"
      exact ⟨c1, rfl, rfl⟩
  rintro _ _ ⟨ci, rfl, rfl⟩
  refine b_cut (fun σ1 H' => isStrD e.d = false ∧ H = H' ∧ σ1 = [some vc, some vst, some ve, none, none, none]) ?_ ?_
  · tm_at "go"
    refine t_val ?_
    tm_at "go"
    refine rc_issD e.plain he ?_
    refine ⟨_, rfl, ifb (fun c1 => ?_) (fun c1 => ?_)⟩
    · cases e with
      | int i => cases c1
      | nm s =>
        cases he
        obtain ⟨hx, x0, x1⟩ := ix_ok S.nd hi.fit
        tm_at "go"
        refine e_callF df ?_
        tm_at "go"
        refine ⟨_, _, .cons hc (.cons (.str s) (.cons .non .nil)), ⟨rs, s, none, rfl, S.nd, rfl⟩, fun v1 H1 s1 h1 => ?_⟩
        rw [hx] at h1
        cases h1
        refine rx_int (hst.mono (tp_same s1)) (gt_at S x0 x1) ?_
        refine k _ _ s1 ?_
        unfold vl
        rw [ev]
        exact .int _
      | «at» => cases c1
      | un => cases c1
      | bin => cases c1
      | kk => cases c1
      | ite => cases c1
    · tm_at "go"
      exact ⟨c1, rfl, rfl⟩
  rintro _ _ ⟨cs, rfl, rfl⟩
  obtain ⟨m, rfl⟩ : ∃ m, n = m + 1 := by
    refine ⟨n - 1, ?_⟩
    have := hi.dep
    cases e with
    | int i => cases ci
    | nm => cases cs
    | «at» => unfold Ex.dep at this; omega
    | un => unfold Ex.dep at this; omega
    | bin => unfold Ex.dep at this; omega
    | kk => unfold Ex.dep at this; omega
    | ite => unfold Ex.dep at this; omega
  have dr := rec m rfl
  have m4 : m ≤ 3 := by have := hi.n4; omega
  have hi1 : EvIn rs st (sub1 e) m := by
    refine ⟨S, fit1 hi.fit, ?_, by omega⟩
    have := hi.dep
    cases e with
    | int i => cases ci
    | nm => cases cs
    | «at» t e => unfold Ex.dep at this; show e.dep ≤ m; omega
    | un o e => unfold Ex.dep at this; show e.dep ≤ m; omega
    | bin o e e2 => unfold Ex.dep at this; show e.dep ≤ m; omega
    | kk o e z => unfold Ex.dep at this; show e.dep ≤ m; omega
    | ite e e2 e3 => unfold Ex.dep at this; show e.dep ≤ m; omega
  refine b_cut (fun σ1 H' => ∃ v1, Dt M.K H' v1 (optD (vl rs st (sub1 e))) ∧ Same H H' ∧ σ1 = [some vc, some vst, some ve, some v1, none, none]) ?_ ?_
  · have go : ∀ (ex : Expr) (p : Pos), True := fun _ _ => trivial
    clear go
    have call : ∀ v2, Dt M.K H v2 (sub1 e).d → ∃ ds d, DtAll M.K H [vc, vst, v2] ds ∧ rLV m ds d ∧ ∀ v H', Same H H' → Dt M.K H' v d → Dt M.K H' v (optD (vl rs st (sub1 e))) :=
      fun v2 h2 => ⟨_, _, .cons hc (.cons hst (.cons h2 .nil)), ⟨rs, st, _, rfl, hi1, rfl⟩, fun v H' s hv => hv⟩
    tm_at "go"
    cases e with
    | int i => cases ci
    | nm => cases cs
    | «at» t e =>
      refine e_callF dr ?_ (by show m + 2 ≤ m + 1 + 1; omega)
      tm_at "go"
      refine rx_tup he (d := e.d) rfl fun v2 h2 => ?_
      tm_at "go"
      exact ⟨_, _, .cons hc (.cons hst (.cons h2 .nil)), ⟨rs, st, e, rfl, hi1, rfl⟩, fun v H' s hv => ⟨v, hv, s, rfl⟩⟩
    | un o e =>
      have ho := (uns_at o hi.fit.1).1
      refine e_callF dr ?_ (by show m + 2 ≤ m + 1 + 1; omega)
      tm_at "go"
      refine ifd (fun c => absurd c ho) (fun _ => ?_)
      tm_at "go"
      refine rx_tup he (d := e.d) rfl fun v2 h2 => ?_
      tm_at "go"
      exact ⟨_, _, .cons hc (.cons hst (.cons h2 .nil)), ⟨rs, st, e, rfl, hi1, rfl⟩, fun v H' s hv => ⟨v, hv, s, rfl⟩⟩
    | bin o e e2 =>
      have ho := (bin_w o hi.fit.1).1
      refine e_callF dr ?_ (by show m + 2 ≤ m + 1 + 1; omega)
      tm_at "go"
      refine ifd (fun c => absurd c ho) (fun _ => ?_)
      tm_at "go"
      refine rx_tup he (d := e.d) rfl fun v2 h2 => ?_
      tm_at "go"
      exact ⟨_, _, .cons hc (.cons hst (.cons h2 .nil)), ⟨rs, st, e, rfl, hi1, rfl⟩, fun v H' s hv => ⟨v, hv, s, rfl⟩⟩
    | kk o e z =>
      have ho := (kks_at o hi.fit.1).1
      refine e_callF dr ?_ (by show m + 2 ≤ m + 1 + 1; omega)
      tm_at "go"
      refine ifd (fun c => absurd c ho) (fun _ => ?_)
      tm_at "go"
      refine rx_tup he (d := e.d) rfl fun v2 h2 => ?_
      tm_at "go"
      exact ⟨_, _, .cons hc (.cons hst (.cons h2 .nil)), ⟨rs, st, e, rfl, hi1, rfl⟩, fun v H' s hv => ⟨v, hv, s, rfl⟩⟩
    | ite e e2 e3 =>
      have ho : ¬ (decide (("if" : Str) = "at") = true) := by decide +kernel
      refine e_callF dr ?_ (by show m + 2 ≤ m + 1 + 1; omega)
      tm_at "go"
      refine rx_tup he (d := e.d) rfl fun v2 h2 => ?_
      tm_at "go"
      exact ⟨_, _, .cons hc (.cons hst (.cons h2 .nil)), ⟨rs, st, e, rfl, hi1, rfl⟩, fun v H' s hv => ⟨v, hv, s, rfl⟩⟩
  rintro _ H1 ⟨v1, h1, s1, rfl⟩
  refine b_cut (fun σ1 H' => H1 = H' ∧ ∃ w : Int, vl rs st (sub1 e) = some w ∧ σ1 = [some vc, some vst, some ve, some (.int w), none, none]) ?_ ?_
  · tm_at "go"
    rcases isN h1 with ⟨eo, rfl⟩ | ⟨w, eo, rfl⟩
    · tm_at "go"
      refine k _ _ s1 ?_
      have : vl rs st e = none := by
        cases e with
        | int i => cases ci
        | nm => cases cs
        | «at» t e => rw [vl_at, show vl rs st e = none from eo]; rfl
        | un o e => rw [vl_un, show vl rs st e = none from eo]; rfl
        | bin o e e2 => rw [vl_bin, show vl rs st e = none from eo]; rfl
        | kk o e z => rw [vl_kk, show vl rs st e = none from eo]; rfl
        | ite e e2 e3 => rw [vl_ite, show vl rs st e = none from eo]; rfl
      rw [this]
      exact .non
    · tm_at "go"
      exact ⟨rfl, w, eo, rfl⟩
  rintro _ _ ⟨rfl, w, ew, rfl⟩
  have hc1 := hc.mono (tp_same s1)
  have hst1 := hst.mono (tp_same s1)
  have he1 := he.mono (tp_same s1)
  have wB : w.natAbs < 2 ^ 400 := Nat.lt_of_le_of_lt (Nat.le_trans (evB S _ _ _ hi1.dep hi1.fit ew) (Bd_mono m4)) (by decide)
  cases e with
  | int i => cases ci
  | nm => cases cs
  | «at» t e =>
    have ew : vl rs st e = some w := ew
    tm_at "go"
    refine e_callF df ?_
    tm_at "go"
    refine ⟨_, _, .cons hc1 (.cons (.str t) (.cons (.int w) .nil)), ⟨rs, t, some w, rfl, S.nd, rfl⟩, fun v2 H2 s2 h2 => ?_⟩
    rcases isN h2 with ⟨eo, rfl⟩ | ⟨j, eo, rfl⟩
    · tm_at "go"
      refine k _ _ (s1.trans s2) ?_
      rw [vl_at, ew, Option.bind_some, eo]
      exact .non
    · have := fIdx_in eo
      tm_at "go"
      refine rx_int (hst1.mono (tp_same s2)) (gt_at S (by omega) (by omega)) ?_
      refine k _ _ (s1.trans s2) ?_
      rw [vl_at, ew, Option.bind_some, eo]
      exact .int _
  | un o e =>
    have ew : vl rs st e = some w := ew
    have ho := (uns_at o hi.fit.1).1
    have ev1 : vl rs st (.un o e) = some (un1 o w) := by rw [vl_un, ew]; rfl
    tm_at "go"
    refine ifd (fun c => absurd c ho) (fun _ => ?_)
    tm_at "go"
    refine e_tupD ?_
    tm_at "go"
    refine tupend (ds := uns.map .str) (dtStrs uns) (Nat.le_of_ble_eq_true rfl) fun v6 H6 s6 hv6 => ?_
    have he6 := he1.mono (tp_same s6)
    refine ro_inST hv6 ?_
    refine ⟨_, rfl, ifd (fun c1 => ?_) (fun c1 => absurd hi.fit.1 c1)⟩
    tm_at "go"
    refine ifd (fun c2 => ?_) (fun c2 => ?_)
    · tm_at "go"
      refine k _ _ (s1.trans s6) ?_
      rw [ev1, un1, if_pos c2, dib]
      exact .int _
    · tm_at "go"
      refine k _ _ (s1.trans s6) ?_
      rw [ev1, un1, if_neg c2, show (0 : Int) - w = -w by omega]
      exact .int _
  | kk o e z =>
    have ew : vl rs st e = some w := ew
    have ho := (kks_at o hi.fit.1).1
    have hu : o ∉ uns := by
      have : ∀ o ∈ kks, o ∉ uns := by decide +kernel
      exact this o hi.fit.1
    have hz := hi.fit.2.2
    have ev1 : vl rs st (.kk o e z) = some (bin2 o w z) := by rw [vl_kk, ew]; rfl
    tm_at "go"
    refine ifd (fun c => absurd c ho) (fun _ => ?_)
    tm_at "go"
    refine e_tupD ?_
    tm_at "go"
    refine tupend (ds := uns.map .str) (dtStrs uns) (Nat.le_of_ble_eq_true rfl) fun v6 H6 s6 hv6 => ?_
    have he6 := he1.mono (tp_same s6)
    refine ro_inST hv6 ?_
    refine ⟨_, rfl, ifd (fun c1 => absurd c1 hu) (fun c1 => ?_)⟩
    tm_at "go"
    refine e_tupD ?_
    tm_at "go"
    refine tupend (ds := kks.map .str) (dtStrs kks) (Nat.le_of_ble_eq_true rfl) fun v7 H7 s7 hv7 => ?_
    have he7 := he6.mono (tp_same s7)
    refine ro_inST hv7 ?_
    refine ⟨_, rfl, ifd (fun c1 => ?_) (fun c1 => absurd hi.fit.1 c1)⟩
    have hs : o = "div" ∨ o = "mod" := by simpa [kks] using c1
    tm_at "go"
    refine ifd (fun c2 => ?_) (fun c2 => ?_)
    · subst c2
      tm_at "go"
      refine ro_div (by omega) (by omega) ?_
      refine k _ _ (s1.trans (s6.trans s7)) ?_
      rw [ev1, show bin2 "div" w z = w / z by unfold bin2; repeat (first | rw [if_neg (by decide +kernel)] | rw [if_pos (by decide +kernel)])]
      exact .int _
    · obtain rfl := hs.resolve_left c2
      tm_at "go"
      refine ro_mod (by omega) ?_
      refine k _ _ (s1.trans (s6.trans s7)) ?_
      rw [ev1, show bin2 "mod" w z = w % z by unfold bin2; repeat (first | rw [if_neg (by decide +kernel)] | rw [if_pos (by decide +kernel)])]
      exact .int _
  | ite e e2 e3 =>
    have ew : vl rs st e = some w := ew
    have ev1 : vl rs st (.ite e e2 e3) = if w ≠ 0 then vl rs st e2 else vl rs st e3 := by rw [vl_ite, ew]; rfl
    have d2 : e2.dep ≤ m ∧ e3.dep ≤ m := by have := hi.dep; unfold Ex.dep at this; omega
    tm_at "go"
    refine e_tupD ?_
    tm_at "go"
    refine tupend (ds := uns.map .str) (dtStrs uns) (Nat.le_of_ble_eq_true rfl) fun v6 H6 s6 hv6 => ?_
    have he6 := he1.mono (tp_same s6)
    refine ro_inST hv6 ?_
    refine ⟨_, rfl, ifd (fun c1 => absurd c1 (by decide +kernel)) (fun c1 => ?_)⟩
    tm_at "go"
    refine e_tupD ?_
    tm_at "go"
    refine tupend (ds := kks.map .str) (dtStrs kks) (Nat.le_of_ble_eq_true rfl) fun v7 H7 s7 hv7 => ?_
    have he7 := he6.mono (tp_same s7)
    refine ro_inST hv7 ?_
    refine ⟨_, rfl, ifd (fun c1 => absurd c1 (by decide +kernel)) (fun c1 => ?_)⟩
    have s67 := s6.trans s7
    tm_at "go"
    refine e_callF dr ?_ (by show m + 2 ≤ m + 1 + 1; omega)
    tm_at "go"
    refine ifb (fun c2 => ?_) (fun c2 => ?_)
    · have c3 : w ≠ 0 := by simpa using c2
      tm_at "go"
      refine rx_tup he7 (d := e2.d) rfl fun v2 h2 => ?_
      tm_at "go"
      refine ⟨_, _, .cons (hc1.mono (tp_same s67)) (.cons (hst1.mono (tp_same s67)) (.cons h2 .nil)), ⟨rs, st, e2, rfl, ⟨S, hi.fit.2.1, d2.1, by omega⟩, rfl⟩, fun v H' s hv => ?_⟩
      refine k _ _ (s1.trans (s67.trans s)) ?_
      rw [ev1, if_pos c3]
      exact hv
    · have c3 : ¬ w ≠ 0 := by simpa using c2
      tm_at "go"
      refine rx_tup he7 (d := e3.d) rfl fun v2 h2 => ?_
      tm_at "go"
      refine ⟨_, _, .cons (hc1.mono (tp_same s67)) (.cons (hst1.mono (tp_same s67)) (.cons h2 .nil)), ⟨rs, st, e3, rfl, ⟨S, hi.fit.2.2, d2.2, by omega⟩, rfl⟩, fun v H' s hv => ?_⟩
      refine k _ _ (s1.trans (s67.trans s)) ?_
      rw [ev1, if_neg c3]
      exact hv
  | bin o e e2 =>
    have ew : vl rs st e = some w := ew
    obtain ⟨ho, hu, hk, hif, hlz⟩ := bin_w o hi.fit.1
    have ev1 : vl rs st (.bin o e e2) = if isLazy o = true ∧ (decide (w ≠ 0) = decide (o = "or")) then some (b2 (w ≠ 0)) else (vl rs st e2).bind fun x => some (lbin o w x) := by rw [vl_bin, ew]; rfl
    have d2 : e2.dep ≤ m := by have := hi.dep; unfold Ex.dep at this; omega
    tm_at "go"
    refine ifd (fun c => absurd c ho) (fun _ => ?_)
    tm_at "go"
    refine e_tupD ?_
    tm_at "go"
    refine tupend (ds := uns.map .str) (dtStrs uns) (Nat.le_of_ble_eq_true rfl) fun v6 H6 s6 hv6 => ?_
    have he6 := he1.mono (tp_same s6)
    refine ro_inST hv6 ?_
    refine ⟨_, rfl, ifd (fun c1 => absurd c1 hu) (fun c1 => ?_)⟩
    tm_at "go"
    refine e_tupD ?_
    tm_at "go"
    refine tupend (ds := kks.map .str) (dtStrs kks) (Nat.le_of_ble_eq_true rfl) fun v7 H7 s7 hv7 => ?_
    have he7 := he6.mono (tp_same s7)
    refine ro_inST hv7 ?_
    refine ⟨_, rfl, ifd (fun c1 => absurd c1 hk) (fun c1 => ?_)⟩
    have s67 := s6.trans s7
    tm_at "go"
    refine ifd (fun c => absurd c hif) (fun _ => ?_)
    refine b_nil ?_
    refine b_cut (fun σ1 H' => H7 = H' ∧ ¬ (isLazy o = true ∧ (decide (w ≠ 0) = decide (o = "or"))) ∧ σ1 = [some vc, some vst, some ve, some (.int w), none, none]) ?_ ?_
    · have don : (isLazy o = true ∧ (decide (w ≠ 0) = decide (o = "or"))) → ∀ x : Int, x = b2 (w ≠ 0) → Q (.int x) H7 := by
        intro z x ex
        subst ex
        refine k _ _ (s1.trans s67) ?_
        rw [ev1, if_pos z]
        exact .int _
      have e0 : (if (!decide (w = 0)) = true then (1 : Int) else 0) = b2 (w ≠ 0) := by
        unfold b2
        by_cases h : w = 0 <;> simp [h]
      refine s_if (t_w (e := .BoolOp _ _ _) (w_or ?_))
      tm_at "go"
      refine ifd (fun c2 => ?_) (fun c2 => ?_)
      · tm_at "go"
        subst c2
        have c0 : isLazy "and" = true ∧ ¬ (("and" : Str) = "or") := by decide +kernel
        refine ifd (fun c3 => ?_) (fun c3 => ?_)
        · refine ift ?_
          tm_at "go"
          exact don ⟨c0.1, by rw [decide_eq_false c0.2, decide_eq_false (fun z => z c3)]⟩ _ e0
        · tm_at "go"
          have : ¬ (decide (("and" : Str) = "or") = true) := by decide +kernel
          first
          | (refine ifd (fun c => absurd c c0.2) (fun _ => ?_)
             tm_at "go"
             exact ⟨rfl, fun z => by rw [decide_eq_false c0.2] at z; simp [c3] at z, rfl⟩)
          | exact ⟨rfl, fun z => by rw [decide_eq_false c0.2] at z; simp [c3] at z, rfl⟩
      · tm_at "go"
        refine ifd (fun c4 => ?_) (fun c4 => ?_)
        · subst c4
          have c0 : isLazy "or" = true := by decide +kernel
          tm_at "go"
          refine ifb (fun c3 => ?_) (fun c3 => ?_)
          · have c5 : w ≠ 0 := by simpa using c3
            tm_at "go"
            exact don ⟨c0, by rw [decide_eq_true c5, decide_eq_true rfl]⟩ _ e0
          · have c5 : w = 0 := by simpa using c3
            tm_at "go"
            exact ⟨rfl, fun z => by rw [decide_eq_true (rfl : ("or" : Str) = "or")] at z; simp [c5] at z, rfl⟩
        · tm_at "go"
          refine ⟨rfl, fun z => ?_, rfl⟩
          rw [hlz, decide_eq_false c2, decide_eq_false c4] at z
          exact absurd z.1 (by decide)
    rintro _ _ ⟨rfl, hno, rfl⟩
    rw [if_neg hno] at ev1
    tm_at "go"
    refine e_callF dr ?_ (by show m + 2 ≤ m + 1 + 1; omega)
    tm_at "go"
    refine rx_tup he7 (d := e2.d) rfl fun v2 h2 => ?_
    tm_at "go"
    refine ⟨_, _, .cons (hc1.mono (tp_same s67)) (.cons (hst1.mono (tp_same s67)) (.cons h2 .nil)), ⟨rs, st, e2, rfl, ⟨S, hi.fit.2.2, d2, by omega⟩, rfl⟩, fun v8 H8 s8 h8 => ?_⟩
    tm_at "go"
    rcases isN h8 with ⟨eo, rfl⟩ | ⟨x, eo, rfl⟩
    · tm_at "go"
      refine k _ _ (s1.trans (s67.trans s8)) ?_
      rw [ev1, eo]
      exact .non
    · have xB : x.natAbs < 2 ^ 400 := Nat.lt_of_le_of_lt (Nat.le_trans (evB S _ _ _ d2 hi.fit.2.2 eo) (Bd_mono m4)) (by decide)
      have he8 := he7.mono (tp_same s8)
      tm_at "go"
      refine e_callF db ?_
      tm_at "go"
      refine ⟨_, _, .cons (.str o) (.cons (.int w) (.cons (.int x) .nil)), ⟨o, w, x, rfl, hi.fit.1, ⟨wB, xB⟩, rfl⟩, fun v9 H9 s9 h9 => ?_⟩
      refine k _ _ (s1.trans (s67.trans (s8.trans s9))) ?_
      rw [ev1, eo]
      exact h9
end K

namespace K
open PySem L2 G
structure PlOk (rs : List Row) (r : Rl) : Prop where
  all : RowsAll rs
  fit : FitR rs r
end K

namespace G
open PySem PySem.Spec PyProof.Rows L2
/-! ### generators that are walked lazily -/
/-- a def at the module's name x that walks a list -/
structure DcW (c : Md) (x : Str) (ps : List Str) (k : Nat) (sp : GW.SpW) : Prop where
  ex : ∃ (f : Addr) (fd : FuncData), GW.WFn c.prog c.w c.K c.mg c.base k f fd ps sp ∧ c.mg x = some (.ref f) ∧ PySem.W.keepIn c.K (.ref f) = true ∧ Binds c.K fd ps []
theorem is_quiet {c : Cd} {X : Cx} (h : Is c X) : Is c (GW.quietX X) := ⟨h.prog, h.w, h.K, h.mg, h.base, h.N, h.sc, h.calm, h.room, h.top, PassesOwn.never, h.nd, h.gd, h.evh⟩
section
variable {c : Cd} {σ : L2.St} {H : Hp} {Q : VK} {pos : Pos} {x : Str} {p pp : Pos} {e : Expr} {es : List Expr} {ps : List Str} {k : Nat} {sp : GW.SpW}
theorem made_of {X : Cx} (D : DcW c.toMd x ps k sp) (h : Is c X) (hk : k ≤ c.k) (hg : c.sc.names.lookup x = some .globalImplicit) (hdb : (x == ("__debug__" : Str)) = false) (he : ∀ env, starEach (e :: es) env = (false, eval e env) :: starEach es env) (hpl : ∀ env, (backTo pp (starEach es env)).any (·.1) = false) :
    GW.PMade X k (.Call (.Name x p) (e :: es) [] pp) (GW.tCallW sp (RA c (e :: es))) := by
  obtain ⟨f, fd, F, hm, hkp, hb⟩ := D.ex
  refine GW.pmade_call (f := f) (fd := fd) (ps := ps) ?_ (h.room.mono hk) (gl_of h hg) (by rw [h.mg]; exact hm) (by rw [h.K]; exact hkp) (by rw [h.K]; exact hb) (pa_ra h) hdb (he _) (hpl _)
  rw [h.prog, h.w, h.K, h.mg, h.base]; exact F
/-- for y in f(e, ..) -/
theorem s_forW {nx : L2.St → Hp → Prop} {rt : VK} {bk ct : L2.St → Hp → Prop} {tg : Expr} {body : List Stmt} (D : DcW c.toMd x ps k sp)
    (q : RA c (e :: es) σ H fun vs H1 => sp vs H1 fun xs H2 => ∃ W : Nat → L2.St → Hp → Prop, W 0 σ H2 ∧ (∀ i σ' H' y, W i σ' H' → xs[i]? = some y → RG c tg y σ' H' fun σ2 H3 => RB c body ⟨W (i + 1), rt, nx, W (i + 1)⟩ σ2 H3) ∧ ∀ σ' H', W xs.length σ' H' → nx σ' H')
    (hk : k + 1 ≤ c.k := by exact Nat.le_of_ble_eq_true rfl) (hg : c.sc.names.lookup x = some .globalImplicit := by rfl) (hdb : (x == ("__debug__" : Str)) = false := by decide) (he : ∀ env, starEach (e :: es) env = (false, eval e env) :: starEach es env := by intro _; rfl) (hpl : ∀ env, (backTo pp (starEach es env)).any (·.1) = false := by intro _; rfl)
    (hs : ∀ env y, foldedSetIterable (.Call (.Name x p) (e :: es) [] pp) env y = pure y := by intro _ _; rfl) : RS c (.For tg (.Call (.Name x p) (e :: es) [] pp) body [] pos) ⟨nx, rt, bk, ct⟩ σ H :=
  rs_of (t := GW.tForW (GW.tCallW sp (RA c (e :: es))) (RG c tg) (RB c body)) (fun X h => GW.ps_forW h.own (h.room.mono hk) (made_of D h (Nat.le_trans (Nat.le_succ _) hk) hg hdb he hpl) (pg_rg (is_quiet h)) (ps_rb (is_quiet h)) (hs _)) q
/-- for i, y in enumerate(f(e, ..)) -/
theorem s_forWE {nx : L2.St → Hp → Prop} {rt : VK} {bk ct : L2.St → Hp → Prop} {elts : List Expr} {kk : Nat} {tpos ep epos : Pos} {body : List Stmt} (D : DcW c.toMd x ps k sp) (hm0 : c.mg "enumerate" = none)
    (q : RA c (e :: es) σ H fun vs H1 => sp vs H1 fun xs H2 => ∃ W : Nat → L2.St → Hp → Prop, W 0 σ H2 ∧ (∀ (i : Nat) σ' H' y T, W i σ' H' → xs[i]? = some y → H' T = none → RG c (.Tuple elts kk tpos) (.ref T) σ' (upd H' T (.tup [.int i, y])) fun σ2 H3 => RB c body ⟨W (i + 1), rt, nx, W (i + 1)⟩ σ2 H3) ∧ ∀ σ' H', W xs.length σ' H' → nx σ' H')
    (hk : k + 2 ≤ c.k := by exact Nat.le_of_ble_eq_true rfl) (hg : c.sc.names.lookup x = some .globalImplicit := by rfl) (hg2 : c.sc.names.lookup ("enumerate" : Str) = some .globalImplicit := by rfl) (hdb : (x == ("__debug__" : Str)) = false := by decide) (he : ∀ env, starEach (e :: es) env = (false, eval e env) :: starEach es env := by intro _; rfl) (hpl : ∀ env, (backTo pp (starEach es env)).any (·.1) = false := by intro _; rfl)
    (he1 : ∀ env, starEach [.Call (.Name x p) (e :: es) [] pp] env = (false, eval (.Call (.Name x p) (e :: es) [] pp) env) :: starEach [] env := by intro _; rfl)
    (hs : ∀ env y, foldedSetIterable (.Call (.Name "enumerate" ep) [.Call (.Name x p) (e :: es) [] pp] [] epos) env y = pure y := by intro _ _; rfl) : RS c (.For (.Tuple elts kk tpos) (.Call (.Name "enumerate" ep) [.Call (.Name x p) (e :: es) [] pp] [] epos) body [] pos) ⟨nx, rt, bk, ct⟩ σ H :=
  rs_of (t := GW.tForE (GW.tCallW sp (RA c (e :: es))) (RG c (.Tuple elts kk tpos)) (RB c body)) (fun X h => GW.ps_forE h.own (h.room.mono hk) (made_of D h (Nat.le_trans (Nat.le_add_right _ 2) hk) hg hdb he hpl) (pg_rg (is_quiet h)) (ps_rb (is_quiet h)) (gl_of h hg2) (by rw [h.mg]; exact hm0) (he1 _) (hs _)) q
abbrev tLcG (c : Cd) (sp : GW.SpW) (es : List Expr) (scope : Scope) (tg elt : Expr) (ifs : List Expr) (own : List (Str × Nat)) : TE := GW.tLcW (GW.tCallW sp (RA c es)) (RG (blkCd c scope) tg) (RTs (blkCd c scope) ifs) (RE (blkCd c scope) elt) (own.map (·.2))
/-- [elt for tg in f(e, ..) if ..] -/
theorem e_lcW {elt tg : Expr} {ifs : List Expr} {scope : Scope} {own : List (Str × Nat)} (D : DcW c.toMd x ps k sp) (ok : Blk c scope own) (hnc : (scope.names.all fun y => y.2 != .cell) = true) (q : tLcG c sp (e :: es) scope tg elt ifs own σ H Q)
    (hk : k + 1 ≤ c.k := by exact Nat.le_of_ble_eq_true rfl) (hg : c.sc.names.lookup x = some .globalImplicit := by rfl) (hdb : (x == ("__debug__" : Str)) = false := by decide) (he : ∀ env, starEach (e :: es) env = (false, eval e env) :: starEach es env := by intro _; rfl) (hpl : ∀ env, (backTo pp (starEach es env)).any (·.1) = false := by intro _; rfl)
    (hs : ∀ env y, foldedSetIterable (.Call (.Name x p) (e :: es) [] pp) env y = pure y := by intro _ _; rfl) : RE c (.ListComp elt [⟨tg, .Call (.Name x p) (e :: es) [] pp, ifs, 0⟩] scope pos) σ H Q :=
  re_of (fun X h => GW.pe_lcW (by rw [h.N]; exact h.nd) (h.room.mono hk) (made_of D h (Nat.le_trans (Nat.le_succ _) hk) hg hdb he hpl) (by rw [h.N, h.sc]; exact ok.ok) (fun y hy e => by have := List.all_eq_true.mp hnc y hy; rw [e] at this; cases this) (fun s H C cl fp => pg_rg (is_blk h s H C cl fp)) (fun s H C cl fp => pts_rts (is_blk h s H C cl fp)) (fun s H C cl fp => pe_re (is_blk h s H C cl fp)) (hs _)) q
/-- y = [elt for tg in f(e, ..) if ..] on one line, y a local -/
theorem s_setLcW {nx : L2.St → Hp → Prop} {rt : VK} {bk ct : L2.St → Hp → Prop} {i : Nat} {y : Str} {py spos : Pos} {elt tg : Expr} {ifs : List Expr} {scope : Scope} {own : List (Str × Nat)} (hA : At c.N i y) (D : DcW c.toMd x ps k sp) (ok : Blk c scope own) (hnc : (scope.names.all fun y => y.2 != .cell) = true) (q : tLcG c sp (e :: es) scope tg elt ifs own σ H fun v H1 => nx (σ.set i (some v)) H1)
    (hk : k + 1 ≤ c.k := by exact Nat.le_of_ble_eq_true rfl) (hg : c.sc.names.lookup x = some .globalImplicit := by rfl) (hdb : (x == ("__debug__" : Str)) = false := by decide) (he : ∀ env, starEach (e :: es) env = (false, eval e env) :: starEach es env := by intro _; rfl) (hpl : ∀ env, (backTo pp (starEach es env)).any (·.1) = false := by intro _; rfl)
    (hy : c.sc.names.lookup y = some .local := by rfl) (hl : (py.line == pos.line) = true := by rfl) (ha : (scope.names.any fun (n, k) => n == y && (k == .local || k == .cell)) = false := by rfl) (hf : c.sc.kind = .function := by rfl) (hs : ∀ env z, foldedSetIterable (.Call (.Name x p) (e :: es) [] pp) env z = pure z := by intro _ _; rfl) :
    RS c (.Assign [.Name y py] (.ListComp elt [⟨tg, .Call (.Name x p) (e :: es) [] pp, ifs, 0⟩] scope pos) spos) ⟨nx, rt, bk, ct⟩ σ H :=
  rs_of (c := c) (σ := σ) (H := H) (D := ⟨nx, rt, bk, ct⟩) (t := tAsg (GW.tLcW (GW.tCallW sp (RA c (e :: es))) (RG (blkCd c scope) tg) (RTs (blkCd c scope) ifs) (RE (blkCd c scope) elt) (own.map (fun p : Str × Nat => p.2))) (gName i)) (fun X h => GW.ps_setLcW (by rw [h.N]; exact h.nd) (h.room.mono hk) (by rw [h.N]; exact hA.get) (by rw [h.sc]; exact hy)
    (sw_true (by rw [h.sc]; exact hf) (by rw [h.sc]; exact hy) hl ha) (made_of D h (Nat.le_trans (Nat.le_succ _) hk) hg hdb he hpl) (by rw [h.N, h.sc]; exact ok.ok) (fun y hy e => by have := List.all_eq_true.mp hnc y hy; rw [e] at this; cases this) (fun s H C cl fp => pg_rg (is_blk h s H C cl fp)) (fun s H C cl fp => pts_rts (is_blk h s H C cl fp)) (fun s H C cl fp => pe_re (is_blk h s H C cl fp)) (hs _)) q
end
/-- a def whose body is «for y in e: yield y», e a list of its own -/
theorem wfn_walk {M : Md} {x qual : Str} {st : Stmt} {f : Addr} {fd : FuncData} {N ps : List Str} {k : Nat} {sp : GW.SpW} {y : Str} {xp yp p1 p2 p3 : Pos} {e : Expr} (F : Fun M.K x qual st f fd) (S : GScope N ps (defScope st)) (len : ∀ vs H Q, sp vs H Q → vs.length = ps.length)
    (hst : defBody st = [.For (.Name y xp) e [.Expr (.Yield (some (.Name y yp)) p1) p2] [] p3]) (hx : (defScope st).names.lookup y = some .local) (hxd : (y == ("__debug__" : Str)) = false) (hi : ∀ env : Env, env.scope = defScope st → interactive env = false) (hs : ∀ env v, foldedSetIterable e env v = pure v)
    (body : ∀ (H : Hp) (vs : List V) (Q : List V → Hp → Prop), sp vs H Q → RE ⟨M, N, defScope st, k, true, false, none⟩ e (start N vs) H fun v H1 => ∃ l xs, v = .ref l ∧ H1 l = some (.lst xs) ∧ Q xs (GW.hide H1 l)) :
    GW.WFn M.prog M.w M.K M.mg M.base (k + 1) f fd ps sp := by
  obtain ⟨oc, od, kV, doc, pm, an, cdv, ct, osl, rfl, lk, hcd⟩ := F.ex
  rw [hst] at lk ⊢
  refine GW.wfn_of lk hcd S len hx hxd hi hs fun A outer s H vs Q hr h => ?_
  have is : Is ⟨M, N, defScope st, k, true, false, none⟩ (GW.xW M.prog M.w M.K M.mg M.base N qual (defScope st) f cdv A outer s H) := ⟨rfl, rfl, rfl, rfl, rfl, rfl, rfl, rfl, hr, fun _ _ => rfl, PassesOwn.never, S.nd, fun q => Bool.noConfusion q, fun _ _ q => nomatch q⟩
  exact ⟨_, pe_re is, body H vs Q h⟩
theorem hide_same {H H1 : Hp} {l : Addr} (s : Same H H1) (n : H l = none) : Same H (GW.hide H1 l) := fun a o h => by
  have ne : a ≠ l := fun e => by rw [e, n] at h; cases h
  rw [GW.hide_ne ne]
  exact s a o h
end G

namespace K
open PySem L2 G
/-! ### states by their places -/
def Dg : List Rng → Nat → St1
  | [], _ => []
  | p :: ps, n => (p.1 + (((n / many ps) % span p : Nat) : Int)) :: Dg ps n
theorem flat_get {α β : Type} (m : Nat) (hm : 1 ≤ m) (f : α → Nat → β) : ∀ (l : List α) (k : Nat), k < l.length * m → (l.flatMap fun a => (List.range m).map (f a))[k]? = (l[k / m]?).map fun a => f a (k % m)
  | [], k, h => by simp at h
  | a :: l, k, h => by
    rw [List.flatMap_cons]
    by_cases hk : k < m
    · rw [List.getElem?_append_left (by simpa using hk), List.getElem?_map, List.getElem?_range hk, Nat.div_eq_of_lt hk, Nat.mod_eq_of_lt hk]
      rfl
    · have hk : m ≤ k := Nat.le_of_not_lt hk
      rw [List.getElem?_append_right (by simpa using hk), List.length_map, List.length_range]
      rw [List.length_cons, Nat.succ_mul] at h
      rw [flat_get m hm f l (k - m) (by omega)]
      have e1 : k / m = (k - m) / m + 1 := by
        have : k = (k - m) + m := by omega
        conv => lhs; rw [this]
        rw [Nat.add_div_right _ (by omega)]
      have e2 : k % m = (k - m) % m := by
        have : k = (k - m) + m := by omega
        conv => lhs; rw [this]
        rw [Nat.add_mod_right]
      rw [e1, e2, List.getElem?_cons_succ]
theorem many_nil : many [] = 1 := rfl
theorem fold_get : ∀ (ps : List Rng) (acc : List St1) (n : Nat), (∀ p ∈ ps, 1 ≤ span p) → n < acc.length * many ps → (ps.foldl widen acc)[n]? = (acc[n / many ps]?).map fun o => o ++ Dg ps n
  | [], acc, n, _, h => by
    rw [many_nil, Nat.div_one]
    show acc[n]? = _
    cases acc[n]? with
    | none => rfl
    | some o => show some o = some (o ++ []); rw [List.append_nil]
  | p :: ps, acc, n, hs, h => by
    have sp := hs p (List.mem_cons_self ..)
    have mp : 1 ≤ many ps := (many_drop (fun q hq => hs q (List.mem_cons_of_mem _ hq)) 0).2
    rw [many_cons] at h
    rw [List.foldl_cons, fold_get ps (widen acc p) n (fun q hq => hs q (List.mem_cons_of_mem _ hq)) (by rw [widen_len, Nat.mul_assoc, Nat.mul_comm (span p)]; exact h)]
    have hk : n / many ps < acc.length * span p := by
      rw [Nat.div_lt_iff_lt_mul (by omega), Nat.mul_assoc, Nat.mul_comm (span p)]
      exact h
    unfold widen
    rw [flat_get (span p) sp (fun (o : St1) (t : Nat) => (o ++ [p.1 + (t : Int)] : St1)) acc _ hk, many_cons, ← Nat.div_div_eq_div_mul]
    cases acc[n / many ps / span p]? with
    | none => rfl
    | some o =>
      show some ((o ++ [_]) ++ Dg ps n) = some (o ++ Dg (p :: ps) n)
      rw [List.append_assoc]
      rfl
theorem sts_get {ps : List Rng} (hs : ∀ p ∈ ps, 1 ≤ span p) {n : Nat} (h : n < many ps) : (statesOf ps)[n]? = some (Dg ps n) := by
  unfold statesOf
  rw [fold_get ps [[]] n hs (by simpa using h), Nat.div_eq_of_lt h]
  rfl
theorem Dg_mod : ∀ (ps : List Rng) (n k : Nat), (∀ p ∈ ps, 1 ≤ span p) → Dg ps (n + k * many ps) = Dg ps n
  | [], _, _, _ => rfl
  | p :: ps, n, k, hs => by
    have mp : 1 ≤ many ps := (many_drop (fun q hq => hs q (List.mem_cons_of_mem _ hq)) 0).2
    have e : n + k * many (p :: ps) = n + (k * span p) * many ps := by
      rw [many_cons, Nat.mul_comm (many ps), Nat.mul_assoc]
    rw [e, Dg, Dg, Dg_mod ps n (k * span p) (fun q hq => hs q (List.mem_cons_of_mem _ hq)), Nat.add_mul_div_right _ _ (by omega), Nat.add_mul_mod_self_right]
theorem stp_dvd : ∀ (ps : List Rng), ∀ q ∈ stp ps, q.1 * q.2 ∣ many ps
  | [], q, h => by cases h
  | p :: ps, q, h => by
    rw [many_cons]
    rcases List.mem_cons.mp h with rfl | h
    · exact Nat.dvd_refl _
    · exact Nat.dvd_trans (stp_dvd ps q h) (Nat.dvd_mul_right _ _)
theorem lw_part {n s m : Nat} : n / s % m * s ≤ n % (s * m) := by
  rw [Nat.mod_mul, Nat.mul_comm]
  omega
theorem lw_div {n s m M : Nat} (hM : 1 ≤ M) (h : s * m ∣ M) : lw n s m / M = n / M := by
  have a := lw_part (n := n) (s := s) (m := m)
  have b : n % (s * m) ≤ n % M := by
    rw [← Nat.mod_mod_of_dvd n h]
    exact Nat.mod_le _ _
  have c := lw_le n s m
  refine Nat.le_antisymm (Nat.div_le_div_right c) ?_
  rw [Nat.le_div_iff_mul_le (by omega)]
  have d := Nat.div_add_mod n M
  rw [Nat.mul_comm] at d
  unfold lw
  omega
theorem lw_low {n s m : Nat} (hs : 1 ≤ s) : (lw n s m / s) % m = 0 := by
  have e : lw n s m / s = n / s - n / s % m := by
    unfold lw
    have := Nat.sub_mul_div n s (n / s % m)
    rw [Nat.mul_comm] at this
    exact this
  rw [e]
  have := Nat.div_add_mod (n / s) m
  have e2 : n / s - n / s % m = m * (n / s / m) := by omega
  rw [e2]
  exact Nat.mul_mod_right _ _
theorem Dg_lw : ∀ (ps : List Rng) (i n : Nat) (q : Nat × Nat) (p : Rng), (∀ p ∈ ps, 1 ≤ span p) → (stp ps)[i]? = some q → ps[i]? = some p → Dg ps (lw n q.1 q.2) = (Dg ps n).set i p.1
  | [], _, _, _, _, _, h, _ => by cases h
  | p :: ps, 0, n, q, p', hs, h, h2 => by
    have hs' : ∀ q ∈ ps, 1 ≤ span q := fun q hq => hs q (List.mem_cons_of_mem _ hq)
    have mp : 1 ≤ many ps := (many_drop hs' 0).2
    obtain rfl : (many ps, span p) = q := Option.some.inj h
    obtain rfl : p = p' := Option.some.inj h2
    rw [Dg, Dg, List.set_cons_zero, lw_low mp]
    have e : n = lw n (many ps) (span p) + (n / many ps % span p) * many ps := by
      have := low_le n (many ps) (span p)
      unfold lw
      omega
    congr 1
    · show p.1 + ((0 : Nat) : Int) = p.1
      omega
    · conv => rhs; rw [e]
      rw [Dg_mod ps _ _ hs']
  | p :: ps, i + 1, n, q, p', hs, h, h2 => by
    have hs' : ∀ q ∈ ps, 1 ≤ span q := fun q hq => hs q (List.mem_cons_of_mem _ hq)
    have mp : 1 ≤ many ps := (many_drop hs' 0).2
    have h' : (stp ps)[i]? = some q := by rw [stp, List.getElem?_cons_succ] at h; exact h
    have h2' : ps[i]? = some p' := by rw [List.getElem?_cons_succ] at h2; exact h2
    rw [Dg, Dg, List.set_cons_succ, Dg_lw ps i n q p' hs' h' h2', lw_div mp (stp_dvd ps q (List.mem_of_getElem? h'))]
end K

namespace K
open PySem PySem.Spec PyProof.Rows L2 G
variable {M : Md}
/-! ### the count of the states -/
abbrev dcRngs (M : Md) : Prop := Dc M "cell_ranges" ["cells"] 2 (spF rRanges M.K)
def rCnt : List PyData → PyData → Prop := fun ds d => ∃ (rs : List Row) (rest : List PyData), ds = [.tuple (cellsD rs :: rest)] ∧ Small rs ∧ d = .int (many (rg rs) : Nat)
theorem many_snoc {ps : List Rng} {i : Nat} {p : Rng} (h : ps[i]? = some p) : many (ps.take (i + 1)) = many (ps.take i) * span p := by
  obtain ⟨h1, rfl⟩ := List.getElem?_eq_some_iff.mp h
  rw [List.take_succ_eq_append_getElem h1, many_app]
  congr 1
  exact Nat.one_mul _
theorem ok_count {f fd} (F : Fun M.K "count_states" "count_states" s_count_states f fd) (b : Bl M) (dr : dcRngs M) : FnG M.prog M.w M.K M.mg M.base CX0 3 f fd ["program"] (spF rCnt M.K) := by
  refine fn_ok F sc_count_states (fun vs H Q E h => ?_) (fun H vs Q E h => ?_)
  · obtain ⟨ds, d, h, ⟨rs, rest, rfl, _⟩, _⟩ := h
    exact h.len
  obtain ⟨ds, d, h, ⟨rs, rest, rfl, sm, rfl⟩, k⟩ := h
  obtain _ | ⟨hp, h⟩ := h
  cases h
  rename_i vp
  refine b_cons (s_set (by tm_at "at") (e_int ?_))
  refine b_cons (s_forT ?_)
  refine e_callF dr ?_
  tm_at "go"
  refine rx_tup hp (d := cellsD rs) (pl_at (j := 0) rfl rfl) fun vc hc => ?_
  refine a_nil ?_
  refine ⟨_, _, .cons hc .nil, ⟨rs, rfl, Nat.le_trans sm.tot (by decide), rfl⟩, fun v1 H1 s1 h1 => ?_⟩
  rw [rngs_eq] at h1
  obtain ⟨a, xs, rfl, ht, hd⟩ := h1.tupE
  have hl := hd.len
  rw [List.length_map] at hl
  have hsp : ∀ p ∈ rg rs, 1 ≤ span p := fun p hp => (sm.sp p hp).1
  have mm := sm.many
  generalize rg rs = ps at *
  refine ⟨a, xs, rfl, ht, fun i σ1 H' => H1 = H' ∧ ∃ v2 v3, σ1 = [some vp, some (.int (many (ps.take i) : Nat)), v2, v3], ⟨rfl, _, _, rfl⟩, ?_, ?_, ?_⟩
  · rintro i σ' _ _ ⟨rfl, _⟩
    exact ht
  · rintro i x σ' _ hx ⟨rfl, v2, v3, rfl⟩
    obtain ⟨d, hdi, hx'⟩ := hd.getV hx
    rw [List.getElem?_map] at hdi
    obtain ⟨p, hq, rfl⟩ := Option.map_eq_some_iff.mp hdi
    have spn := hsp p (List.mem_of_getElem? hq)
    have e2 := many_snoc hq
    have m1 := many_take hsp i
    have m2 := many_take hsp (i + 1)
    have es : p.2 - p.1 + 1 = ((span p : Nat) : Int) := by unfold span at spn ⊢; omega
    refine g_unp2 (by tm_at "at") (by tm_at "at") hx' fun va vb ha hb => ?_
    cases ha
    cases hb
    tm_at "go"
    rw [es]
    refine ro_mul (.inl ⟨?_, ?_⟩) ?_
    · omega
    · omega
    tm_at "go"
    exact ⟨rfl, some (.int p.1), some (.int p.2), by rw [e2, Int.natCast_mul]; rfl⟩
  · rintro σ' _ ⟨rfl, v2, v3, rfl⟩
    rw [List.take_of_length_le (by omega)]
    tm_at "go"
    exact k _ _ s1 (.int _)
/-! ### the state of a number -/
def digs : List Rng → Nat → List Int
  | [], _ => []
  | p :: qs, n => (p.1 + ((n % span p : Nat) : Int)) :: digs qs (n / span p)
def lefts : List Rng → Nat → Nat
  | [], n => n
  | p :: qs, n => lefts qs (n / span p)
theorem lefts_snoc (p : Rng) : ∀ (qs : List Rng) (n : Nat), lefts (qs ++ [p]) n = lefts qs n / span p
  | [], _ => rfl
  | q :: qs, n => by rw [List.cons_append, lefts, lefts_snoc p qs, lefts]
theorem digs_snoc (p : Rng) : ∀ (qs : List Rng) (n : Nat), digs (qs ++ [p]) n = digs qs n ++ [p.1 + ((lefts qs n % span p : Nat) : Int)]
  | [], _ => rfl
  | q :: qs, n => by rw [List.cons_append, digs, digs_snoc p qs, digs, lefts]; rfl
theorem digs_len : ∀ (qs : List Rng) (n : Nat), (digs qs n).length = qs.length
  | [], _ => rfl
  | q :: qs, n => congrArg Nat.succ (digs_len qs _)
def stAt (ps : List Rng) (n : Nat) : St1 := (digs ps.reverse n).reverse
def rStAt : List PyData → PyData → Prop := fun ds d => ∃ (rs : List Row) (rest : List PyData) (n : Nat), ds = [.tuple (cellsD rs :: rest), .int n] ∧ Small rs ∧ d = stD (stAt (rg rs) n)
theorem ok_stat {f fd} (F : Fun M.K "state_at" "state_at" s_state_at f fd) (b : Bl M) (dr : dcRngs M) : FnG M.prog M.w M.K M.mg M.base CX0 3 f fd ["program", "number"] (spF rStAt M.K) := by
  refine fn_ok F sc_state_at (fun vs H Q E h => ?_) (fun H vs Q E h => ?_)
  · obtain ⟨ds, d, h, ⟨rs, rest, n, rfl, _⟩, _⟩ := h
    exact h.len
  obtain ⟨ds, d, h, ⟨rs, rest, n, rfl, sm, rfl⟩, k⟩ := h
  obtain _ | ⟨hp, h⟩ := h
  obtain _ | ⟨hn, h⟩ := h
  cases h
  cases hn
  rename_i vp
  refine b_cons (s_set (by tm_at "at") (e_lstD (a_nil ⟨by decide, fun l0 H0 s0 n0 g0 => ?_⟩)))
  refine b_cons (s_set (by tm_at "at") (e_var (by tm_at "at") ?_))
  refine b_cons (s_forT ?_)
  refine e_revT ?_
  refine e_callF dr ?_
  tm_at "go"
  refine rx_tup (hp.mono (tp_same s0)) (d := cellsD rs) (pl_at (j := 0) rfl rfl) fun vc hc => ?_
  refine a_nil ?_
  refine ⟨_, _, .cons hc .nil, ⟨rs, rfl, Nat.le_trans sm.tot (by decide), rfl⟩, fun v1 H1 s1 h1 => ?_⟩
  rw [rngs_eq] at h1
  refine ⟨_, h1, fun v2 H2 s2 h2 => ?_⟩
  rw [← List.map_reverse] at h2
  obtain ⟨a, xs, rfl, ht, hd⟩ := h2.tupE
  have hl := hd.len
  rw [List.length_map] at hl
  have l10 := sm.tot
  rw [← rg_len] at l10
  have hsp : ∀ p ∈ (rg rs).reverse, 1 ≤ span p ∧ span p < 1073741824 := fun p hp => by
    have hp := List.mem_reverse.mp hp
    have h1 := (sm.sp p hp).1
    refine ⟨h1, ?_⟩
    have := (sm.sp p hp).2
    unfold span at *
    omega
  have lr : (rg rs).reverse.length ≤ 1000 := by rw [List.length_reverse]; omega
  unfold stAt at k
  generalize (rg rs).reverse = qs at *
  refine ⟨a, xs, rfl, ht, fun i σ1 H' => ∃ (us : List V) (v4 v5 v6 : Option V), σ1 = [some vp, some (.int n), some (.ref l0), some (.int (lefts (qs.take i) n : Nat)), v4, v5, v6] ∧ Same H H' ∧ Tp H2 H' ∧ H' l0 = some (.lst us) ∧ DtAll M.K H' us ((digs (qs.take i) n).map .int), ⟨[], none, none, none, rfl, s0.trans (s1.trans s2), Tp.refl _, s2 _ _ (s1 _ _ g0), .nil⟩, ?_, ?_, ?_⟩
  · rintro i σ' H' _ ⟨us, v4, v5, v6, rfl, s, t, _⟩
    exact t.sqt ht
  · rintro i x σ' H3 hx ⟨us, v4, v5, v6, rfl, s3, t3, g3, h3⟩
    obtain ⟨d, hdi, hx'⟩ := hd.getV hx
    rw [List.getElem?_map] at hdi
    obtain ⟨p, hq, rfl⟩ := Option.map_eq_some_iff.mp hdi
    obtain ⟨sp1, sp2⟩ := hsp p (List.mem_of_getElem? hq)
    have hi := (List.getElem?_eq_some_iff.mp hq).1
    have ed : qs.take (i + 1) = qs.take i ++ [p] := by
      obtain ⟨h1, h2⟩ := List.getElem?_eq_some_iff.mp hq
      rw [List.take_succ_eq_append_getElem h1, h2]
    have es : p.2 - p.1 + 1 = ((span p : Nat) : Int) := by unfold span at sp1 ⊢; omega
    refine g_unp2 (by tm_at "at") (by tm_at "at") (hx'.mono t3) fun va vb ha hb => ?_
    cases ha
    cases hb
    tm_at "go"
    rw [es]
    refine s_expr ?_
    refine e_app ?_
    tm_at "go"
    refine ⟨l0, us, rfl, g3, ?_⟩
    tm_at "go"
    refine ro_mod (by omega) ?_
    tm_at "go"
    have hul := h3.len
    rw [List.length_map, digs_len, List.length_take] at hul
    refine ⟨us, g3, by omega, ?_⟩
    have ku := kp_upd (o' := .lst (us ++ [.int (p.1 + ((lefts (qs.take i) n : Nat) : Int) % ((span p : Nat) : Int))])) g3 (fun _ e => nomatch e) (fun _ _ e => nomatch e)
    tm_at "go"
    refine ro_div (by omega) (by omega) ?_
    tm_at "go"
    refine ⟨_, some (.int p.1), some (.int p.2), some (.int ((span p : Nat) : Int)), ?_, same_mut s3 n0, t3.trans ku.t, upd_same, ?_⟩
    · rw [ed, lefts_snoc, Int.natCast_ediv]
      rfl
    · rw [ed, digs_snoc, List.map_append, Int.natCast_emod]
      exact (h3.mono ku.t).app (.cons (.int _) .nil)
  · rintro σ' H3 ⟨us, v4, v5, v6, rfl, s3, t3, g3, h3⟩
    rw [List.take_of_length_le (by omega)] at h3
    refine b_one (s_ret (e_callT (T := "tuple") b.tuple (by decide +kernel) (a_cons (e_revL (e_var (by tm_at "at") ?_)))))
    refine ⟨l0, us, rfl, .of g3, fun p H4 s4 n4 g4 => ?_⟩
    refine a_nil ?_
    have h4 := (h3.mono (tp_same s4)).rev
    rw [← List.map_reverse] at h4
    refine rc_tupL (.of g4) h4 fun v5 H5 s5 h5 => ?_
    exact k _ _ (s3.trans (s4.trans s5)) h5
end K

namespace K
open PySem PySem.Spec PyProof.Rows L2 G
variable {M : Md}
/-! ### the state of a number is the state at its place -/
theorem sts_digs : ∀ (qs : List Rng) (n : Nat), (∀ p ∈ qs, 1 ≤ span p) → n < many qs.reverse → (statesOf qs.reverse)[n]? = some ((digs qs n).reverse)
  | [], n, _, h => by
    have h : n < 1 := h
    obtain rfl : n = 0 := by omega
    rfl
  | q :: qs, n, hs, h => by
    have s1 := hs q (List.mem_cons_self ..)
    have hs' : ∀ p ∈ qs, 1 ≤ span p := fun p hp => hs p (List.mem_cons_of_mem _ hp)
    have e : statesOf (q :: qs).reverse = widen (statesOf qs.reverse) q := by
      rw [List.reverse_cons]
      unfold statesOf
      rw [List.foldl_append]
      rfl
    have em : many (q :: qs).reverse = many qs.reverse * span q := by
      rw [List.reverse_cons, many_app]
      congr 1
      exact Nat.one_mul _
    rw [em] at h
    have hd : n / span q < many qs.reverse := (Nat.div_lt_iff_lt_mul (by omega)).mpr h
    rw [e, widen, flat_get (span q) s1 (fun (o : St1) (t : Nat) => (o ++ [q.1 + (t : Int)] : St1)) (statesOf qs.reverse) n (by rw [states_len]; exact h), sts_digs qs _ hs' hd]
    show some ((digs qs (n / span q)).reverse ++ [q.1 + ((n % span q : Nat) : Int)]) = _
    rw [digs, List.reverse_cons]
theorem stAt_get {ps : List Rng} {n : Nat} (hs : ∀ p ∈ ps, 1 ≤ span p) (h : n < many ps) : (statesOf ps)[n]? = some (stAt ps n) := by
  have := sts_digs ps.reverse n (fun p hp => hs p (List.mem_reverse.mp hp)) (by rw [List.reverse_reverse]; exact h)
  rw [List.reverse_reverse] at this
  exact this
theorem stAt_Dg {ps : List Rng} {n : Nat} (hs : ∀ p ∈ ps, 1 ≤ span p) (h : n < many ps) : stAt ps n = Dg ps n := by
  have h1 := stAt_get hs h
  rw [sts_get hs h] at h1
  exact (Option.some.inj h1).symm
theorem stAt_mem {ps : List Rng} {n : Nat} (hs : ∀ p ∈ ps, 1 ≤ span p) (h : n < many ps) : stAt ps n ∈ statesOf ps := List.mem_of_getElem? (stAt_get hs h)
end K

namespace K
open PySem PySem.Spec PyProof.Rows L2 G
variable {M : Md}
/-! ### all states, one behind another; the number of a state -/
theorem tp_hide {H : Hp} {l : Addr} {xs : List V} (e : H l = some (.lst xs)) : Tp H (GW.hide H l) := by
  have ne : ∀ {a : Addr} {o : HO}, H a = some o → o ≠ .lst xs → a ≠ l := fun {a o} h d q => by
    rw [q, e] at h
    exact d (Option.some.inj h).symm
  refine ⟨fun a ys h => ?_, fun a o u h => ?_⟩
  · rw [GW.hide_ne (ne h fun q => nomatch q)]; exact h
  · rw [GW.hide_ne (ne h fun q => nomatch q)]; exact h
def spAllW (K : PySem.W.Frag) : GW.SpW := fun vs H Q => ∃ (v : V) (rs : List Row) (rest : List PyData), vs = [v] ∧ Dt K H v (.tuple (cellsD rs :: rest)) ∧ Small rs ∧ ∀ xs H', Same H H' → RAll TI H' xs (statesOf (rg rs)) → Q xs H'
theorem gsc_all : GScope N_all_states ["program"] (defScope s_all_states) := ⟨rfl, rfl, rfl, by decide +kernel, rfl, by decide +kernel, by decide +kernel⟩
theorem ok_allW {f fd} (F : Fun M.K "all_states" "all_states" s_all_states f fd) (b : Bl M) (ds : dcSl M) : GW.WFn M.prog M.w M.K M.mg M.base 4 f fd ["program"] (spAllW M.K) := by
  refine wfn_walk (k := 3) F gsc_all (fun vs H Q h => ?_) rfl rfl rfl (fun env he => ?_) (by intro _ _; rfl) (fun H vs Q h => ?_)
  · obtain ⟨v, rs, rest, rfl, _⟩ := h
    rfl
  · unfold interactive
    rw [he]
    rfl
  obtain ⟨v, rs, rest, rfl, hv, sm, k⟩ := h
  refine e_callR ds ?_
  refine a_cons (e_var (by tm_at "at") (a_nil ?_))
  refine ⟨_, _, .cons hv .nil, ⟨rs, rest, rfl, sm, rfl⟩, fun l us H1 s1 n1 g1 h1 => ?_⟩
  exact ⟨l, us, rfl, g1, k us _ (hide_same s1 n1) (h1.mono kTI (tp_hide g1))⟩
theorem many_drop1 {ps : List Rng} {i : Nat} {p : Rng} (h : ps[i]? = some p) : many (ps.drop i) = span p * many (ps.drop (i + 1)) := by
  obtain ⟨h1, rfl⟩ := List.getElem?_eq_some_iff.mp h
  rw [List.drop_eq_getElem_cons h1, many_cons, Nat.mul_comm]
theorem Dg_get : ∀ (ps : List Rng) (n i : Nat) (p : Rng), ps[i]? = some p → (Dg ps n)[i]? = some (p.1 + (((n / many (ps.drop (i + 1))) % span p : Nat) : Int))
  | [], _, _, _, h => by simp at h
  | q :: ps, n, 0, p, h => by
    obtain rfl : q = p := Option.some.inj h
    rfl
  | q :: ps, n, i + 1, p, h => by
    rw [Dg, List.getElem?_cons_succ, Dg_get ps n i p (by simpa using h)]
    rfl
theorem Dg_length : ∀ (ps : List Rng) (n : Nat), (Dg ps n).length = ps.length
  | [], _ => rfl
  | _ :: ps, n => congrArg Nat.succ (Dg_length ps n)
theorem s_forZ {c : Cd} {σ : L2.St} {H : Hp} {pos : Pos} {nx : L2.St → Hp → Prop} {rt : VK} {bk ct : L2.St → Hp → Prop} {e e2 : Expr} {p ppos tpos : Pos} {elts : List Expr} {kk : Nat} {body : List Stmt} (hm : c.mg "zip" = none)
    (q : RA c [e, e2] σ H fun us H1 => ∃ a b xs ys, us = [.ref a, .ref b] ∧ SqT c.K H1 a xs ∧ SqT c.K H1 b ys ∧ xs.length = ys.length ∧ ∃ Pv : Nat → L2.St → Hp → Prop, Pv 0 σ H1 ∧ (∀ i σ' H', Pv i σ' H' → SqT c.K H' a xs ∧ SqT c.K H' b ys) ∧
      (∀ (i : Nat) (x y : V) (T : Addr) (σ' : L2.St) (H' : Hp), xs[i]? = some x → ys[i]? = some y → Pv i σ' H' → H' T = none → RG c (.Tuple elts kk tpos) (.ref T) σ' (upd H' T (.tup [x, y])) fun σ2 H2 => RB c body ⟨Pv (i + 1), rt, nx, Pv (i + 1)⟩ σ2 H2) ∧ ∀ σ' H', Pv xs.length σ' H' → nx σ' H')
    (hg : c.sc.names.lookup ("zip" : Str) = some .globalImplicit := by rfl) (hs : ∀ env, starEach [e, e2] env = (false, eval e env) :: starEach [e2] env := by intro _; rfl) (hpl : ∀ env, (backTo ppos (starEach [e2] env)).any (·.1) = false := by intro _; rfl)
    (hf : ∀ env x, foldedSetIterable (.Call (.Name "zip" p) [e, e2] [] ppos) env x = pure x := by intro _ _; rfl) : RS c (.For (.Tuple elts kk tpos) (.Call (.Name "zip" p) [e, e2] [] ppos) body [] pos) ⟨nx, rt, bk, ct⟩ σ H := by
  refine s_for (ri_of (t := RZ.iZipA c.K (RA c [e, e2])) (fun X h => by rw [← h.K]; exact RZ.pi_zipA (gl_of h hg) (by rw [h.mg]; exact hm) (pa_ra h) (hs _) (hpl _)) (RA.mono (fun us H1 z => ?_) q)) hf
  obtain ⟨a, b, xs, ys, rfl, hx, hy, hl, Pv, p0, pq, step, fin⟩ := z
  exact ⟨a, b, xs, ys, rfl, .inr ⟨hx, hy, RZ.for_zipT (g := RG c (.Tuple elts kk tpos)) (tb := fun D => RB c body D) (D := ⟨nx, rt, bk, ct⟩) hl Pv p0 pq step fin⟩⟩
def rNum : List PyData → PyData → Prop := fun ds d => ∃ (rs : List Row) (rest : List PyData) (n : Nat), ds = [.tuple (cellsD rs :: rest), stD (Dg (rg rs) n)] ∧ Small rs ∧ n < many (rg rs) ∧ d = .int n
theorem ok_num {f fd} (F : Fun M.K "state_number" "state_number" s_state_number f fd) (b : Bl M) (hz : M.mg "zip" = none) (dr : dcRngs M) : FnG M.prog M.w M.K M.mg M.base CX0 3 f fd ["program", "state"] (spF rNum M.K) := by
  refine fn_ok F sc_state_number (fun vs H Q E h => ?_) (fun H vs Q E h => ?_)
  · obtain ⟨ds, d, h, ⟨rs, rest, n, rfl, _⟩, _⟩ := h
    exact h.len
  obtain ⟨ds, d, h, ⟨rs, rest, n, rfl, sm, hn, rfl⟩, k⟩ := h
  obtain _ | ⟨hp, h⟩ := h
  obtain _ | ⟨hst, h⟩ := h
  cases h
  rename_i vp vs
  refine b_cons (s_set (by tm_at "at") (e_int ?_))
  refine b_cons (s_forZ hz ?_)
  refine a_cons ?_
  refine e_callF dr ?_
  tm_at "go"
  refine rx_tup hp (d := cellsD rs) (pl_at (j := 0) rfl rfl) fun vc hc => ?_
  refine a_nil ?_
  refine ⟨_, _, .cons hc .nil, ⟨rs, rfl, Nat.le_trans sm.tot (by decide), rfl⟩, fun v1 H1 s1 h1 => ?_⟩
  rw [rngs_eq] at h1
  refine a_cons (e_var (by tm_at "at") (a_nil ?_))
  have hst1 := hst.mono (tp_same s1)
  obtain ⟨a, xs, rfl, ht, hd⟩ := h1.tupE
  obtain ⟨a2, ys, rfl, ht2, hd2⟩ := hst1.tupE
  have hl := hd.len
  rw [List.length_map] at hl
  have hl2 := hd2.len
  rw [List.length_map, Dg_length] at hl2
  have hsp : ∀ p ∈ rg rs, 1 ≤ span p := fun p hp => (sm.sp p hp).1
  have hsp2 := fun p hp => (sm.sp p hp).2
  have mm := sm.many
  generalize rg rs = ps at *
  refine ⟨a, a2, xs, ys, rfl, ht, ht2, by omega, fun i σ1 H' => Same H1 H' ∧ ∃ v3 v4 v5, σ1 = [some vp, some (.ref a2), some (.int ((n / many (ps.drop i) : Nat) : Int)), v3, v4, v5], ?_, ?_, ?_, ?_⟩
  · refine ⟨Same.refl _, none, none, none, ?_⟩
    rw [List.drop_zero, Nat.div_eq_of_lt hn]
    rfl
  · rintro i σ' H' ⟨s, _⟩
    exact ⟨(tp_same s).sqt ht, (tp_same s).sqt ht2⟩
  · rintro i x y T σ' H2 hx hy ⟨s2, v3, v4, v5, rfl⟩ hT
    obtain ⟨d, hdi, hx'⟩ := hd.getV hx
    rw [List.getElem?_map] at hdi
    obtain ⟨p, hq, rfl⟩ := Option.map_eq_some_iff.mp hdi
    obtain ⟨d2, hdi2, hy'⟩ := hd2.getV hy
    rw [List.getElem?_map, Dg_get ps n i p hq] at hdi2
    cases hdi2
    cases hy'
    have spn := hsp p (List.mem_of_getElem? hq)
    have md := many_drop1 hq
    have m1 : 1 ≤ many (ps.drop (i + 1)) := (many_drop hsp (i + 1)).2
    have sT := same_new (o := .tup [x, .int (p.1 + (((n / many (ps.drop (i + 1))) % span p : Nat) : Int))]) hT
    have es : p.2 - p.1 + 1 = ((span p : Nat) : Int) := by unfold span at spn ⊢; omega
    have eq : n / many (ps.drop i) * span p + n / many (ps.drop (i + 1)) % span p = n / many (ps.drop (i + 1)) := by
      rw [md, Nat.mul_comm (span p), ← Nat.div_div_eq_div_mul, Nat.mul_comm]
      exact Nat.div_add_mod _ _
    have n1 : n / many (ps.drop i) ≤ n := Nat.div_le_self _ _
    have n2 := hsp2 p (List.mem_of_getElem? hq)
    refine g_tup (.of upd_same) (gs_cons (g_unp2 (by tm_at "at") (by tm_at "at") ((hx'.mono (tp_same s2)).mono (tp_same sT)) fun va vb ha hb => ?_))
    cases ha
    cases hb
    refine gs_cons (g_name (by tm_at "at") (gs_nil ?_))
    tm_at "go"
    rw [es]
    refine ro_mul (.inl ⟨?_, ?_⟩) ?_
    · exact Int.lt_of_lt_of_le (by decide) (Int.natCast_nonneg _)
    · exact Int.lt_of_le_of_lt (Int.ofNat_le.mpr (Nat.le_trans n1 (Nat.le_trans (Nat.le_of_lt hn) mm))) (by decide)
    tm_at "go"
    refine ⟨s2.trans sT, some (.int p.1), some (.int p.2), some (.int (p.1 + (((n / many (ps.drop (i + 1))) % span p : Nat) : Int))), ?_⟩
    have e2 : ((n / many (ps.drop i) : Nat) : Int) * ((span p : Nat) : Int) + (p.1 + (((n / many (ps.drop (i + 1))) % span p : Nat) : Int)) - p.1 = ((n / many (ps.drop (i + 1)) : Nat) : Int) := by
      have : ((n / many (ps.drop i) * span p + n / many (ps.drop (i + 1)) % span p : Nat) : Int) = ((n / many (ps.drop (i + 1)) : Nat) : Int) := by rw [eq]
      rw [Int.natCast_add, Int.natCast_mul] at this
      omega
    rw [← e2]
    rfl
  · rintro σ' H2 ⟨s2, v3, v4, v5, rfl⟩
    rw [List.drop_of_length_le (by omega), many_nil, Nat.div_one]
    tm_at "go"
    exact k _ _ (s1.trans s2) (.int _)
end K

namespace K
open PySem L2 G
/-! ### states and starts, as lists -/
def runs (p : Rng) : List Int := (List.range (span p)).map fun t : Nat => p.1 + (t : Int)
def tails : List Rng → List St1
  | [] => [[]]
  | p :: ps => (runs p).flatMap fun v => (tails ps).map (v :: ·)
theorem widen_runs (acc : List St1) (p : Rng) : widen acc p = acc.flatMap fun o => (runs p).map fun v => o ++ [v] := by
  unfold widen runs
  simp only [List.map_map]
  rfl
theorem fold_tails : ∀ (ps : List Rng) (acc : List St1), ps.foldl widen acc = acc.flatMap fun o => (tails ps).map fun t => o ++ t
  | [], acc => by
    show acc = acc.flatMap fun o => [o ++ []]
    induction acc with
    | nil => rfl
    | cons a acc ih => rw [List.flatMap_cons, List.append_nil, ← ih]; rfl
  | p :: ps, acc => by
    rw [List.foldl_cons, fold_tails ps, widen_runs, List.flatMap_assoc]
    congr 1
    funext o
    rw [tails, List.flatMap_map, List.map_flatMap]
    congr 1
    funext v
    rw [List.map_map]
    congr 1
    funext t
    show (o ++ [v]) ++ t = o ++ v :: t
    rw [List.append_assoc]
    rfl
theorem states_tails (ps : List Rng) : statesOf ps = tails ps := by
  unfold statesOf
  rw [fold_tails, List.flatMap_cons, List.flatMap_nil, List.append_nil]
  have : (fun t : St1 => ([] : St1) ++ t) = id := rfl
  rw [this, List.map_id]
def inRg : List Rng → St1 → Bool
  | [], [] => true
  | p :: ps, v :: o => decide (p.1 ≤ v ∧ v ≤ p.2) && inRg ps o
  | _, _ => false
theorem runs_mem {p : Rng} {v : Int} : v ∈ runs p ↔ p.1 ≤ v ∧ v ≤ p.2 := by
  unfold runs span
  rw [List.mem_map]
  constructor
  · rintro ⟨t, ht, rfl⟩
    have := List.mem_range.mp ht
    omega
  · rintro ⟨h1, h2⟩
    exact ⟨(v - p.1).toNat, List.mem_range.mpr (by omega), by omega⟩
theorem tails_mem : ∀ {ps : List Rng} {o : St1}, o ∈ tails ps ↔ inRg ps o = true
  | [], [] => by simp [tails, inRg]
  | [], v :: o => by simp [tails, inRg]
  | p :: ps, [] => by simp [tails, inRg]
  | p :: ps, v :: o => by
    rw [tails, List.mem_flatMap, inRg, Bool.and_eq_true, decide_eq_true_eq, ← runs_mem, ← tails_mem]
    constructor
    · rintro ⟨u, hu, h⟩
      obtain ⟨t, ht, e⟩ := List.mem_map.mp h
      cases e
      exact ⟨hu, ht⟩
    · rintro ⟨h1, h2⟩
      exact ⟨v, h1, List.mem_map.mpr ⟨o, h2, rfl⟩⟩
theorem sts_iff {ps : List Rng} {o : St1} : o ∈ statesOf ps ↔ inRg ps o = true := by rw [states_tails, tails_mem]
theorem runs_pw (p : Rng) : (runs p).Pairwise (· < ·) := by
  unfold runs
  rw [List.pairwise_map]
  refine List.Pairwise.imp ?_ List.pairwise_lt_range
  intro a b h
  omega
theorem runs_nar {p q : Rng} (h1 : p.1 ≤ q.1) (h2 : q.2 ≤ p.2) : (runs p).filter (fun v => decide (q.1 ≤ v ∧ v ≤ q.2)) = runs q := by
  refine srt_uniq ((runs_pw p).filter _) (runs_pw q) fun k => ?_
  rw [List.mem_filter, runs_mem, runs_mem, decide_eq_true_eq]
  omega
inductive Nar : List Rng → List Rng → Prop
  | nil : Nar [] []
  | cons {p q : Rng} {ps qs : List Rng} : (p.1 ≤ q.1 ∧ q.2 ≤ p.2) → Nar ps qs → Nar (p :: ps) (q :: qs)
theorem tails_nar {ps qs : List Rng} (h : Nar ps qs) : (tails ps).filter (inRg qs) = tails qs := by
  induction h with
  | nil => rfl
  | @cons p q ps qs h _ ih =>
    rw [tails, tails, ← runs_nar h.1 h.2, ← ih, List.filter_flatMap]
    induction runs p with
    | nil => rfl
    | cons v l ihl =>
      rw [List.flatMap_cons, ihl, List.filter_cons]
      have e : ((tails ps).map (v :: ·)).filter (inRg (q :: qs)) = if decide (q.1 ≤ v ∧ v ≤ q.2) = true then ((tails ps).filter (inRg qs)).map (v :: ·) else [] := by
        rw [List.filter_map]
        have e2 : (inRg (q :: qs) ∘ fun x => v :: x) = fun o => decide (q.1 ≤ v ∧ v ≤ q.2) && inRg qs o := rfl
        rw [e2]
        by_cases hc : decide (q.1 ≤ v ∧ v ≤ q.2) = true
        · rw [if_pos hc]
          simp only [hc, Bool.true_and]
        · rw [if_neg hc]
          have : decide (q.1 ≤ v ∧ v ≤ q.2) = false := by simpa using hc
          simp only [this, Bool.false_and]
          simp
      rw [e]
      by_cases hc : decide (q.1 ≤ v ∧ v ≤ q.2) = true
      · rw [if_pos hc, if_pos hc, List.flatMap_cons]
      · rw [if_neg hc, if_neg hc, List.nil_append]
theorem sts_nar {ps qs : List Rng} (h : Nar ps qs) : statesOf qs = (statesOf ps).filter (inRg qs) := by rw [states_tails, states_tails, tails_nar h]
theorem inRg_iff : ∀ {ps : List Rng} {o : St1}, inRg ps o = true ↔ o.length = ps.length ∧ ∀ (i : Nat) (p : Rng) (v : Int), ps[i]? = some p → o[i]? = some v → p.1 ≤ v ∧ v ≤ p.2
  | [], [] => by simp [inRg]
  | [], v :: o => by simp [inRg]
  | p :: ps, [] => by simp [inRg]
  | p :: ps, v :: o => by
    rw [inRg, Bool.and_eq_true, decide_eq_true_eq, inRg_iff]
    constructor
    · rintro ⟨h1, h2, h3⟩
      refine ⟨congrArg Nat.succ h2, fun i q u hq hu => ?_⟩
      cases i with
      | zero => cases hq; cases hu; exact h1
      | succ i => exact h3 i q u (by simpa using hq) (by simpa using hu)
    · rintro ⟨h2, h3⟩
      exact ⟨h3 0 p v rfl rfl, by simpa using h2, fun i q u hq hu => h3 (i + 1) q u (by simpa using hq) (by simpa using hu)⟩
/-! the rows by their places -/
def px (rs : List Row) : List Row := rs.flatMap fun r => List.replicate (width r) r
def fxR (r : Row) : Rng := if r.2.2.2.2.1 = true then (r.2.2.1, r.2.2.2.1) else (r.2.2.2.2.2.2, r.2.2.2.2.2.2)
def fx (rs : List Row) : List Rng := (px rs).map fxR
theorem px_rg (rs : List Row) : rg rs = (px rs).map fun r => (r.2.2.1, r.2.2.2.1) := by
  unfold rg px
  rw [List.map_flatMap]
  simp only [List.map_replicate]
theorem px_len (rs : List Row) : (px rs).length = total rs := by rw [← rg_len, px_rg, List.length_map]
theorem px_mem {rs : List Row} {r : Row} (h : r ∈ px rs) : r ∈ rs := by
  obtain ⟨q, hq, h⟩ := List.mem_flatMap.mp h
  rw [(List.mem_replicate.mp h).2]
  exact hq
def IniOk (rs : List Row) : Prop := ∀ r ∈ rs, r.2.2.1 ≤ r.2.2.2.2.2.2 ∧ r.2.2.2.2.2.2 ≤ r.2.2.2.1
theorem fx_nar {rs : List Row} (h : IniOk rs) : Nar (rg rs) (fx rs) := by
  rw [px_rg, fx]
  have : ∀ l : List Row, (∀ r ∈ l, r ∈ rs) → Nar (l.map fun r => (r.2.2.1, r.2.2.2.1)) (l.map fxR) := by
    intro l
    induction l with
    | nil => intro _; exact .nil
    | cons r l ih =>
      intro hl
      refine .cons ?_ (ih fun q hq => hl q (List.mem_cons_of_mem _ hq))
      have := h r (hl r (List.mem_cons_self ..))
      unfold fxR
      split
      · exact ⟨Int.le_refl _, Int.le_refl _⟩
      · exact this
  exact this _ fun r hr => px_mem hr
/-- what is asked of a place of a start -/
def okP (r : Row) (v : Int) : Prop := r.2.2.2.2.1 = true ∨ v = r.2.2.2.2.2.2
theorem fx_iff {rs : List Row} {st : St1} (h : st ∈ statesOf (rg rs)) : inRg (fx rs) st = true ↔ ∀ (i : Nat) (r : Row) (v : Int), (px rs)[i]? = some r → st[i]? = some v → okP r v := by
  have h := inRg_iff.mp (sts_iff.mp h)
  rw [px_rg, List.length_map] at h
  rw [inRg_iff, fx, List.length_map]
  constructor
  · rintro ⟨_, h2⟩ i r v hr hv
    have := h2 i (fxR r) v (by rw [List.getElem?_map, hr]; rfl) hv
    unfold fxR at this
    by_cases hi : r.2.2.2.2.1 = true
    · exact .inl hi
    · rw [if_neg hi] at this
      exact .inr (by omega)
  · intro h2
    refine ⟨h.1, fun i p v hp hv => ?_⟩
    rw [List.getElem?_map] at hp
    obtain ⟨r, hr, rfl⟩ := Option.map_eq_some_iff.mp hp
    have h3 := h.2 i _ v (by rw [List.getElem?_map, hr]; rfl) hv
    unfold fxR
    split
    · exact h3
    · rename_i hi
      have := (h2 i r v hr hv).resolve_left hi
      dsimp only
      omega
/-- the starts -/
def good (rs : List Row) (g : Ex) (st : St1) : Bool := inRg (fx rs) st && decide ((ev rs st g).1 ≠ some 0)
def startsOf (rs : List Row) (g : Ex) : List St1 := (statesOf (rg rs)).filter (good rs g)
theorem starts_fx {rs : List Row} {g : Ex} (h : IniOk rs) : startsOf rs g = (statesOf (fx rs)).filter fun st => decide ((ev rs st g).1 ≠ some 0) := by
  unfold startsOf good
  rw [sts_nar (fx_nar h), List.filter_filter]
  congr 1
  funext st
  rw [Bool.and_comm]
theorem span_fx {rs : List Row} (sm : Small rs) (h : IniOk rs) : ∀ p ∈ fx rs, 1 ≤ span p ∧ -10 ≤ p.1 ∧ p.2 ≤ 10 := by
  intro p hp
  obtain ⟨r, hr, rfl⟩ := List.mem_map.mp hp
  have h1 := sm.sp (r.2.2.1, r.2.2.2.1) (by rw [px_rg]; exact List.mem_map.mpr ⟨r, hr, rfl⟩)
  have h2 := h r (px_mem hr)
  unfold span at h1
  unfold fxR span
  split <;> simp only at * <;> omega
theorem many_fx {rs : List Row} (sm : Small rs) (h : IniOk rs) : many (fx rs) ≤ 256 := by
  rw [← states_len, sts_nar (fx_nar h)]
  exact Nat.le_trans (List.length_filter_le _ _) (by rw [states_len]; exact sm.many)
theorem fx_len (rs : List Row) : (fx rs).length = total rs := by rw [fx, List.length_map, px_len]
theorem fx_snoc {rs : List Row} {i : Nat} {r : Row} (h : rs[i]? = some r) : fx (rs.take (i + 1)) = fx (rs.take i) ++ List.replicate (width r) (fxR r) := by
  obtain ⟨h1, rfl⟩ := List.getElem?_eq_some_iff.mp h
  rw [List.take_succ_eq_append_getElem h1, fx, px, List.flatMap_append, List.map_append]
  congr 1
  simp
theorem stok_of {rs : List Row} (A : RowsAll rs) {st : St1} (h : st ∈ statesOf (rg rs)) : StOk rs st := by
  have h2 := inRg_iff.mp (sts_iff.mp h)
  have hl : st.length = total rs := by rw [h2.1, rg_len]
  refine ⟨hl, fun v hv => ?_, A.sm.tot, A.nd, A.ri, fun i r hr => ?_⟩
  · obtain ⟨i, hi⟩ := List.mem_iff_getElem?.mp hv
    have il := (List.getElem?_eq_some_iff.mp hi).1
    have ip : i < (rg rs).length := by rw [rg_len]; omega
    have h3 := h2.2 i _ v (List.getElem?_eq_getElem ip) hi
    have h4 := A.sm.sp _ (List.getElem_mem ip)
    omega
  · have il := (List.getElem?_eq_some_iff.mp hr).1
    have ip : i < st.length := by rw [h2.1]; exact il
    have h3 := h2.2 i r _ hr (List.getElem?_eq_getElem ip)
    have e : gt st (i : Int) = st[i] := by
      unfold gt
      simp [ip]
    rw [e]
    exact h3
theorem start_in {rs : List Row} {g : Ex} {st : St1} (h : st ∈ startsOf rs g) : st ∈ statesOf (rg rs) := (List.mem_filter.mp h).1
end K

namespace G
open PySem PySem.Spec PyProof.Rows L2
/-! ### generator defs that only hand out what they walk -/
/-- a generator def at the module's name x -/
structure DcG (c : Md) (x : Str) (ps : List Str) (k : Nat) (sp : SpG) : Prop where
  ex : ∃ (f : Addr) (fd : FuncData), GFn c.prog c.w c.K c.mg c.base k f fd ps sp ∧ c.mg x = some (.ref f) ∧ PySem.W.keepIn c.K (.ref f) = true ∧ Binds c.K fd ps []
section
variable {c : Cd} {σ : L2.St} {H : Hp} {Q : VK} {pos : Pos}
/-- list(f(e, ..)) of a generator def -/
theorem e_listG {x : Str} {p p1 p2 : Pos} {e : Expr} {es : List Expr} {ps : List Str} {k : Nat} {sp : SpG} (D : DcG c.toMd x ps k sp) (hm0 : c.mg "list" = none) (q : RA c (e :: es) σ H fun vs H1 => sp vs H1 (fun out H2 => ∀ p, H2 p = none → Q (.ref p) (upd H2 p (.lst out))) fun _ _ _ => False) (hk : k + 3 ≤ c.k := by exact Nat.le_of_ble_eq_true rfl) (hg : c.sc.names.lookup x = some .globalImplicit := by rfl) (hg2 : c.sc.names.lookup ("list" : Str) = some .globalImplicit := by rfl)
    (hdb : (x == ("__debug__" : Str)) = false := by decide) (he : ∀ env, starEach (e :: es) env = (false, eval e env) :: starEach es env := by intro _; rfl) (hpl : ∀ env, (backTo p2 (starEach es env)).any (·.1) = false := by intro _; rfl) (h1 : ∀ env, starEach [.Call (.Name x p1) (e :: es) [] p2] env = (false, eval (.Call (.Name x p1) (e :: es) [] p2) env) :: starEach [] env := by intro _; rfl) :
    RE c (.Call (.Name "list" p) [.Call (.Name x p1) (e :: es) [] p2] [] pos) σ H Q := by
  obtain ⟨f, fd, F, hm, hkp, hb⟩ := D.ex
  refine re_of (t := tListG (tCallG sp [] (fun _ _ _ => False) (RA c (e :: es)))) (fun X h => ?_) (RA.mono (fun vs H1 z => ?_) q)
  · refine pe_listG (k := k) (E := fun _ _ _ => False) (pgen_call (f := f) (fd := fd) (ps := ps) (ds := []) ?_ (h.room.mono (Nat.le_trans (Nat.le_add_right _ _) hk)) (gl_of h hg) (by rw [h.mg]; exact hm) (by rw [h.K]; exact hkp) (by rw [h.K]; exact hb) .nil (pa_ra h) hdb (he _) (hpl _)) (fun _ _ _ _ _ _ _ z => by obtain ⟨_, _, _, _, _, _, _, _, _, _, _, _, hf⟩ := z; exact hf.elim) (fun _ _ _ z => z.elim) (h.room.mono hk) (gl_of h hg2) (by rw [h.mg]; exact hm0) (by decide +kernel) (by decide) (by decide) (h1 _)
    rw [h.prog, h.w, h.K, h.mg, h.base]; exact F
  · rw [List.append_nil]
    exact z
end
theorem is_gcx {M : Md} {N : List Str} {qual : Str} {sc : Scope} {f : Addr} {cdv : Value} {A : Around} {outer : List Env} {s : Shared} {H : Hp} {E : XK} {pn : List (Addr × Obj)} {k : Nat} (hn : N.Nodup) (hr : Room k (A.deeper (envOfC qual sc s.heap.objs.size f cdv))) :
    Is ⟨M, N, sc, k, true, false, none⟩ (gcxOf M.prog M.w M.K M.mg M.base N qual sc f cdv A outer s H E pn) :=
  ⟨rfl, rfl, rfl, rfl, rfl, rfl, rfl, rfl, hr, fun _ _ => rfl, owns_gcx, hn, fun z => Bool.noConfusion z, fun _ _ z => nomatch z⟩
/-- a generator def whose body is «for x in e: yield x» -/
theorem gfn_walk {M : Md} {x qual : Str} {st : Stmt} {f : Addr} {fd : FuncData} {N ps : List Str} {k : Nat} {sp : SpG} {tg it e : Expr} {p1 p2 p3 : Pos} (F : Fun M.K x qual st f fd) (S : GScope N ps (defScope st)) (len : ∀ vs H Q E, sp vs H Q E → vs.length = ps.length)
    (hst : defBody st = [.For tg it [.Expr (.Yield (some e) p1) p2] [] p3]) (hs : ∀ env x, foldedSetIterable it env x = pure x) (hi : ∀ env : Env, env.scope = defScope st → interactive env = false)
    (body : ∀ (H : Hp) (vs : List V) (Q : List V → Hp → Prop) (E : XK), sp vs H Q E → RI ⟨M, N, defScope st, k, true, false, none⟩ tg it (start N vs) H fun J H1 => ∃ W : Nat → Nat → List V → L2.St → Hp → Prop, (∃ m, W 0 m [] (start N vs) H1) ∧ ∀ i m ys σ H, W i m ys σ H →
      (J.stop i H ∧ Q ys H) ∨ (J.go i H ∧ ∃ Nx : List V → L2.St → Hp → Prop, (∀ ys' σ' H', Nx ys' σ' H' → ∃ m', m' < m ∧ W (i + 1) m' ys' σ' H') ∧ ∀ x H', J.yld i H x H' → RG ⟨M, N, defScope st, k, true, false, none⟩ tg x σ H' fun σ2 H2 => ys.length < sizeLine ∧ RE ⟨M, N, defScope st, k, true, false, none⟩ e σ2 H2 fun y H3 => Nx (ys ++ [y]) σ2 H3)) :
    GFn M.prog M.w M.K M.mg M.base (k + 1) f fd ps sp := by
  obtain ⟨oc, od, kV, doc, pm, an, cdv, ct, osl, rfl, lk, hcd⟩ := F.ex
  refine gfn_of lk hcd S len fun A outer s H vs Q E pn hr h => ?_
  have hx := is_gcx (M := M) (N := N) (qual := qual) (sc := defScope st) (f := f) (cdv := cdv) (A := A) (outer := outer) (s := s) (H := H) (E := E) (pn := pn) S.nd hr
  refine ⟨_, hst ▸ gss_cons (gs_for owns_gcx rfl (pi_ri hx) (pg_rg hx) (gss_cons (gs_yield (pe_re hx) S.co (hi _ rfl)) gss_nil) (hs _)) gss_nil, ?_⟩
  refine RI.mono (fun J H1 z => ?_) (body H vs Q E h)
  obtain ⟨W, w0, tn⟩ := z
  exact ⟨W, w0, tn⟩
end G

namespace K
open PySem PySem.Spec PyProof.Rows L2 G
/-! ### data whose text and depth are bounded -/
mutual
def wt : PyData → Nat
  | .none => 13
  | .bool _ => 13
  | .int i => i.natAbs.log2 + 13
  | .str s => 10 * s.length + 13
  | .list ds => wts ds + 13
  | .tuple ds => wts ds + 13
  | .dict _ => 0
def wts : List PyData → Nat
  | [] => 0
  | d :: ds => wt d + 4 + wts ds
end
/-- signs below 128 -/
def asc (s : Str) : Bool := s.cps.all (· < 128)
theorem asc_ok {s : Str} (h : asc s = true) : PyData.strOk s = true := by
  show s.cps.all (· < 0x110000) = true
  unfold asc at h
  rw [← Array.all_toList, List.all_eq_true] at h ⊢
  intro c hc
  have := of_decide_eq_true (h c hc)
  exact decide_eq_true (by omega)
mutual
def gd (L : Nat) : PyData → Bool
  | .none => true
  | .bool _ => true
  | .int i => decide (i.natAbs.log2 < L)
  | .str s => asc s
  | .list ds => gds L ds
  | .tuple ds => gds L ds
  | .dict _ => false
def gds (L : Nat) : List PyData → Bool
  | [] => true
  | d :: ds => gd L d && gds L ds
end
theorem wts_app : ∀ ds es : List PyData, wts (ds ++ es) = wts ds + wts es
  | [], es => by simp [wts]
  | d :: ds, es => by simp only [List.cons_append, wts, wts_app ds es]; omega
theorem gds_all {L : Nat} {ds : List PyData} : gds L ds = true ↔ ∀ d ∈ ds, gd L d = true := by
  induction ds with
  | nil => simp [gds]
  | cons d ds ih => simp [gds, ih]
theorem wts_mem : ∀ {ds : List PyData} {d : PyData}, d ∈ ds → wt d + 4 ≤ wts ds
  | e :: ds, d, h => by
    simp only [wts]
    rcases List.mem_cons.mp h with h | h
    · subst h; omega
    · have := wts_mem h; omega
theorem wts_len : ∀ ds : List PyData, 4 * ds.length ≤ wts ds
  | [] => by simp [wts]
  | d :: ds => by have := wts_len ds; simp only [wts, List.length_cons]; omega
theorem int_len {i : Int} (h : i.natAbs.log2 < 1900) : (PyData.shown (.int i)).length ≤ i.natAbs.log2 + 13 := by
  simp only [PyData.shown]
  have h1 := int_text_length_le (a := i) (k := i.natAbs.log2 + 1) (Nat.succ_pos _) (Nat.lt_succ_self _)
  show (Str.ofString (toString i)).length ≤ _
  rw [PySem.ofString_length]
  omega
theorem strOk_small {s : Str} (h : PyData.strOk s = true) : ∀ c ∈ s.cps.toList, c < 16 ^ 8 := by
  intro c hc
  have h1 : s.cps.all (· < 0x110000) = true := h
  rw [← Array.all_toList, List.all_eq_true] at h1
  have := of_decide_eq_true (h1 c hc)
  omega
mutual
theorem shown_wt {L : Nat} (hL : L ≤ 1900) : ∀ d : PyData, gd L d = true → d.shown.length ≤ wt d ∧ d.showable = true ∧ d.hasDict = false ∧ d.canLay0 = true
  | .none, _ => by simp only [PyData.shown, PyData.showable, PyData.hasDict, PyData.canLay0, wt]; decide
  | .bool b, _ => by simp only [PyData.shown, PyData.showable, PyData.hasDict, PyData.canLay0, wt]; cases b <;> decide
  | .int i, h => by
    have h1 : i.natAbs.log2 < L := by simpa [gd] using h
    refine ⟨by rw [wt]; exact int_len (by omega), ?_, by simp only [PyData.hasDict], by simp only [PyData.canLay0]⟩
    simp only [PyData.showable, decide_eq_true_eq]
    omega
  | .str s, h => by
    have h1 : PyData.strOk s = true := asc_ok (by simpa [gd] using h)
    refine ⟨?_, by simp only [PyData.showable], by simp only [PyData.hasDict], by simp only [PyData.canLay0]; exact h1⟩
    simp only [PyData.shown, wt]
    have := StrLaws.reprText_len s (strOk_small h1)
    omega
  | .list ds, h => by
    have h1 : gds L ds = true := by simpa [gd] using h
    obtain ⟨a1, a2, a3, a4, a5⟩ := shown_wts hL ds h1
    refine ⟨?_, by simp only [PyData.showable]; exact a2, by simp only [PyData.hasDict]; exact a3, by simp only [PyData.canLay0]; exact a4⟩
    simp only [PyData.shown, wt]
    have := listText_len_le (PyData.shownAll ds)
    rw [a5] at this
    omega
  | .tuple ds, h => by
    have h1 : gds L ds = true := by simpa [gd] using h
    obtain ⟨a1, a2, a3, a4, a5⟩ := shown_wts hL ds h1
    refine ⟨?_, by simp only [PyData.showable]; exact a2, by simp only [PyData.hasDict]; exact a3, by simp only [PyData.canLay0]; exact a4⟩
    simp only [PyData.shown, wt]
    have := tupleText_len_le (PyData.shownAll ds)
    rw [a5] at this
    omega
  | .dict _, h => by simp [gd] at h
theorem shown_wts {L : Nat} (hL : L ≤ 1900) : ∀ ds : List PyData, gds L ds = true → ((PyData.shownAll ds).map (·.length)).sum + 4 * ds.length ≤ wts ds ∧ PyData.showableAll ds = true ∧ PyData.hasDictAll ds = false ∧ PyData.canLayAll0 ds = true ∧ (PyData.shownAll ds).length = ds.length
  | [], _ => by simp only [PyData.shownAll, PyData.showableAll, PyData.hasDictAll, PyData.canLayAll0, wts]; simp
  | d :: ds, h => by
    have h1 : gd L d = true ∧ gds L ds = true := by simpa [gds] using h
    obtain ⟨b1, b2, b3, b4⟩ := shown_wt hL d h1.1
    obtain ⟨a1, a2, a3, a4, a5⟩ := shown_wts hL ds h1.2
    simp only [PyData.shownAll, PyData.showableAll, PyData.hasDictAll, PyData.canLayAll0, wts, b2, b3, b4, a2, a3, a4, a5, List.map_cons, List.sum_cons, List.length_cons, Bool.and_self, Bool.or_self, and_true]
    omega
end
structure GdL (L m n : Nat) (d : PyData) : Prop where
  g : gd L d = true
  dep : d.depth ≤ m
  wt : wt d ≤ n
theorem GdL.up {L m n m' n' : Nat} {d : PyData} (h : GdL L m n d) (h1 : m ≤ m') (h2 : n ≤ n') : GdL L m' n' d := ⟨h.g, Nat.le_trans h.dep h1, Nat.le_trans h.wt h2⟩
theorem GdL.shw {L m n : Nat} {d : PyData} (h : GdL L m n d) (hL : L ≤ 1900) (hm : m ≤ 60) (hn : n ≤ 1000000) : Shw 60 1000000 d := by
  obtain ⟨a1, a2, a3, _⟩ := shown_wt hL d h.g
  exact ⟨a2, Nat.le_trans a1 (Nat.le_trans h.wt hn), Nat.le_trans h.dep hm, a3⟩
theorem GdL.shp {L m n : Nat} {d : PyData} (h : GdL L m n d) (hL : L ≤ 1900 := by exact Nat.le_of_ble_eq_true rfl) : Shp m d := ⟨(shown_wt hL d h.g).2.2.2, h.dep⟩
theorem GdL.shaped {L m n : Nat} {d : PyData} (h : GdL L m n d) (hm : m ≤ 60) (hL : L ≤ 1900 := by exact Nat.le_of_ble_eq_true rfl) : SeqAt.shaped d = true := (h.shp hL).ok (by omega)
theorem depthAll_le {m : Nat} {ds : List PyData} : PyData.depthAll ds ≤ m ↔ ∀ d ∈ ds, d.depth ≤ m := by
  induction ds with
  | nil => simp [PyData.depthAll]
  | cons d ds ih => simp only [PyData.depthAll, List.mem_cons, forall_eq_or_imp, ← ih]; omega
theorem gd_tup {L m n : Nat} {ds : List PyData} : GdL L (m + 1) (n + 13) (.tuple ds) ↔ (∀ d ∈ ds, gd L d = true) ∧ (∀ d ∈ ds, d.depth ≤ m) ∧ wts ds ≤ n := by
  rw [← gds_all, ← depthAll_le]
  constructor
  · rintro ⟨h1, h2, h3⟩
    simp only [gd, PyData.depth, wt] at h1 h2 h3
    exact ⟨h1, by omega, by omega⟩
  · rintro ⟨h1, h2, h3⟩
    exact ⟨by simpa only [gd] using h1, by simp only [PyData.depth]; omega, by simp only [wt]; omega⟩
abbrev Gd (m n : Nat) (d : PyData) : Prop := GdL 1000 m n d
theorem gd_mono {L L' : Nat} (hL : L ≤ L') : ∀ d : PyData, gd L d = true → gd L' d = true
  | .none, _ => by simp only [gd]
  | .bool _, _ => by simp only [gd]
  | .int i, h => by simp only [gd, decide_eq_true_eq] at h ⊢; omega
  | .str s, h => by simpa only [gd] using h
  | .list ds, h => by
    simp only [gd] at h ⊢
    exact gds_all.mpr fun d hd => gd_mono hL d (gds_all.mp h d hd)
  | .tuple ds, h => by
    simp only [gd] at h ⊢
    exact gds_all.mpr fun d hd => gd_mono hL d (gds_all.mp h d hd)
  | .dict _, h => by simp [gd] at h
theorem GdL.lup {L L' m n : Nat} {d : PyData} (h : GdL L m n d) (hL : L ≤ L') : GdL L' m n d := ⟨gd_mono hL d h.g, h.dep, h.wt⟩
end K

namespace K
open PySem PySem.Spec PyProof.Rows L2 G
variable {M : Md}
/-! ### kinds of data -/
def tyN : PyData → String
  | .none => "NoneType" | .bool _ => "bool" | .int _ => "int" | .str _ => "str" | .list _ => "list" | .tuple _ => "tuple" | .dict _ => "dict"
def isTup : PyData → Bool
  | .tuple _ => true | _ => false
def isStr : PyData → Bool
  | .str _ => true | _ => false
def isBool : PyData → Bool
  | .bool _ => true | _ => false
def isIntB : PyData → Bool
  | .int _ => true | .bool _ => true | _ => false
theorem dt_ty {K : PySem.W.Frag} {H : Hp} {v : V} {d : PyData} (h : Dt K H v d) : TyX K H v (.type (tyN d)) := by
  cases h with
  | non => exact .base .non
  | bl b => exact .base (.bl b)
  | int i => exact .base (.int i)
  | str s => exact .base (.str s)
  | tup h1 _ => exact ty_tup h1
  | lst h1 _ => exact .base (.frz h1)
theorem dt_nodict {K : PySem.W.Frag} {H : Hp} {v : V} {k : List (PyData × PyData)} (h : Dt K H v (.dict k)) : False := by cases h
section
variable {c : Cd} {H : Hp} {Q : VK} {v : V} {d : PyData}
theorem rc_isTup (h : Dt c.K H v d) (q : Q (.bl (isTup d)) H) : RC c (.builtin "isinstance") [v, .ty "tuple"] H Q := by
  have t := dt_ty h
  cases d with
  | dict => exact (dt_nodict h).elim
  | _ => exact rc_isi t rfl q
theorem rc_isStr (h : Dt c.K H v d) (q : Q (.bl (isStr d)) H) : RC c (.builtin "isinstance") [v, .ty "str"] H Q := by
  have t := dt_ty h
  cases d with
  | dict => exact (dt_nodict h).elim
  | _ => exact rc_isi t rfl q
theorem rc_isBool (h : Dt c.K H v d) (q : Q (.bl (isBool d)) H) : RC c (.builtin "isinstance") [v, .ty "bool"] H Q := by
  have t := dt_ty h
  cases d with
  | dict => exact (dt_nodict h).elim
  | _ => exact rc_isi t rfl q
theorem rc_isInt (h : Dt c.K H v d) (q : Q (.bl (isIntB d)) H) : RC c (.builtin "isinstance") [v, .ty "int"] H Q := by
  have t := dt_ty h
  cases d with
  | dict => exact (dt_nodict h).elim
  | _ => exact rc_isi t rfl q
end
structure Bl2 (M : Md) : Prop where
  all : M.mg "all" = none
  repr : M.mg "repr" = none
def letters : Str := "abcdefghijklmnopqrstuvwxyz"
/-- the module's values -/
structure Gl46 (M : Md) : Prop where
  lt : ∃ u, M.mg "LETTERS" = some u ∧ RelV (.str letters) u
  ln : ∃ u, M.mg "LONGEST_NAME" = some u ∧ RelV (.int 8) u
  un : ∃ a, M.mg "UNARY" = some (.ref a) ∧ ∀ H, SqT M.K H a (uns.map V.str)
  bi : ∃ a, M.mg "BINARY" = some (.ref a) ∧ ∀ H, SqT M.K H a (bins.map V.str)
  dv : ∃ a, M.mg "DIVIDING" = some (.ref a) ∧ ∀ H, SqT M.K H a (kks.map V.str)
def isInt : PyData → Bool
  | .int _ => true | _ => false
def isNum : PyData → Bool
  | .int i => decide (0 ≤ i) | _ => false
def isSlot : PyData → Bool
  | .int i => decide (0 ≤ i) && decide (i < 32) | _ => false
def nameS (s : Str) : Bool := decide (1 ≤ s.length) && (decide (s.length ≤ 8) && s.cps.toList.all fun ch => decide (ch ∈ letters.cps.toList))
def isName : PyData → Bool
  | .str s => nameS s | _ => false
def isPlace : PyData → Bool
  | .tuple [a, b] => isName a && isNum b
  | .tuple _ => false
  | d => isName d
def isOp : PyData → Bool
  | .str s => decide (s ∈ bins) | _ => false
abbrev GdX (x : PyData) : Prop := GdL 1100 50 500000 x
def rB (p : PyData → Bool) : List PyData → PyData → Prop := fun ds d => ∃ x, ds = [x] ∧ GdX x ∧ d = .bool (p x)
abbrev dcB (M : Md) (nm : Str) (a : Str) (k : Nat) (p : PyData → Bool) : Prop := Dc M nm [a] k (spF (rB p) M.K)
theorem rB_len {p : PyData → Bool} {K : PySem.W.Frag} : ∀ vs H Q E, spF (rB p) K vs H Q E → vs.length = 1 := by
  rintro vs H Q E ⟨ds, d, h, ⟨x, rfl, _⟩, _⟩
  exact h.len
theorem ok_isint {f fd} (F : Fun M.K "is_integer" "is_integer" s_is_integer f fd) (b : Bl M) : FnG M.prog M.w M.K M.mg M.base CX0 1 f fd ["thing"] (spF (rB isInt) M.K) := by
  refine fn_ok F sc_is_integer rB_len (fun H vs Q E h => ?_)
  obtain ⟨ds, d, h, ⟨x, rfl, gx, rfl⟩, k⟩ := h
  obtain _ | ⟨hx, h⟩ := h
  cases h
  tm_at "go"
  refine rc_isInt hx ?_
  refine ⟨_, rfl, ifb (fun e => ?_) (fun e => ?_)⟩
  · tm_at "go"
    refine rc_isBool hx ?_
    refine ⟨_, rfl, ?_⟩
    have e2 : (!isBool x) = isInt x := by cases x <;> first | rfl | cases e
    rw [e2]
    exact k _ _ (Same.refl _) (.bl _)
  · have e2 : false = isInt x := by cases x <;> first | rfl | cases e
    have := k (.bl (isInt x)) H (Same.refl _) (.bl _)
    rw [← e2] at this
    exact this
theorem isNum_int {x : PyData} : isNum x = true → ∃ i : Int, x = .int i ∧ 0 ≤ i := by
  intro h
  cases x <;> first | cases h | skip
  exact ⟨_, rfl, of_decide_eq_true h⟩
/-- the signs of a text, each looked at -/
theorem all_sz {z : Str} {p : Nat → Bool} {bs : List Bool} (h : bs = z.cps.toList.map p) : bs.all id = z.cps.toList.all p := by
  subst h
  rw [List.all_map]
  rfl
section
variable {c : Cd} {σ : L2.St} {H : Hp} {Q : VK} {pos : Pos} {elt tg iter : Expr} {ifs : List Expr} {scope : Scope} {vs : List Nat}
theorem sgn_step {g : Nat → Option PyData} {l : List Nat} {i : Nat} {ch : Nat} (h : l[i]? = some ch) : (l.take i).filterMap g ++ (g ch).toList = (l.take (i + 1)).filterMap g := by
  obtain ⟨h1, rfl⟩ := List.getElem?_eq_some_iff.mp h
  rw [List.take_succ_eq_append_getElem h1, List.filterMap_append]
  congr 1
/-- a comprehension over the signs of a text that changes nothing -/
theorem lcS_F (g : Nat → Option PyData) (q : RE c iter σ H fun x H1 => ∃ z : Str, x = .str z ∧ z.cps.size ≤ 1000 ∧ (∀ ch H', Same H1 H' → TurnF (blkCd c scope) tg ifs elt vs σ c.K (.str ⟨#[ch]⟩) H' (g ch)) ∧
      ∀ p us H3, Same H1 H3 → H1 p = none → H3 p = some (.lst us) → DtAll c.K H3 us (z.cps.toList.filterMap g) → Q (.ref p) H3) :
    tLc (RI c tg iter) (RG (blkCd c scope) tg) (RTs (blkCd c scope) ifs) (RE (blkCd c scope) elt) vs σ H Q := by
  refine ri_of (t := iStr (RE c iter)) (fun X h => pi_str (pe_re h)) (RE.mono (fun x H1 z => ?_) q)
  obtain ⟨z, rfl, hl, tn, k⟩ := z
  refine ⟨z, rfl, fun D hD => ?_⟩
  have hsz : z.cps.toList.length = z.cps.size := Array.length_toList
  refine ⟨fun i m H' => m = z.cps.size - i ∧ i ≤ z.cps.size ∧ ∃ acc, acc.length ≤ i ∧ H' D = some (.lst acc) ∧ Same H1 H' ∧ DtAll c.K H' acc ((z.cps.toList.take i).filterMap g), ⟨z.cps.size, by simp, Nat.zero_le _, [], Nat.le_refl _, upd_same, same_new hD, .nil⟩, ?_⟩
  rintro i m H' ⟨rfl, hi, acc, la, hA, s, hd⟩
  by_cases hlt : i < z.cps.size
  · refine .inr ⟨hlt, fun H' => ∃ acc, acc.length ≤ i + 1 ∧ H' D = some (.lst acc) ∧ Same H1 H' ∧ DtAll c.K H' acc ((z.cps.toList.take (i + 1)).filterMap g), fun H' p' => ⟨z.cps.size - (i + 1), by omega, rfl, hlt, p'⟩, fun x H2 yy => ?_⟩
    obtain ⟨e, ch, hc, rfl⟩ := yy
    subst e
    have hc' : z.cps.toList[i]? = some ch := by rw [Array.getElem?_toList]; exact hc
    have T := TurnF.one hD s hA hd (tn ch _ s)
    refine RG.mono (fun σ2 H2 z => ?_) T
    refine ⟨z.1, RTs.mono (fun b H3 z => ?_) z.2⟩
    cases b with
    | true => exact RE.mono (fun y H4 z => ⟨acc, z.1, Nat.lt_of_le_of_lt la (Nat.lt_of_lt_of_le hlt (Nat.le_trans hl (by decide))), acc ++ [y], by rw [List.length_append, List.length_singleton]; omega, z.2.1, z.2.2.1, by rw [← sgn_step hc']; exact z.2.2.2⟩) z
    | false => exact ⟨acc, by omega, z.1, z.2.1, by rw [← sgn_step hc']; exact z.2.2⟩
  · have e : i = z.cps.size := by omega
    subst e
    refine .inl ⟨Nat.le_refl _, k D acc H' s hD hA ?_⟩
    rw [List.take_of_length_le (by omega)] at hd
    exact hd
theorem rc_lenS {z : Str} (h : z.length ≤ 1000000) (q : Q (.int z.length) H) : RC c (.builtin "len") [.str z] H Q :=
  rc_of (fun X h => call_len_str) ⟨z, rfl, Nat.le_trans h (by decide), q⟩
theorem rc_all {p : Addr} {bs : List Bool} (h : SqL c.K H p (bs.map V.bl)) (q : Q (.bl (bs.all id)) H) : RC c (.builtin "all") [.ref p] H Q :=
  rc_of (r := rAll c.K) (fun X h => by rw [← h.K]; exact cr_all h.calm) ⟨p, bs, rfl, h, q⟩
end
theorem dtBools_eq {K : PySem.W.Frag} {H : Hp} : ∀ {bs : List Bool} {xs : List V}, DtAll K H xs (bs.map .bool) → xs = bs.map .bl
  | [], _, h => by cases h; rfl
  | b :: bs, _, h => by
    obtain _ | ⟨h1, h2⟩ := h
    cases h1
    rw [dtBools_eq h2]; rfl
theorem gdx_str {s : Str} (h : GdX (.str s)) : s.length ≤ 50000 := by
  have := h.wt
  simp only [wt] at this
  omega
end K

namespace K
open PySem PySem.Spec PyProof.Rows L2 G
variable {M : Md}
theorem strOk_of (s : String) : PyData.strOk (Str.ofString s) = true := by
  rw [Str.ofString_eq_toList]
  show (s.toList.map Char.toNat).toArray.all (· < 0x110000) = true
  rw [← Array.all_toList, List.all_eq_true]
  intro c hc
  obtain ⟨ch, _, rfl⟩ := List.mem_map.mp hc
  have := ch.valid
  refine decide_eq_true ?_
  rcases ch.valid with h | h
  · exact Nat.lt_trans h (by decide)
  · exact h.2
/-! ### the text of data is made of proper signs -/
def okC (l : List Nat) : Prop := ∀ c ∈ l, c < 0x110000
theorem strOk_iff {s : Str} : PyData.strOk s = true ↔ okC s.cps.toList := by
  show s.cps.all (· < 0x110000) = true ↔ _
  rw [← Array.all_toList, List.all_eq_true]
  exact ⟨fun h c hc => of_decide_eq_true (h c hc), fun h c hc => decide_eq_true (h c hc)⟩
theorem okC_app {a b : List Nat} : okC (a ++ b) ↔ okC a ∧ okC b := by
  unfold okC
  simp only [List.mem_append]
  exact ⟨fun h => ⟨fun c hc => h c (.inl hc), fun c hc => h c (.inr hc)⟩, fun h c hc => hc.elim (h.1 c) (h.2 c)⟩
theorem strOk_app {a b : Str} : PyData.strOk (a ++ b) = true ↔ PyData.strOk a = true ∧ PyData.strOk b = true := by
  rw [strOk_iff, strOk_iff, strOk_iff]
  have e : (a ++ b).cps.toList = a.cps.toList ++ b.cps.toList := by
    show (a.cps ++ b.cps).toList = _
    rw [Array.toList_append]
  rw [e, okC_app]
theorem okC_chars (l : List Char) : okC (l.map Char.toNat) := by
  intro c hc
  obtain ⟨ch, _, rfl⟩ := List.mem_map.mp hc
  rcases ch.valid with h | h
  · exact Nat.lt_trans h (by decide)
  · exact h.2
theorem okC_char {q c : Nat} (hc : c < 0x110000) : okC (Builtin.Str.reprChar q c) := by
  have hx : ∀ w : Nat, okC (List.replicate (w - ((Nat.toDigits 16 c).map Char.toNat).length) 48 ++ (Nat.toDigits 16 c).map Char.toNat) := fun w => okC_app.mpr ⟨fun d hd => by rw [(List.mem_replicate.mp hd).2]; decide, okC_chars _⟩
  unfold Builtin.Str.reprChar
  simp only
  repeat' split
  all_goals first
    | (intro d hd; simp only [List.mem_cons, List.not_mem_nil, or_false] at hd; rcases hd with rfl | rfl <;> first | decide | exact hc)
    | (intro d hd; simp only [List.mem_cons, List.not_mem_nil, or_false] at hd; subst hd; exact hc)
    | exact okC_app.mpr ⟨fun d hd => by simp only [List.mem_cons, List.not_mem_nil, or_false] at hd; rcases hd with rfl | rfl <;> decide, hx _⟩
theorem okC_fold {q : Nat} : ∀ (l : List Nat) (acc : Array Nat), okC l → okC acc.toList → okC (l.foldl (fun out c => out ++ (Builtin.Str.reprChar q c).toArray) acc).toList
  | [], acc, _, h => h
  | c :: l, acc, hl, h => by
    rw [List.foldl_cons]
    refine okC_fold l _ (fun d hd => hl d (List.mem_cons_of_mem _ hd)) ?_
    rw [Array.toList_append]
    exact okC_app.mpr ⟨h, okC_char (hl c (List.mem_cons_self ..))⟩
theorem strOk_repr {s : Str} (h : PyData.strOk s = true) : PyData.strOk (reprText s) = true := by
  rw [strOk_iff] at h ⊢
  have hq : reprQuote s < 0x110000 := by unfold reprQuote; split <;> decide
  unfold reprText
  generalize reprQuote s = q at *
  obtain ⟨⟨l⟩⟩ := s
  have e : Array.foldl (fun out c => out ++ (Builtin.Str.reprChar q c).toArray) #[q] (⟨l⟩ : Array Nat) = l.foldl (fun out c => out ++ (Builtin.Str.reprChar q c).toArray) #[q] := by simp
  show okC (Array.push (Array.foldl (fun out c => out ++ (Builtin.Str.reprChar q c).toArray) #[q] (⟨l⟩ : Array Nat)) q).toList
  have e2 : ∀ A : Array Nat, (Array.push A q).toList = A.toList ++ [q] := fun A => by simp
  rw [e2]
  refine okC_app.mpr ⟨?_, fun d hd => ?_⟩
  · rw [e]
    refine okC_fold _ _ h fun d hd => ?_
    have h2 : d ∈ [q] := by simpa using hd
    rw [List.mem_singleton.mp h2]; exact hq
  · rw [List.mem_singleton.mp hd]; exact hq
theorem strOk_from : ∀ (ts : List Str) (k : Nat) (acc : Str), (∀ t ∈ ts, PyData.strOk t = true) → PyData.strOk acc = true → PyData.strOk (textFrom k acc ts) = true
  | [], _, _, _, h => h
  | t :: ts, k, acc, ht, h => by
    refine strOk_from ts (k + 1) _ (fun u hu => ht u (List.mem_cons_of_mem _ hu)) ?_
    exact strOk_app.mpr ⟨strOk_app.mpr ⟨h, strOk_of _⟩, ht t (List.mem_cons_self ..)⟩
theorem strOk_join {sep : Str} (hs : PyData.strOk sep = true) : ∀ ts : List Str, (∀ t ∈ ts, PyData.strOk t = true) → PyData.strOk (Str.join sep ts) = true
  | [], _ => strOk_iff.mpr fun c hc => nomatch hc
  | [t], h => h t (List.mem_cons_self ..)
  | t :: u :: ts, h => strOk_app.mpr ⟨strOk_app.mpr ⟨h t (List.mem_cons_self ..), hs⟩, strOk_join hs (u :: ts) fun x hx => h x (List.mem_cons_of_mem _ hx)⟩
mutual
theorem shown_ok {L : Nat} : ∀ d : PyData, gd L d = true → PyData.strOk d.shown = true
  | .none, _ => by simp only [PyData.shown]; exact strOk_of _
  | .bool b, _ => by simp only [PyData.shown]; cases b <;> exact strOk_of _
  | .int i, _ => by simp only [PyData.shown]; exact strOk_of _
  | .str s, h => by simp only [PyData.shown]; exact strOk_repr (asc_ok (by simpa [gd] using h))
  | .list ds, h => by
    simp only [PyData.shown]
    exact strOk_app.mpr ⟨strOk_from _ _ _ (shown_oks ds (by simpa [gd] using h)) (strOk_of _), strOk_of _⟩
  | .tuple ds, h => by
    simp only [PyData.shown]
    exact strOk_app.mpr ⟨strOk_app.mpr ⟨strOk_of _, strOk_join (strOk_of _) _ (shown_oks ds (by simpa [gd] using h))⟩, strOk_of _⟩
  | .dict _, h => by simp [gd] at h
theorem shown_oks {L : Nat} : ∀ ds : List PyData, gds L ds = true → ∀ t ∈ PyData.shownAll ds, PyData.strOk t = true
  | [], _, t, ht => by simp only [PyData.shownAll] at ht; cases ht
  | d :: ds, h, t, ht => by
    have h1 : gd L d = true ∧ gds L ds = true := by simpa [gds] using h
    simp only [PyData.shownAll] at ht
    rcases List.mem_cons.mp ht with rfl | ht
    · exact shown_ok d h1.1
    · exact shown_oks ds h1.2 t ht
end
/-! ### repr(v) of any data -/
def rRepG (K : PySem.W.Frag) : List V → Hp → VK → Prop := fun vs H Q => ∃ x d, vs = [x] ∧ Dt K H x d ∧ Shw 60 1000000 d ∧ Q (.str d.shown) H
theorem cr_repG {X : Cx} (quiet : X.A.guards = some []) (hu : X.A.units + 64 < cLine) : CallR X (.builtin "repr") (rRepG X.K) := by
  intro pins st σ H vs us Q J rv z
  obtain ⟨x, d, rfl, hd, sw, k⟩ := z
  obtain ⟨u, rfl, ru⟩ := vals1 rv
  have h2 := sw.len
  cases hd with
  | non =>
    cases ru
    exact P.repr_of_none ⟨.str _, H, J.tok _, ⟨_, rfl⟩, k⟩
  | bl b =>
    cases ru
    refine P.repr_of_bool ⟨.str _, H, J.tok _, ⟨_, rfl⟩, ?_⟩
    cases b <;> exact k
  | int i =>
    obtain ⟨t, rfl⟩ := ru
    have hs : i.natAbs.log2 < 1920 := by have := sw.ok; simpa [PyData.showable] using this
    exact P.repr_of_int hs ⟨.str _, H, J.tok _, ⟨_, rfl⟩, k⟩
  | str s =>
    obtain ⟨t, rfl⟩ := ru
    simp only [PyData.shown] at h2
    exact P.repr_of_str ⟨.str _, H, J.tok _, ⟨_, rfl⟩, by simpa only [PyData.shown] using k⟩ (by rw [sizeLine_eq]; omega)
  | tup h1 h3 =>
    obtain ⟨as, rd⟩ := Dp.reads J _ _ u (Dt.dp (.tup h1 h3)) ru
    cases ru
    have h1 := sw.dep
    refine repr_of_reads' rd sw.ok (fun h => by rw [sw.nod] at h; cases h) quiet (by omega) (fun _ _ e => e) (fun h' u tk keep => ?_) (by rw [sizeLine_eq]; omega)
    exact ⟨.str _, H, J.kept (t' := tk) keep, ⟨u, rfl⟩, k⟩
  | lst h1 h3 =>
    obtain ⟨as, rd⟩ := Dp.reads J _ _ u (Dt.dp (.lst h1 h3)) ru
    cases ru
    have h1 := sw.dep
    refine repr_of_reads' rd sw.ok (fun h => by rw [sw.nod] at h; cases h) quiet (by omega) (fun _ _ e => e) (fun h' u tk keep => ?_) (by rw [sizeLine_eq]; omega)
    exact ⟨.str _, H, J.kept (t' := tk) keep, ⟨u, rfl⟩, k⟩
theorem rc_repG {c : Cd} {H : Hp} {Q : VK} {x : V} {d : PyData} (hd : Dt c.K H x d) (sw : Shw 60 1000000 d) (q : Q (.str d.shown) H) (hq : c.g = true := by rfl) : RC c (.builtin "repr") [x] H Q :=
  rc_of (r := rRepG c.K) (fun X h => by rw [← h.K]; exact cr_repG (h.gd hq) h.room.units) ⟨x, d, rfl, hd, sw, q⟩
end K

namespace G
open PySem PySem.Spec PyProof.Rows L2
section
variable {c : Cd} {σ : L2.St} {H : Hp} {Q : VK} {pos : Pos}
/-- what an expression gave is locked for good -/
theorem e_freeze {e : Expr} (q : RE c e σ H fun v H1 => ∃ l u, H1 l = some u ∧ Mut (some u) ∧ ∀ od, Q v (upd H1 l (.frz od u))) : RE c e σ H Q := by
  refine re_of (t := fun σ H Q => RE c e σ H fun v H1 => ∃ l u, H1 l = some u ∧ Mut (some u) ∧ ∀ od, Q v (upd H1 l (.frz od u))) (fun X h => ⟨fun pins s σ H Q I w => ?_⟩) q
  refine thn ((pe_re h).run pins s σ H _ I w) fun v s1 hv => ?_
  obtain ⟨x, H1, I1, r, l, u, hl, mu, k⟩ := hv
  obtain ⟨od, I2⟩ := I1.lock hl mu
  exact ⟨x, _, I2, r, k od⟩
theorem rc_str {i : Int} (h : i.natAbs.log2 < 1900) (q : Q (.str (Str.ofString (toString i))) H) : RC c (.type "str") [.int i] H Q :=
  rc_of (fun X h => call_str_int) ⟨i, rfl, by omega, q⟩
end
end G
namespace K
open PySem PySem.Spec PyProof.Rows L2 G
variable {M : Md}
/-! ### odd things -/
def odds : List PyData := [.none, .bool true, .bool false, .int 0, .int 1, .int (-1), .str "", .str "a", .str "x", .tuple [], .list [], .tuple [.int 0], .tuple [.tuple [], .tuple []], .tuple [.int 0, .int 1], .int (10 ^ 40)]
theorem odds_gd : ∀ d ∈ odds, gd 200 d = true ∧ d.depth ≤ 2 ∧ wt d ≤ 200 := by decide +kernel
def preOdd : List PyData → Prop := fun ds => ds = []
def rOdd : List PyData → PyData → Prop := fun _ d => d ∈ odds
abbrev dcOdd (M : Md) : Prop := Dc M "_law_odd" ["_law_feed_here"] 2 (spD preOdd rOdd M.K)
set_option maxHeartbeats 1000000 in
theorem ok_odd {f fd} (F : Fun M.K "_law_odd" "_law_odd" s__law_odd f fd) (b : Bl M) (dd : dcDraw M) : FnG M.prog M.w M.K M.mg M.base CX0 2 f fd ["_law_feed_here"] (spD preOdd rOdd M.K) := by
  refine fn_ok F sc__law_odd (spD_len (n := 0) (by rintro ds rfl; rfl)) (fun H vs Q E h => ?_)
  obtain ⟨fp, cl, rest, ds, rfl, hf, hds, rfl, k⟩ := h
  cases hds
  refine b_cons (s_set (by tm_at "at") (e_lstD ?_))
  tm_at "go"
  refine e_tupD ?_
  tm_at "go"
  refine tupend (ds := []) .nil (Nat.le_of_ble_eq_true rfl) fun v1 H1 s1 h1 => ?_
  refine a_cons ?_
  refine e_freeze ?_
  refine e_lstD (a_nil ⟨by decide, fun l2 H2 s2 n2 g2 => ?_⟩)
  refine ⟨l2, _, g2, True.intro, fun od => ?_⟩
  have s3 : Same H1 (upd H2 l2 (.frz od (.lst []))) := same_mut s2 n2
  have h3 : Dt M.K (upd H2 l2 (.frz od (.lst []))) (.ref l2) (.list []) := .lst upd_same .nil
  generalize upd H2 l2 (.frz od (.lst [])) = H3 at *
  refine a_cons (e_tupD ?_)
  tm_at "go"
  refine tupend (ds := [.int 0]) (.cons (.int _) .nil) (Nat.le_of_ble_eq_true rfl) fun v4 H4 s4 h4 => ?_
  refine a_cons (e_tupD ?_)
  refine a_cons (e_tupD ?_)
  tm_at "go"
  refine tupend (ds := []) .nil (Nat.le_of_ble_eq_true rfl) fun v5 H5 s5 h5 => ?_
  refine a_cons (e_tupD ?_)
  tm_at "go"
  refine tupend (ds := []) .nil (Nat.le_of_ble_eq_true rfl) fun v6 H6 s6 h6 => ?_
  tm_at "go"
  refine tupend (ds := [.tuple [], .tuple []]) (.cons (h5.mono (tp_same s6)) (.cons h6 .nil)) (Nat.le_of_ble_eq_true rfl) fun v7 H7 s7 h7 => ?_
  refine a_cons (e_tupD ?_)
  tm_at "go"
  refine tupend (ds := [.int 0, .int 1]) (.cons (.int _) (.cons (.int _) .nil)) (Nat.le_of_ble_eq_true rfl) fun v8 H8 s8 h8 => ?_
  refine a_cons ?_
  tm_at "go"
  refine ro_pow ⟨by decide, by decide, by decide⟩ ?_
  refine a_nil ⟨(Nat.le_of_ble_eq_true rfl), fun p H9 s9 n9 g9 => ?_⟩
  have s49 : Same H4 H9 := s5.trans (s6.trans (s7.trans (s8.trans s9)))
  have s09 : Same H H9 := s1.trans (s3.trans (s4.trans s49))
  have hd : DtAll M.K H9 _ odds := .cons .non (.cons (.bl _) (.cons (.bl _) (.cons (.int _) (.cons (.int _) (.cons (.int _) (.cons (.str _) (.cons (.str _) (.cons (.str _) (.cons (h1.mono (tp_same (s3.trans (s4.trans s49)))) (.cons (h3.mono (tp_same (s4.trans s49))) (.cons (h4.mono (tp_same s49)) (.cons (h7.mono (tp_same (s8.trans s9))) (.cons (h8.mono (tp_same s9)) (.cons (.int _) .nil))))))))))))))
  have np : p ≠ fp := ne_feed hf (s1.trans (s3.trans (s4.trans (s5.trans (s6.trans (s7.trans s8)))))) n9
  refine b_one (s_ret (e_ix (e_var (by tm_at "at") ?_)))
  refine e_drawV dd ?_
  tm_at "go"
  refine ⟨fp, cl, 15, rfl, rfl, by decide, hf.same s09, fun r HA r0 r1 kA fA => ?_⟩
  refine rx_pick (.of (kA.k _ _ np g9)) (hd.mono kA.t) r0 r1 fun v d hd hv => ?_
  exact k _ _ _ (List.mem_of_getElem? hd) ((kp_same s09).trans kA) fA hv
end K

namespace G
open PySem PySem.Spec PyProof.Rows L2
/-! ### calls with keywords only -/
section
variable {X : Cx} {k : Nat} {f : Addr} {fd : FuncData} {ps ks : List Str} {sp : Sp} {x : Str} {p pos : Pos} {kws : List Keyword} {t : TA} {E : XK} {CX : CXT}
/-- with keywords only -/
theorem peE_kw {g : List Value → List Value} {gV : List V → List V} (F : FnOk X.prog X.w X.K X.mg X.base CX k f fd ps sp) (room : Room k X.A) (hx : Passes CX X E) (gl : Gl X x) (hm : X.mg x = some (.ref f)) (kp : PySem.W.keepIn X.K (.ref f) = true)
    (bn : ∀ (s : Shared) (ws : List Value), ws.length = ks.length → BindsTo s fd ⟨[], ks.zip ws⟩ (ps.zip (g ws))) (rel : ∀ (zs : List V) (ws : List Value), Vals zs ws → zs.length = ks.length → Vals (gV zs) (g ws)) (hkw : PK X kws t)
    (h1 : (backToKw pos (keywordEach kws X.env)).all (·.1.isSome) = true) (h2 : (backToKw pos (keywordEach kws X.env)).filterMap (·.1) = ks) (hdb : (x == ("__debug__" : Str)) = false)
    (h3 : ((backTo pos (starEach [] X.env)).any (·.1) || (backToKw pos (keywordEach kws X.env)).any (·.1.isNone)) = false) :
    PE X (.Call (.Name x p) [] kws pos) (fun σ H Q => t σ H fun zs H2 => zs.length = ks.length ∧ sp (gV zs) H2 Q E) := by
  constructor
  intro pins st σ H Q J z
  apply wpAny_Call_Name_kw
  apply ld_glob J gl hm _ hdb
  refine PySem.W.callWith_KW0 (h₀ := X.base) J.ok.mod.kin kp h1 ?_ h3
  refine thn (hkw.run pos pins st σ H _ J z) fun ws s1 ⟨zs, H1, J1, rz, lz, q⟩ => ⟨J1.kIn, ?_⟩
  rw [h2]
  have r2 := rel zs ws rz lz
  refine wpAny_call (codeAny_mono (F.run X.A X.stack s1 H1 ⟨[], ks.zip ws⟩ (g ws) (gV zs) Q E room J1.env0 (bn s1 ws (rz.length.symm.trans lz)) r2 q) fun r s2 z => ?_)
  match r, z with
  | .ok (.ret u), z => exact J1.after z
  | .error u, z => exact hx _ _ _ _ u s2 J1 z
end
/-- a def that is called with keywords only -/
structure DcK (c : Md) (x : Str) (ps ks : List Str) (gV : List V → List V) (k : Nat) (sp : Sp) : Prop where
  ex : ∃ (f : Addr) (fd : FuncData) (g : List Value → List Value), FnG c.prog c.w c.K c.mg c.base noX k f fd ps sp ∧ c.mg x = some (.ref f) ∧ PySem.W.keepIn c.K (.ref f) = true ∧ (∀ (s : Shared) (ws : List Value), ws.length = ks.length → BindsTo s fd ⟨[], ks.zip ws⟩ (ps.zip (g ws))) ∧
    ∀ (zs : List V) (ws : List Value), Vals zs ws → zs.length = ks.length → Vals (gV zs) (g ws)
section
variable {c : Cd} {σ : L2.St} {H : Hp} {Q : VK} {pos : Pos}
theorem k_nil {Q : List V → Hp → Prop} (q : Q [] H) : RPK c [] σ H Q := rk_of (fun _ _ => pk_nil) q
theorem k_cons {Q : List V → Hp → Prop} {nm : Option Str} {e : Expr} {kpos : Pos} {kws : List Keyword} (q : RE c e σ H fun x H1 => RPK c kws σ H1 fun xs H2 => Q (x :: xs) H2) : RPK c (⟨nm, e, kpos⟩ :: kws) σ H Q :=
  rk_of (fun X h => pk_cons (pe_re h) (pk_rk h)) q
theorem e_kw {x : Str} {p : Pos} {kws : List Keyword} {ps ks : List Str} {gV : List V → List V} {k : Nat} {sp : Sp} (D : DcK c.toMd x ps ks gV k sp) (q : RPK c kws σ H fun zs H1 => zs.length = ks.length ∧ sp (gV zs) H1 Q fun _ _ _ => False) (hk : k ≤ c.k := by exact Nat.le_of_ble_eq_true rfl) (hg : c.sc.names.lookup x = some .globalImplicit := by rfl)
    (h1 : ∀ env, (backToKw pos (keywordEach kws env)).all (·.1.isSome) = true := by intro _; rfl) (h2 : ∀ env, (backToKw pos (keywordEach kws env)).filterMap (·.1) = ks := by intro _; rfl) (hdb : (x == ("__debug__" : Str)) = false := by decide)
    (h3 : ∀ env, ((backTo pos (starEach [] env)).any (·.1) || (backToKw pos (keywordEach kws env)).any (·.1.isNone)) = false := by intro _; rfl) : RE c (.Call (.Name x p) [] kws pos) σ H Q := by
  obtain ⟨f, fd, g, F, hm, hkp, hb, hr⟩ := D.ex
  refine re_of (t := fun σ H Q => RPK c kws σ H fun zs H2 => zs.length = ks.length ∧ sp (gV zs) H2 Q fun _ _ _ => False) (fun X h => ?_) q
  refine peE_kw (CX := noX) (E := fun _ _ _ => False) (k := k) (f := f) (fd := fd) (ps := ps) (ks := ks) (sp := sp) (g := g) (gV := gV) ?_ (h.room.mono hk) (fun _ _ _ _ _ _ _ z => z.elim) (gl_of h hg) (by rw [h.mg]; exact hm) (by rw [h.K]; exact hkp) hb hr (pk_rk h) (h1 _) (h2 _) hdb (h3 _)
  rw [h.prog, h.w, h.K, h.mg, h.base]; exact F
end
end G
namespace G
open PySem PySem.Spec PyProof.Rows L2
/-- a def that is called with keywords only -/
structure DcX (c : Md) (x : Str) (ps ks : List Str) (gV : List V → List V) (k : Nat) (sp : Sp) : Prop where
  ex : ∃ (f : Addr) (fd : FuncData) (g : List Value → List Value), FnOk c.prog c.w c.K c.mg c.base (L2.CX c.prog c.w) k f fd ps sp ∧ c.mg x = some (.ref f) ∧ PySem.W.keepIn c.K (.ref f) = true ∧ (∀ (s : Shared) (ws : List Value), ws.length = ks.length → BindsTo s fd ⟨[], ks.zip ws⟩ (ps.zip (g ws))) ∧
    ∀ (zs : List V) (ws : List Value), Vals zs ws → zs.length = ks.length → Vals (gV zs) (g ws)
section
variable {c : Cd} {σ : L2.St} {H : Hp} {Q : VK} {pos : Pos}
theorem e_kwX {x : Str} {p : Pos} {kws : List Keyword} {ps ks : List Str} {gV : List V → List V} {k : Nat} {sp : Sp} (D : DcX c.toMd x ps ks gV k sp) (q : RPK c kws σ H fun zs H1 => zs.length = ks.length ∧ sp (gV zs) H1 Q fun _ _ _ => False) (hk : k ≤ c.k := by exact Nat.le_of_ble_eq_true rfl) (hg : c.sc.names.lookup x = some .globalImplicit := by rfl)
    (h1 : ∀ env, (backToKw pos (keywordEach kws env)).all (·.1.isSome) = true := by intro _; rfl) (h2 : ∀ env, (backToKw pos (keywordEach kws env)).filterMap (·.1) = ks := by intro _; rfl) (hdb : (x == ("__debug__" : Str)) = false := by decide)
    (h3 : ∀ env, ((backTo pos (starEach [] env)).any (·.1) || (backToKw pos (keywordEach kws env)).any (·.1.isNone)) = false := by intro _; rfl) : RE c (.Call (.Name x p) [] kws pos) σ H Q := by
  obtain ⟨f, fd, g, F, hm, hkp, hb, hr⟩ := D.ex
  refine re_of (t := fun σ H Q => RPK c kws σ H fun zs H2 => zs.length = ks.length ∧ sp (gV zs) H2 Q fun _ _ _ => False) (fun X h => ?_) q
  refine peE_kw (CX := L2.CX X.prog X.w) (E := fun _ _ _ => False) (k := k) (f := f) (fd := fd) (ps := ps) (ks := ks) (sp := sp) (g := g) (gV := gV) ?_ (h.room.mono hk) (passes_call LamX.takes0 fun _ _ _ _ z => z) (gl_of h hg) (by rw [h.mg]; exact hm) (by rw [h.K]; exact hkp) hb hr (pk_rk h) (h1 _) (h2 _) hdb (h3 _)
  rw [h.prog, h.w, h.K, h.mg, h.base]; exact F
end
end G

namespace K
open PySem PySem.Spec PyProof.Rows L2 G
variable {M : Md}
/-! ### how long the texts get -/
theorem all1 {α : Type} {P : α → Prop} {a : α} (h : P a) : ∀ p ∈ [a], P p := fun p hp => by rw [List.mem_singleton.mp hp]; exact h
theorem all2 {α : Type} {P : α → Prop} {a b : α} (h : P a) (k : P b) : ∀ p ∈ [a, b], P p := fun p hp => by
  rcases List.mem_cons.mp hp with rfl | hp
  · exact h
  · exact all1 k p hp
theorem all3 {α : Type} {P : α → Prop} {a b c : α} (h : P a) (k : P b) (l : P c) : ∀ p ∈ [a, b, c], P p := fun p hp => by
  rcases List.mem_cons.mp hp with rfl | hp
  · exact h
  · exact all2 k l p hp
theorem row_rg {rs : List Row} {r : Row} (hr : r ∈ rs) : (r.2.2.1, r.2.2.2.1) ∈ rg rs := by
  refine List.mem_flatMap.mpr ⟨r, hr, List.mem_replicate.mpr ⟨?_, rfl⟩⟩
  unfold width
  omega
theorem row_tot {rs : List Row} {r : Row} (hr : r ∈ rs) : r.2.1 ≤ total rs := by
  induction rs with
  | nil => cases hr
  | cons q rs ih =>
    have e : total (q :: rs) = width q + total rs := by simp [total]
    have w : q.2.1 ≤ width q := Nat.le_max_right _ _
    rcases List.mem_cons.mp hr with rfl | hr
    · omega
    · have := ih hr
      omega
structure RowB (rs : List Row) (r : Row) : Prop where
  mem : r ∈ rs
  sz : r.2.1 ≤ 10
  lo : -10 ≤ r.2.2.1 ∧ r.2.2.1 ≤ 10
  hi : -10 ≤ r.2.2.2.1 ∧ r.2.2.2.1 ≤ 10
theorem rowB {rs : List Row} (A : RowsAll rs) {r : Row} (h : r ∈ rs) : RowB rs r := by
  obtain ⟨a1, a2, a3⟩ := A.sm.sp _ (row_rg h)
  unfold span at a1
  simp only at a1 a2 a3
  exact ⟨h, by have := row_tot h; have := A.sm.tot; omega, by omega, by omega⟩
structure RowsNm (rs : List Row) : Prop where
  nm : ∀ r ∈ rs, (reprText r.1).length ≤ 20
  fst : ∀ r ∈ rs, r.2.2.2.2.2.2.natAbs < 10 ^ 12
def sz : Nat → Nat
  | 0 => 20
  | n + 1 => 4 * (sz n + 2) + 3
theorem sz_ge : ∀ n, 20 ≤ sz n
  | 0 => Nat.le_refl _
  | n + 1 => by have := sz_ge n; unfold sz; omega
theorem word_len : ∀ w ∈ ("at" :: "if" :: (bins ++ (uns ++ kks)) : List Str), (reprText w).length ≤ 20 := by decide +kernel
theorem sw_i {i : Int} {n m : Nat} (h : -1000000 ≤ i ∧ i ≤ 1000000) (hm : 20 ≤ m) : Shw n m (.int i) := (sw_int (Nat.lt_of_le_of_lt (show i.natAbs ≤ 1000000 by omega) (by decide))).up (Nat.zero_le _) (by omega)
theorem sw_s {s : Str} {n m : Nat} (h : (reprText s).length ≤ 20) (hm : 20 ≤ m) : Shw n m (.str s) := (sw_str h).up (Nat.zero_le _) hm
theorem sw_sz {n : Nat} {ds : List PyData} (h : ∀ d ∈ ds, Shw n (sz n) d) (hk : ds.length ≤ 4) : Shw (n + 1) (sz (n + 1)) (.tuple ds) := sw_tup h hk
theorem exShw {rs : List Row} (N : RowsNm rs) : ∀ (e : Ex) (n : Nat), Fit rs e → e.dep ≤ n → Shw n (sz n) e.d
  | .int i, n, h, _ => sw_i h (sz_ge n)
  | .nm s, n, ⟨r, hr, e, _⟩, _ => sw_s (by rw [← e]; exact N.nm r hr) (sz_ge n)
  | .at t e, 0, _, h => absurd h (by unfold Ex.dep; omega)
  | .at t e, n + 1, ⟨⟨r, hr, e0, _⟩, f⟩, h => by
    have ih := exShw N e n f (by unfold Ex.dep at h; omega)
    exact sw_sz (all3 (sw_s (word_len _ (by decide +kernel)) (sz_ge n)) (sw_s (by rw [← e0]; exact N.nm r hr) (sz_ge n)) ih) (Nat.le_of_ble_eq_true rfl)
  | .un op e, 0, _, h => absurd h (by unfold Ex.dep; omega)
  | .un op e, n + 1, ⟨ho, f⟩, h => by
    have ih := exShw N e n f (by unfold Ex.dep at h; omega)
    exact sw_sz (all2 (sw_s (word_len op (List.mem_cons_of_mem _ (List.mem_cons_of_mem _ (List.mem_append_right _ (List.mem_append_left _ ho))))) (sz_ge n)) ih) (Nat.le_of_ble_eq_true rfl)
  | .kk op e k, 0, _, h => absurd h (by unfold Ex.dep; omega)
  | .kk op e k, n + 1, ⟨ho, f, hk⟩, h => by
    have ih := exShw N e n f (by unfold Ex.dep at h; omega)
    exact sw_sz (all3 (sw_s (word_len op (List.mem_cons_of_mem _ (List.mem_cons_of_mem _ (List.mem_append_right _ (List.mem_append_right _ ho))))) (sz_ge n)) ih (sw_i (by omega) (sz_ge n))) (Nat.le_of_ble_eq_true rfl)
  | .bin op a b, 0, _, h => absurd h (by unfold Ex.dep; omega)
  | .bin op a b, n + 1, ⟨ho, f, g⟩, h => by
    have i1 := exShw N a n f (by unfold Ex.dep at h; omega)
    have i2 := exShw N b n g (by unfold Ex.dep at h; omega)
    exact sw_sz (all3 (sw_s (word_len op (List.mem_cons_of_mem _ (List.mem_cons_of_mem _ (List.mem_append_left _ ho)))) (sz_ge n)) i1 i2) (Nat.le_of_ble_eq_true rfl)
  | .ite a b d, 0, _, h => absurd h (by unfold Ex.dep; omega)
  | .ite a b d, n + 1, ⟨f, g, e⟩, h => by
    have i1 := exShw N a n f (by unfold Ex.dep at h; omega)
    have i2 := exShw N b n g (by unfold Ex.dep at h; omega)
    have i3 := exShw N d n e (by unfold Ex.dep at h; omega)
    refine sw_sz (fun x hx => ?_) (Nat.le_of_ble_eq_true rfl)
    rcases List.mem_cons.mp hx with rfl | hx
    · exact sw_s (word_len _ (by decide +kernel)) (sz_ge n)
    · exact all3 i1 i2 i3 x hx
theorem tgShw {rs : List Row} (N : RowsNm rs) {t : Tg} (h : FitT rs t) : Shw 3 (sz 3) t.d := by
  cases t with
  | nm s =>
    obtain ⟨r, hr, e, _⟩ := h
    exact sw_s (by rw [← e]; exact N.nm r hr) (sz_ge 3)
  | «at» t e =>
    obtain ⟨⟨r, hr, e0, _⟩, f, hd⟩ := h
    exact sw_sz (n := 2) (all2 (sw_s (by rw [← e0]; exact N.nm r hr) (sz_ge 2)) (exShw N e 2 f hd)) (Nat.le_of_ble_eq_true rfl)
theorem rowsShw {rs : List Row} (A : RowsAll rs) (N : RowsNm rs) : Shw 2 (10 * ((7 * (20 + 2) + 3) + 2) + 3) (cellsD rs) := by
  refine sw_tup (n := 7 * (20 + 2) + 3) (fun d hd => ?_) (by rw [List.length_map]; exact A.ri.len)
  obtain ⟨r, hr, rfl⟩ := List.mem_map.mp hd
  have B := rowB A hr
  refine sw_tup (m := 0) (n := 20) (k := 7) (fun d hd => ?_) (Nat.le_of_ble_eq_true rfl)
  have i0 : ∀ i : Int, i.natAbs < 10 ^ 12 → Shw 0 20 (.int i) := fun i h => (sw_int h).up (Nat.le_refl _) (by decide)
  have hb : ∀ b : Bool, Shw 0 20 (.bool b) := fun b => (sw_bool b).up (Nat.le_refl _) (by decide)
  have hsz := B.sz
  have hlo := B.lo
  have hhi := B.hi
  rcases List.mem_cons.mp hd with rfl | hd
  · exact sw_str (N.nm r hr)
  rcases List.mem_cons.mp hd with rfl | hd
  · exact i0 _ (Nat.lt_of_le_of_lt (show ((r.2.1 : Int)).natAbs ≤ 10 by omega) (by decide))
  rcases List.mem_cons.mp hd with rfl | hd
  · exact i0 _ (Nat.lt_of_le_of_lt (show (r.2.2.1).natAbs ≤ 10 by omega) (by decide))
  rcases List.mem_cons.mp hd with rfl | hd
  · exact i0 _ (Nat.lt_of_le_of_lt (show (r.2.2.2.1).natAbs ≤ 10 by omega) (by decide))
  rcases List.mem_cons.mp hd with rfl | hd
  · exact hb _
  rcases List.mem_cons.mp hd with rfl | hd
  · exact hb _
  · rw [List.mem_singleton.mp hd]
    exact i0 _ (N.fst r hr)
theorem nm_of {rs : List Row} (C : CellsOk rs) : RowsNm rs := ⟨C.txt, C.val⟩
theorem rlShw {rs : List Row} (N : RowsNm rs) {r : Rl} (G : RlOk rs r) (hn : (reprText r.name).length ≤ 20) : Shw 6 (4 * ((2 * (sz 4 + 2) + 3) + 2) + 3) r.d := by
  have h1 : Shw 5 (2 * (sz 4 + 2) + 3) (.tuple (r.as.map asD)) := by
    refine sw_tup (n := sz 4) (fun d hd => ?_) (by rw [List.length_map]; exact G.two)
    obtain ⟨p, hp, rfl⟩ := List.mem_map.mp hd
    obtain ⟨a1, a2, a3⟩ := G.fit.as p hp
    exact sw_sz (n := 3) (all2 (tgShw N a1) ((exShw N p.2 3 a2 (by omega)))) (Nat.le_of_ble_eq_true rfl)
  have h2 : Shw 5 (2 * (sz 4 + 2) + 3) r.guard.d := (exShw N r.guard 4 G.fit.guard.1 G.fit.guard.2).up (by decide) (by decide)
  exact sw_tup (k := 4) (all3 ((sw_s hn (Nat.le_refl 20)).up (m' := 5) (m := 0) (by decide) (by decide)) h2 h1) (Nat.le_of_ble_eq_true rfl)
theorem nmA_len : ∀ w ∈ namesA, (reprText w).length ≤ 20 := by decide +kernel
theorem goals_shw : ∀ g ∈ goals, Shw 3 100 g.d := by
  intro g hg
  have h0 : ∀ i : Int, -1000000 ≤ i ∧ i ≤ 1000000 → Shw 2 20 (.int i) := fun i h => sw_i h (Nat.le_refl _)
  have hg : g = .int 1 ∨ g = .bin "<" (.nm "x") (.int 1) ∨ g = .int 0 ∨ g = .at "t" (.int 1) := by simpa [goals] using hg
  have hs : ∀ w ∈ (["<", "x", "at", "t"] : List Str), Shw 2 20 (.str w) := fun w hw => sw_s (by revert w; decide +kernel) (Nat.le_refl _)
  rcases hg with rfl | rfl | rfl | rfl
  · exact (h0 1 (by decide)).up (by decide) (by decide)
  · exact (sw_tup (k := 3) (all3 (hs "<" (by decide +kernel)) (hs "x" (by decide +kernel)) (h0 1 (by decide))) (Nat.le_of_ble_eq_true rfl)).up (by decide) (by decide)
  · exact (h0 0 (by decide)).up (by decide) (by decide)
  · exact (sw_tup (k := 3) (all3 (hs "at" (by decide +kernel)) (hs "t" (by decide +kernel)) (h0 1 (by decide))) (Nat.le_of_ble_eq_true rfl)).up (by decide) (by decide)
theorem pairsShw {ps : List (Str × Str)} (h : ∀ p ∈ ps, p.1 ∈ namesA ∧ p.2 ∈ namesA) (hl : ps.length ≤ 25) : Shw 2 2000 (pairsD ps) := by
  refine (sw_tup (n := 2 * (20 + 2) + 3) (k := 25) (fun d hd => ?_) (by rw [List.length_map]; exact hl)).up (Nat.le_refl 2) (by decide)
  obtain ⟨p, hp, rfl⟩ := List.mem_map.mp hd
  obtain ⟨h1, h2⟩ := h p hp
  exact sw_tup (k := 2) (m := 0) (all2 (sw_str (nmA_len _ h1)) (sw_str (nmA_len _ h2))) (Nat.le_of_ble_eq_true rfl)
theorem wdShw {w : Wd} (W : WdOk w) : Shw 60 1000000 w.d := by
  have N := nm_of W.cells
  have h1 := (rowsShw W.cells.all N).up (m' := 7) (n' := 249000) (by decide) (by decide)
  have h2 : Shw 7 249000 (.tuple (w.rl.map Rl.d)) := by
    refine (sw_tup (n := 4 * ((2 * (sz 4 + 2) + 3) + 2) + 3) (k := 5) (fun d hd => ?_) (by rw [List.length_map]; exact W.few)).up (Nat.le_refl 7) (by decide)
    obtain ⟨r, hr, rfl⟩ := List.mem_map.mp hd
    obtain ⟨a1, a2⟩ := W.rules r hr
    exact rlShw N a1 (nmA_len _ a2)
  have h3 := (pairsShw W.ps W.pl).up (m' := 7) (n' := 249000) (by decide) (by decide)
  have h4 := (goals_shw _ W.goal).up (m' := 7) (n' := 249000) (by decide) (by decide)
  refine (sw_tup (m := 7) (n := 249000) (k := 4) (fun d hd => ?_) (Nat.le_of_ble_eq_true rfl)).up (by decide) (by decide)
  rcases List.mem_cons.mp hd with rfl | hd
  · exact h1
  · exact all3 h2 h3 h4 d hd
theorem intsShw {is : List Int} (h : ∀ i ∈ is, i.natAbs < 10 ^ 12) (hl : is.length ≤ 300) : Shw 1 5000 (intsD is) := by
  refine (sw_tup (n := 13) (k := 300) (fun d hd => ?_) (by rw [List.length_map]; exact hl)).up (Nat.le_refl 1) (by decide)
  obtain ⟨i, hi, rfl⟩ := List.mem_map.mp hd
  exact sw_int (h i hi)
theorem sh_ints (is : List Int) : Shp 2 (intsD is) := by
  refine shp_tup fun d hd => ?_
  obtain ⟨i, _, rfl⟩ := List.mem_map.mp hd
  exact shp_int i
end K

namespace K
open PySem PySem.Spec PyProof.Rows L2 G
variable {M : Md}
/-! ### the product of a list of ranges -/
structure PsOk (ps : List Rng) : Prop where
  sp : ∀ p ∈ ps, 1 ≤ span p ∧ -10 ≤ p.1 ∧ p.2 ≤ 10
  len : ps.length ≤ 10
  many : many ps ≤ 256
def spCombL (K : PySem.W.Frag) : Sp := fun vs H Q _ => ∃ (a : Addr) (xs : List V) (ps : List Rng), vs = [.ref a] ∧ H a = some (.lst xs) ∧ DtAll K H xs (ps.map rngD) ∧ PsOk ps ∧ ∀ l us H', Same H H' → H l = none → H' l = some (.lst us) → RAll TI H' us (statesOf ps) → Q (.ref l) H'
set_option maxHeartbeats 1000000 in
theorem ok_combL {f fd} (F : Fun M.K "_combined" "_combined" s__combined f fd) (b : Bl M) : FnG M.prog M.w M.K M.mg M.base CX0 1 f fd ["ranges"] (spCombL M.K) := by
  refine fn_ok F sc__combined (fun vs H Q E h => ?_) (fun H vs Q E h => ?_)
  · obtain ⟨a, xs, ps, rfl, _⟩ := h
    rfl
  obtain ⟨a, xs, ps, rfl, ga, hd, sm, k⟩ := h
  refine b_cut (fun σ1 H1 => ∃ l us, σ1 = [some (.ref a), some (.ref l), none, none, none, none] ∧ Same H H1 ∧ H l = none ∧ H1 l = some (.lst us) ∧ RAll TI H1 us [[]]) ?_ ?_
  · refine s_set (by tm_at "at") ?_
    refine e_lstD ?_
    refine a_cons (e_tupTI (a_nil ?_))
    refine ⟨[], rfl, (Nat.le_of_ble_eq_true rfl), fun v0 H0 s0 h0 => ?_⟩
    refine a_nil ⟨(Nat.le_of_ble_eq_true rfl), fun l1 H1 s1 n1 g1 => ?_⟩
    exact ⟨l1, _, rfl, s0.trans s1, same_none s0 n1, g1, .cons (kTI.k (tp_same s1) h0) .nil⟩
  rintro _ H1 ⟨l1, u1, rfl, s1, n1, g1, h1⟩
  refine b_cut (fun σ1 H2 => ∃ (l : Addr) (us : List V) (v2 v3 : Option V), σ1 = [some (.ref a), some (.ref l), v2, v3, none, none] ∧ Same H H2 ∧ H l = none ∧ H2 l = some (.lst us) ∧ RAll TI H2 us (statesOf ps)) ?_ ?_
  · refine s_forL ?_
    refine e_var (by tm_at "at") ?_
    refine ⟨a, xs, rfl, .of (s1 _ _ ga), fun i σ1 H' => ∃ (l : Addr) (us : List V) (v2 v3 : Option V), σ1 = [some (.ref a), some (.ref l), v2, v3, none, none] ∧ Same H1 H' ∧ H l = none ∧ H' l = some (.lst us) ∧ RAll TI H' us (statesOf (ps.take i)), ⟨l1, u1, none, none, rfl, Same.refl _, n1, g1, h1⟩, ?_, ?_, ?_⟩
    · rintro i σ' H' _ ⟨l, us, v2, v3, rfl, s, _⟩
      exact .of (s _ _ (s1 _ _ ga))
    · rintro i x σ' H3 hx ⟨l, us, v2, v3, rfl, s3, n3, g3, h3⟩
      obtain ⟨d, hdi, hx'⟩ := hd.getV hx
      rw [List.getElem?_map] at hdi
      obtain ⟨pr, hp, rfl⟩ := Option.map_eq_some_iff.mp hdi
      obtain ⟨ap, xp, rfl, htp, hdp⟩ := (hx'.mono (tp_same (s1.trans s3))).tupE
      obtain _ | ⟨e1, hdp⟩ := hdp
      obtain _ | ⟨e2, hdp⟩ := hdp
      cases hdp
      cases e1
      cases e2
      have spn := sm.sp pr (List.mem_of_getElem? hp)
      have cnt : (widen (statesOf (ps.take i)) pr).length ≤ 256 := by
        rw [← states_snoc hp, states_len]
        exact Nat.le_trans (many_take (fun p hp => (sm.sp p hp).1) _) sm.many
      rw [widen_len] at cnt
      refine g_tup htp (gs_cons (g_name (by tm_at "at") (gs_cons (g_name (by tm_at "at") (gs_nil ?_)))))
      refine b_one ?_
      refine s_setLc2 (own := [("state", 4), ("value", 5)]) (vs1 := [5]) (by tm_at "at") (Blk.of (N := N__combined) (sc := defScope s__combined) rfl rfl (by decide +kernel)) (by decide) ?_
      refine lc2_R (g := app1) kTI kTI b.range ?_
      refine e_var (by tm_at "at") ?_
      refine ⟨l, us, _, pr.1, pr.2 + 1, rfl, .of g3, h3, by unfold span at spn; omega, by unfold span at spn; omega, ?_, ?_, ?_⟩
      · unfold span at cnt
        omega
      · intro o v H' ho s' hv
        refine g_name (by tm_at "at") ⟨rfl, rfl, ?_⟩
        tm_at "go"
        refine ⟨rfl, rfl, rfl, ?_⟩
        intro t H4 s4 ht4 hv4
        refine g_name (by tm_at "at") ⟨rfl, rfl, ?_⟩
        tm_at "go"
        refine e_tupTI ?_
        tm_at "go"
        refine ⟨[_], rfl, (Nat.le_of_ble_eq_true rfl), fun vp H5 s5 hp5 => ?_⟩
        have ol : o.length ≤ 100 := by
          have h1 := states_mem ho
          have h2 : (ps.take i).length ≤ ps.length := by rw [List.length_take]; omega
          have h3 := sm.len
          omega
        refine ro_catTI (kTI.k (tp_same s5) hv4) hp5 (by show o.length + 1 ≤ _; omega) fun v9 H9 s9 h9 => ?_
        exact ⟨s5.trans s9, h9⟩
      · intro p ys H4 s4 n4 g4 h4
        rw [widen_app1, ← states_snoc hp] at h4
        exact ⟨p, ys, _, _, rfl, s3.trans s4, same_none (s1.trans s3) n4, g4, h4⟩
    · rintro σ' H3 ⟨l, us, v2, v3, rfl, s3, n3, g3, h3⟩
      have lx := hd.len
      rw [List.length_map] at lx
      rw [lx, List.take_length] at h3
      exact ⟨l, us, v2, v3, rfl, s1.trans s3, n3, g3, h3⟩
  rintro _ H2 ⟨l, us, v2, v3, rfl, s2, n2, g2, h2⟩
  tm_at "go"
  exact k _ _ _ s2 n2 g2 h2
theorem re_cut {c : Cd} {e : Expr} {σ : L2.St} {H : Hp} {P Q : VK} (q : RE c e σ H P) (w : ∀ v H', P v H' → Q v H') : RE c e σ H Q := RE.mono w q
/-! ### the states for the inputs -/
def rSfi : List PyData → List St1 → Prop := fun ds es => ∃ (rs : List Row) (rest : List PyData), ds = [.tuple (cellsD rs :: rest)] ∧ Small rs ∧ IniOk rs ∧ es = statesOf (fx rs)
abbrev dcSfi (M : Md) : Prop := Dc M "states_for_inputs" ["program"] 2 (spLR TI rSfi M.K)
theorem rep_fl {vp : V} : ∀ n : Nat, (List.replicate n [vp]).flatten = List.replicate n vp
  | 0 => rfl
  | n + 1 => by rw [List.replicate_succ, List.replicate_succ, List.flatten_cons, rep_fl n]; rfl
theorem ok_sfi {f fd} (F : Fun M.K "states_for_inputs" "states_for_inputs" s_states_for_inputs f fd) (b : Bl M) (dw : Dc M "row_width" ["row"] 1 (spF rWidth M.K)) (dc : Dc M "_combined" ["ranges"] 1 (spCombL M.K)) : FnG M.prog M.w M.K M.mg M.base CX0 2 f fd ["program"] (spLR TI rSfi M.K) := by
  refine fn_ok F sc_states_for_inputs (fun vs H Q E h => ?_) (fun H vs Q E h => ?_)
  · obtain ⟨ds, d, h, ⟨rs, rest, rfl, _⟩, _⟩ := h
    exact h.len
  obtain ⟨ds, d, h, ⟨rs, rest, rfl, sm, ini, rfl⟩, k⟩ := h
  obtain _ | ⟨hp, h⟩ := h
  cases h
  rename_i vp
  refine b_cons (s_set (by tm_at "at") (e_lstD (a_nil ⟨(Nat.le_of_ble_eq_true rfl), fun l0 H0 s0 n0 g0 => ?_⟩)))
  refine b_cut (fun σ1 H1 => ∃ l us v2, σ1 = [some vp, some (.ref l), v2] ∧ Same H H1 ∧ H1 l = some (.lst us) ∧ DtAll M.K H1 us ((fx rs).map rngD)) ?_ ?_
  · refine s_forT ?_
    tm_at "go"
    refine rx_tup (hp.mono (tp_same s0)) (d := cellsD rs) (pl_at (j := 0) rfl rfl) fun vc hc => ?_
    obtain ⟨a, xs, rfl, hxs, hrs⟩ := hc.tupE
    have hle := hrs.len
    rw [List.length_map] at hle
    refine ⟨a, xs, rfl, hxs, fun i σ1 H1 => ∃ (l : Addr) (us : List V) (v : Option V), σ1 = [some vp, some (.ref l), v] ∧ Same H0 H1 ∧ H1 l = some (.lst us) ∧ DtAll M.K H1 us ((fx (rs.take i)).map rngD), ⟨l0, [], _, rfl, Same.refl _, g0, .nil⟩, ?_, ?_, ?_⟩
    · rintro i σ' H' _ ⟨l, us, v, rfl, s, _⟩
      exact (tp_same s).sqt hxs
    · rintro i x σ' H' hx ⟨l, us, v, rfl, s, hl1, hu⟩
      obtain ⟨d, hd, hx'⟩ := hrs.getV hx
      rw [List.getElem?_map] at hd
      obtain ⟨r, hr, rfl⟩ := Option.map_eq_some_iff.mp hd
      have hw := width_le hr
      have hul := hu.len
      rw [List.length_map, fx_len] at hul
      have ht := sm.tot
      have hx2 := hx'.mono (tp_same s)
      refine g_name (by tm_at "at") ?_
      refine b_one (s_set (by tm_at "at") (e_bin (e_var (by tm_at "at") (e_bin ?_))))
      refine e_lstD (a_cons (re_cut (P := fun v5 H5 => Same H' H5 ∧ Dt M.K H5 v5 (rngD (fxR r))) ?_ fun v5 H5 z => ?_))
      · refine e_if (t_val ?_)
        tm_at "go"
        refine ifb (fun c1 => ?_) (fun c1 => ?_)
        · refine e_tupD ?_
          tm_at "go"
          refine tupend (by tm_at "dts") (Nat.le_of_ble_eq_true rfl) fun v5 H5 s5 h5 => ⟨s5, ?_⟩
          unfold fxR rngD
          rw [if_pos c1]
          exact h5
        · refine e_tupD ?_
          tm_at "go"
          refine tupend (by tm_at "dts") (Nat.le_of_ble_eq_true rfl) fun v5 H5 s5 h5 => ⟨s5, ?_⟩
          unfold fxR rngD
          rw [if_neg (by rw [c1]; decide)]
          exact h5
      obtain ⟨s5, h5⟩ := z
      refine a_nil ⟨(Nat.le_of_ble_eq_true rfl), fun l2 H3 s3 n3 g3 => ?_⟩
      have hx3 := hx2.mono (tp_same (s5.trans s3))
      refine e_callF dw ?_
      tm_at "go"
      refine ⟨_, _, .cons hx3 .nil, ⟨r, rfl, rfl⟩, fun v' H4 s4 hv => ?_⟩
      cases hv
      refine ro_rep (s4 _ _ g3) (by omega) (Nat.le_of_ble_eq_true rfl) fun l5 H6 s6 n6 g6 => ?_
      rw [Int.toNat_natCast, rep_fl] at g6
      have s26 := s5.trans (s3.trans (s4.trans s6))
      refine ro_cat (s26 _ _ hl1) g6 (by rw [List.length_replicate]; have := total_take rs i; omega) fun l6 H7 s7 n7 g7 => ?_
      refine ⟨l6, _, _, rfl, s.trans (s26.trans s7), g7, ?_⟩
      rw [fx_snoc hr, List.map_append, List.map_replicate]
      exact (hu.mono (tp_same (s26.trans s7))).app (dt_rep (h5.mono (tp_same (s3.trans (s4.trans (s6.trans s7))))) _)
    · rintro σ' H' ⟨l, us, v, rfl, s, hl1, hu⟩
      rw [hle, List.take_length] at hu
      exact ⟨l, us, v, rfl, s0.trans s, hl1, hu⟩
  rintro _ H1 ⟨l, us, v2, rfl, s1, g1, h1⟩
  refine b_one (s_ret (e_call dc (a_cons (e_var (by tm_at "at") (a_nil ?_)))))
  exact ⟨l, us, fx rs, rfl, g1, h1, ⟨span_fx sm ini, by rw [fx_len]; exact sm.tot, many_fx sm ini⟩, fun l2 us' H' s2 n2 g2 h2 => k _ _ _ (s1.trans s2) (same_none s1 n2) g2 h2⟩
end K

namespace G
open PySem PySem.Spec PyProof.Rows L2
section
variable {c : Cd} {σ : L2.St} {H : Hp} {Q : VK} {pos : Pos} {elt : Expr} {ifs : List Expr} {scope : Scope} {vs : List Nat}
theorem zp_step {α β : Type} {g : α → Option β} {l : List α} {i : Nat} {a : α} (h : l[i]? = some a) : (l.take i).filterMap g ++ (g a).toList = (l.take (i + 1)).filterMap g := by
  obtain ⟨h1, rfl⟩ := List.getElem?_eq_some_iff.mp h
  rw [List.take_succ_eq_append_getElem h1, List.filterMap_append]
  congr 1
/-- a comprehension over zip of two tuples that changes nothing -/
theorem lcZ_F (g : PyData → PyData → Option PyData) {e e2 : Expr} {p ppos tpos : Pos} {elts : List Expr} {kk : Nat} (hm : c.mg "zip" = none) (q : RA c [e, e2] σ H fun us H1 => ∃ ds es x y, us = [x, y] ∧ Dt c.K H1 x (.tuple ds) ∧ Dt c.K H1 y (.tuple es) ∧ ds.length ≤ 1000 ∧
      (∀ d d' v H', (d, d') ∈ ds.zip es → Same H1 H' → Dt c.K H' v (.tuple [d, d']) → TurnF (blkCd c scope) (.Tuple elts kk tpos) ifs elt vs σ c.K v H' (g d d')) ∧
      ∀ p us H3, Same H1 H3 → H1 p = none → H3 p = some (.lst us) → DtAll c.K H3 us ((ds.zip es).filterMap fun p => g p.1 p.2) → Q (.ref p) H3)
    (hg : c.sc.names.lookup ("zip" : Str) = some .globalImplicit := by rfl) (hs : ∀ env, starEach [e, e2] env = (false, eval e env) :: starEach [e2] env := by intro _; rfl) (hpl : ∀ env, (backTo ppos (starEach [e2] env)).any (·.1) = false := by intro _; rfl) :
    tLc (RI c (.Tuple elts kk tpos) (.Call (.Name "zip" p) [e, e2] [] ppos)) (RG (blkCd c scope) (.Tuple elts kk tpos)) (RTs (blkCd c scope) ifs) (RE (blkCd c scope) elt) vs σ H Q := by
  refine ri_of (t := RZ.iZipA c.K (RA c [e, e2])) (fun X h => by rw [← h.K]; exact RZ.pi_zipA (gl_of h hg) (by rw [h.mg]; exact hm) (pa_ra h) (hs _) (hpl _)) (RA.mono (fun us H1 z => ?_) q)
  obtain ⟨ds, es, x, y, rfl, hx, hy, hl, tn, k⟩ := z
  obtain ⟨a, xs, rfl, sa, da⟩ := hx.tupE
  obtain ⟨b, ys, rfl, sb, db⟩ := hy.tupE
  have la := da.len
  have lb := db.len
  refine ⟨a, b, xs, ys, rfl, .inr ⟨sa, sb, fun D hD => ?_⟩⟩
  have hn : (ds.zip es).length = min xs.length ys.length := by rw [List.length_zip, la, lb]
  refine ⟨fun i m H' => m = (ds.zip es).length - i ∧ i ≤ (ds.zip es).length ∧ ∃ acc, acc.length ≤ i ∧ H' D = some (.lst acc) ∧ Same H1 H' ∧ DtAll c.K H' acc (((ds.zip es).take i).filterMap fun p => g p.1 p.2), ⟨(ds.zip es).length, by simp, Nat.zero_le _, [], Nat.le_refl _, upd_same, same_new hD, .nil⟩, ?_⟩
  rintro i m H' ⟨rfl, hi, acc, lacc, hA, s, hd⟩
  have sa' := (tp_same s).sqt sa
  have sb' := (tp_same s).sqt sb
  by_cases hlt : i < (ds.zip es).length
  · have i1 : i < xs.length := by omega
    have i2 : i < ys.length := by omega
    refine .inr ⟨⟨xs, ys, xs[i], ys[i], sa', sb', List.getElem?_eq_getElem i1, List.getElem?_eq_getElem i2⟩, fun H' => ∃ acc, acc.length ≤ i + 1 ∧ H' D = some (.lst acc) ∧ Same H1 H' ∧ DtAll c.K H' acc (((ds.zip es).take (i + 1)).filterMap fun p => g p.1 p.2), fun H' p' => ⟨(ds.zip es).length - (i + 1), by omega, rfl, hlt, p'⟩, fun v H2 yy => ?_⟩
    obtain ⟨T, u, w, rfl, hT, rfl, e1, e2⟩ := yy
    obtain ⟨d, hd1, hu⟩ := da.getV (e1 _ sa')
    obtain ⟨d', hd2, hw⟩ := db.getV (e2 _ sb')
    have hz : (ds.zip es)[i]? = some (d, d') := by rw [List.getElem?_zip_eq_some]; exact ⟨hd1, hd2⟩
    have sT : Same H' (upd H' T (.tup [u, w])) := same_new hT
    have s2 := s.trans sT
    have T1 := TurnF.one hD s2 (sT _ _ hA) (hd.mono (tp_same sT)) (tn d d' (.ref T) _ (List.mem_of_getElem? hz) s2 (.tup (.of upd_same) (.cons (hu.mono (tp_same s2)) (.cons (hw.mono (tp_same s2)) .nil))))
    refine RG.mono (fun σ2 H2 z => ⟨z.1, RTs.mono (fun b H3 z => ?_) z.2⟩) T1
    have st := zp_step (g := fun p : PyData × PyData => g p.1 p.2) hz
    cases b with
    | true => exact RE.mono (fun y H4 z => ⟨acc, z.1, Nat.lt_of_le_of_lt lacc (Nat.lt_of_lt_of_le i1 (Nat.le_trans (show xs.length ≤ 1000 by omega) (by decide))), acc ++ [y], by rw [List.length_append, List.length_singleton]; omega, z.2.1, z.2.2.1, by rw [← st]; exact z.2.2.2⟩) z
    | false => exact ⟨acc, by omega, z.1, z.2.1, by rw [← st]; exact z.2.2⟩
  · have e : i = (ds.zip es).length := by omega
    subst e
    refine .inl ⟨⟨xs, ys, sa', sb', by omega⟩, k D acc H' s hD hA ?_⟩
    rw [List.take_of_length_le (Nat.le_refl _)] at hd
    exact hd
end
section
variable {c : Cd} {σ : L2.St} {H : Hp} {Q : VK} {pos : Pos}
theorem rep_dts {K : PySem.W.Frag} {xs : List V} {ds : List PyData} (h : DtAll K H xs ds) : ∀ n : Nat, DtAll K H (List.replicate n xs).flatten (List.replicate n ds).flatten
  | 0 => .nil
  | n + 1 => by rw [List.replicate_succ, List.replicate_succ, List.flatten_cons, List.flatten_cons]; exact h.app (rep_dts h n)
/-- t * n of a tuple -/
theorem ro_repT {x : V} {ds : List PyData} {k : Nat} (h : Dt c.K H x (.tuple ds)) (hne : ds ≠ []) (hk : 1 ≤ k ∧ k ≤ 1000) (hl : ds.length ≤ 1000) (q : ∀ v H2, Same H H2 → Dt c.K H2 v (.tuple (List.replicate k ds).flatten) → Q v H2) : RO c .Mult x (.int k) H Q := by
  by_cases h1 : k = 1
  · subst h1
    obtain ⟨a, xs, rfl, ht, hd⟩ := h.tupE
    refine ro_of (r := rRepOne c.K) (fun X h => by rw [← h.K]; exact op_repOne) ⟨a, xs, rfl, rfl, ht, q _ _ (Same.refl _) ?_⟩
    have e : (List.replicate 1 ds).flatten = ds := by simp
    rw [e]
    exact .tup ht hd
  · obtain ⟨a, xs, rfl, ht, hd⟩ := h.tupE
    have ln := hd.len
    refine ro_of (r := rRepT c.K) (fun X h => by rw [← h.K]; exact op_repT) ⟨a, k, xs, rfl, rfl, ht, fun e => hne ?_, by omega, by omega, by omega, fun p hp => q _ _ (same_new hp) ?_⟩
    · rw [e] at ln
      exact List.eq_nil_of_length_eq_zero ln.symm
    · rw [Int.toNat_natCast]
      exact .tup (.of upd_same) (rep_dts (hd.mono (tp_same (same_new hp))) k)
theorem g_unp4 {R : L2.St → Hp → Prop} {i j l m : Nat} {x y z u : Str} {px py pz pu pt : Pos} {kt : Nat} {v : V} {d1 d2 d3 d4 : PyData} (hi : At c.N i x) (hj : At c.N j y) (hl : At c.N l z) (hm : At c.N m u) (hv : Dt c.K H v (.tuple [d1, d2, d3, d4])) (q : ∀ v1 v2 v3 v4, Dt c.K H v1 d1 → Dt c.K H v2 d2 → Dt c.K H v3 d3 → Dt c.K H v4 d4 → R ((((σ.set i (some v1)).set j (some v2)).set l (some v3)).set m (some v4)) H)
    (hx : c.sc.names.lookup x = some .local ∨ (c.sc.names.lookup x = some .cell ∧ c.top = true) := by first | exact Or.inl rfl | exact Or.inr ⟨rfl, rfl⟩) (hy : c.sc.names.lookup y = some .local ∨ (c.sc.names.lookup y = some .cell ∧ c.top = true) := by first | exact Or.inl rfl | exact Or.inr ⟨rfl, rfl⟩) (hz : c.sc.names.lookup z = some .local ∨ (c.sc.names.lookup z = some .cell ∧ c.top = true) := by first | exact Or.inl rfl | exact Or.inr ⟨rfl, rfl⟩) (hu : c.sc.names.lookup u = some .local ∨ (c.sc.names.lookup u = some .cell ∧ c.top = true) := by first | exact Or.inl rfl | exact Or.inr ⟨rfl, rfl⟩)
    (hst : ∀ env, (assignEach [.Name x px, .Name y py, .Name z pz, .Name u pu] env).findIdx? (·.1) = none := by intro _; rfl) : RG c (.Tuple [.Name x px, .Name y py, .Name z pz, .Name u pu] kt pt) v σ H R := by
  obtain ⟨a, xs, rfl, ht, hd⟩ := hv.tupE
  obtain _ | ⟨h1, hd⟩ := hd
  obtain _ | ⟨h2, hd⟩ := hd
  obtain _ | ⟨h3, hd⟩ := hd
  obtain _ | ⟨h4, hd⟩ := hd
  cases hd
  exact g_tup ht (gs_cons (g_name hi (gs_cons (g_name hj (gs_cons (g_name hl (gs_cons (g_name hm (gs_nil (q _ _ _ _ h1 h2 h3 h4)) hu)) hz)) hy)) hx)) rfl (fun _ => rfl) hst
end
end G
namespace K
open PySem PySem.Spec PyProof.Rows L2 G
variable {M : Md}
theorem ok_valueIn (n : Nat) {f fd} (F : Fun M.K "value_in" "value_in" s_value_in f fd) (b : Bl M) (de : dcEv M n) : FnG M.prog M.w M.K M.mg M.base CX0 (2 * n + 5) f fd ["cells", "state", "expression"] (spF (rVal n) M.K) := by
  refine fn_ok F sc_value_in (fun vs H Q E h => ?_) (fun H vs Q E h => ?_)
  · obtain ⟨ds, d, h, ⟨rs, st, e, rfl, _⟩, _⟩ := h
    exact h.len
  obtain ⟨ds, d, h, ⟨rs, st, e, rfl, hi, rfl⟩, k⟩ := h
  obtain _ | ⟨hc, h⟩ := h
  obtain _ | ⟨hst, h⟩ := h
  obtain _ | ⟨he, h⟩ := h
  cases h
  refine b_cons (s_asg ?_)
  refine e_callF de ?_ (Nat.le_refl _)
  tm_at "go"
  refine ⟨_, _, .cons hc (.cons hst (.cons he .nil)), ⟨rs, st, e, rfl, hi, rfl⟩, fun v H1 s1 hv => ?_⟩
  refine g_unp2 (by tm_at "at") (by tm_at "at") hv fun v1 v2 h1 h2 => ?_
  tm_at "go"
  exact k _ _ s1 h1
/-! ### the starts, listed -/
structure Pc where
  rs : List Row
  a : PyData
  b : PyData
  g : Ex
def Pc.d (p : Pc) : PyData := .tuple [cellsD p.rs, p.a, p.b, p.g.d]
structure PcOk (p : Pc) : Prop where
  all : RowsAll p.rs
  ini : IniOk p.rs
  fit : Fit p.rs p.g
  dep : p.g.dep ≤ 2
theorem PcOk.ev {p : Pc} (P : PcOk p) {st : St1} (h : st ∈ statesOf (rg p.rs)) : EvIn p.rs st p.g 2 := ⟨stok_of P.all h, P.fit, P.dep, (Nat.le_of_ble_eq_true rfl)⟩
abbrev dcVal2 (M : Md) : Prop := Dc M "value_in" ["cells", "state", "expression"] 9 (spF (rVal 2) M.K)
def rStl : List PyData → List St1 → Prop := fun ds es => ∃ p : Pc, ds = [p.d] ∧ PcOk p ∧ es = startsOf p.rs p.g
abbrev dcStl (M : Md) : Prop := Dc M "start_list" ["program"] 10 (spLR TI rStl M.K)
theorem fm_filter {α : Type} (p : α → Bool) (l : List α) : l.filterMap (fun a => if p a = true then some a else none) = l.filter p := by
  induction l with
  | nil => rfl
  | cons a l ih =>
    rw [List.filterMap_cons, List.filter_cons]
    by_cases h : p a = true
    · rw [if_pos h, if_pos h, ih]
    · rw [if_neg h, if_neg h, ih]
theorem dt_ints {K : PySem.W.Frag} {H : Hp} : ∀ ns : List Int, DtAll K H (ns.map V.int) (ns.map .int)
  | [] => .nil
  | n :: ns => .cons (.int n) (dt_ints ns)
theorem ti_d {K : PySem.W.Frag} {H : Hp} {v : V} {st : St1} (h : TI H v st) : Dt K H v (stD st) := by
  obtain ⟨a, rfl, g⟩ := h
  exact .tup (.of g) (dt_ints st)
theorem ok_stl {f fd} (F : Fun M.K "start_list" "start_list" s_start_list f fd) (b : Bl M) (ds : dcSfi M) (dv : dcVal2 M) : FnG M.prog M.w M.K M.mg M.base CX0 10 f fd ["program"] (spLR TI rStl M.K) := by
  refine fn_ok F sc_start_list (fun vs H Q E h => ?_) (fun H vs Q E h => ?_)
  · obtain ⟨ds, d, h, ⟨p, rfl, _⟩, _⟩ := h
    exact h.len
  obtain ⟨ds0, d, h, ⟨p, rfl, P, rfl⟩, k⟩ := h
  obtain _ | ⟨hp, h⟩ := h
  cases h
  rename_i vp
  refine b_cons (s_asg (e_var (by tm_at "at") ?_))
  refine g_unp4 (by tm_at "at") (by tm_at "at") (by tm_at "at") (by tm_at "at") (show Dt _ _ vp (.tuple [cellsD p.rs, p.a, p.b, p.g.d]) from hp) fun v1 v2 v3 v4 h1 h2 h3 h4 => ?_
  refine b_one (s_ret ?_)
  refine e_lc (own := [("state", 4)]) (Blk.of (N := N_start_list) (sc := defScope s_start_list) rfl rfl (by decide +kernel)) ?_
  refine lcL_R kTI kTI (fun st => if decide ((ev p.rs st p.g).1 ≠ some 0) = true then some st else none) ?_
  refine e_callR ds (a_cons (e_var (by tm_at "at") (a_nil ?_)))
  refine ⟨_, _, .cons (show Dt _ _ vp (.tuple (cellsD p.rs :: [p.a, p.b, p.g.d])) from hp) .nil, ⟨p.rs, _, rfl, P.all.sm, P.ini, rfl⟩, fun l us H1 s1 n1 g1 hu => ?_⟩
  have lm : (statesOf (fx p.rs)).length ≤ 256 := by rw [states_len]; exact many_fx P.all.sm P.ini
  refine ⟨l, us, _, rfl, .of g1, hu, by omega, fun st x H' hm s2 hx => ?_, fun l2 u2 H2 s2 n2 g2 h2' => ?_⟩
  · refine g_name (by tm_at "at") ⟨rfl, rfl, ts_one ?_⟩
    have hin : st ∈ statesOf (rg p.rs) := by
      rw [sts_nar (fx_nar P.ini)] at hm
      exact (List.mem_filter.mp hm).1
    refine t_cmp ?_
    refine e_callF dv ?_
    tm_at "go"
    refine ⟨_, _, .cons (h1.mono (tp_same (s1.trans s2))) (.cons (ti_d hx) (.cons (h4.mono (tp_same (s1.trans s2))) .nil)), ⟨p.rs, st, p.g, rfl, P.ev hin, rfl⟩, fun v5 H5 s5 h5 => ?_⟩
    tm_at "go"
    have hx5 := kTI.k (tp_same s5) hx
    rcases optN h5 with ⟨eo, rfl⟩ | ⟨i, eo, rfl⟩
    · refine ro_ne rfl ?_
      refine ⟨_, rfl, s5, ?_⟩
      rw [eo]
      tm_at "go"
      exact ⟨Same.refl _, _, rfl, hx5⟩
    · tm_at "go"
      refine ⟨s5, ifb (fun c => ?_) (fun c => ?_)⟩
      · tm_at "go"
        refine ⟨Same.refl _, _, ?_, hx5⟩
        rw [eo, if_pos (by simpa using c)]
      · rw [eo, if_neg (by simpa using c)]
  · rw [fm_filter, ← starts_fx P.ini] at h2'
    exact k _ _ _ (s1.trans s2) (same_none s1 n2) g2 h2'
/-! ### generators of them -/
def spGen (W : List PyData → List St1 → Prop) (K : PySem.W.Frag) : SpG := fun vs H Q _ => ∃ (v : V) (d : PyData) (es : List St1), vs = [v] ∧ Dt K H v d ∧ W [d] es ∧ es.length ≤ 256 ∧ ∀ out H', Same H H' → RAll TI H' out es → Q out H'
theorem gsc_starts_of : GScope N_starts_of ["program"] (defScope s_starts_of) := ⟨rfl, rfl, rfl, by decide +kernel, rfl, by decide +kernel, by decide +kernel⟩
theorem ok_starts_ofG {f fd} (F : Fun M.K "starts_of" "starts_of" s_starts_of f fd) (b : Bl M) (ds : dcStl M) : GFn M.prog M.w M.K M.mg M.base 11 f fd ["program"] (spGen rStl M.K) := by
  refine gfn_walk F gsc_starts_of (fun vs H Q E h => ?_) rfl (by intro _ _; rfl) (fun env he => ?_) (fun H vs Q E h => ?_)
  · obtain ⟨v, d, es, rfl, _⟩ := h
    rfl
  · unfold interactive
    rw [he]
    rfl
  obtain ⟨v, d, es, rfl, hv, hw, cnt, k⟩ := h
  refine i_list ?_
  refine e_callR ds ?_
  refine a_cons (e_var (by tm_at "at") (a_nil ?_))
  refine ⟨_, _, .cons hv .nil, hw, fun l us H1 s1 n1 g1 h1 => ?_⟩
  have lu := h1.len
  refine ⟨l, rfl, ⟨us, .of g1⟩, fun i m ys σ H2 => m = us.length - i ∧ i ≤ us.length ∧ (∃ v1, σ = [some v, v1]) ∧ H2 = H1 ∧ ys = us.take i, ⟨us.length, by simp, Nat.zero_le _, ⟨_, rfl⟩, rfl, rfl⟩, ?_⟩
  rintro i m ys σ H2 ⟨rfl, hi, ⟨v1, rfl⟩, rfl, rfl⟩
  by_cases hlt : i < us.length
  · refine .inr ⟨⟨us, us[i], .of g1, by simp [hlt]⟩, fun ys' σ' H' => (∃ v1, σ' = [some v, v1]) ∧ H' = H2 ∧ ys' = us.take (i + 1), fun ys' σ' H' ⟨z1, z2, z3⟩ => ⟨us.length - (i + 1), by omega, rfl, hlt, z1, z2, z3⟩, ?_⟩
    rintro x H3 ⟨e0, yy⟩
    subst e0
    have e := yy us (.of g1)
    rw [List.getElem?_eq_getElem hlt] at e
    cases e
    refine g_name (by tm_at "at") ⟨?_, ?_⟩
    · rw [List.length_take]
      exact Nat.lt_of_le_of_lt (show min i us.length ≤ 256 by omega) (by decide)
    · refine e_var (by tm_at "at") ?_
      exact ⟨⟨_, rfl⟩, rfl, by rw [List.take_succ_eq_append_getElem hlt]⟩
  · have e : i = us.length := by omega
    subst e
    refine .inl ⟨⟨us, .of g1, Nat.le_refl _⟩, k _ _ s1 ?_⟩
    rw [List.take_length]
    exact h1
theorem gsc_allS : GScope N_all_states ["program"] (defScope s_all_states) := ⟨rfl, rfl, rfl, by decide +kernel, rfl, by decide +kernel, by decide +kernel⟩
theorem ok_all_statesG {f fd} (F : Fun M.K "all_states" "all_states" s_all_states f fd) (b : Bl M) (ds : dcSl M) : GFn M.prog M.w M.K M.mg M.base 4 f fd ["program"] (spGen rSlist M.K) := by
  refine gfn_walk F gsc_allS (fun vs H Q E h => ?_) rfl (by intro _ _; rfl) (fun env he => ?_) (fun H vs Q E h => ?_)
  · obtain ⟨v, d, es, rfl, _⟩ := h
    rfl
  · unfold interactive
    rw [he]
    rfl
  obtain ⟨v, d, es, rfl, hv, hw, cnt, k⟩ := h
  refine i_list ?_
  refine e_callR ds ?_
  refine a_cons (e_var (by tm_at "at") (a_nil ?_))
  refine ⟨_, _, .cons hv .nil, hw, fun l us H1 s1 n1 g1 h1 => ?_⟩
  have lu := h1.len
  refine ⟨l, rfl, ⟨us, .of g1⟩, fun i m ys σ H2 => m = us.length - i ∧ i ≤ us.length ∧ (∃ v1, σ = [some v, v1]) ∧ H2 = H1 ∧ ys = us.take i, ⟨us.length, by simp, Nat.zero_le _, ⟨_, rfl⟩, rfl, rfl⟩, ?_⟩
  rintro i m ys σ H2 ⟨rfl, hi, ⟨v1, rfl⟩, rfl, rfl⟩
  by_cases hlt : i < us.length
  · refine .inr ⟨⟨us, us[i], .of g1, by simp [hlt]⟩, fun ys' σ' H' => (∃ v1, σ' = [some v, v1]) ∧ H' = H2 ∧ ys' = us.take (i + 1), fun ys' σ' H' ⟨z1, z2, z3⟩ => ⟨us.length - (i + 1), by omega, rfl, hlt, z1, z2, z3⟩, ?_⟩
    rintro x H3 ⟨e0, yy⟩
    subst e0
    have e := yy us (.of g1)
    rw [List.getElem?_eq_getElem hlt] at e
    cases e
    refine g_name (by tm_at "at") ⟨?_, ?_⟩
    · rw [List.length_take]
      exact Nat.lt_of_le_of_lt (show min i us.length ≤ 256 by omega) (by decide)
    · refine e_var (by tm_at "at") ?_
      exact ⟨⟨_, rfl⟩, rfl, by rw [List.take_succ_eq_append_getElem hlt]⟩
  · have e : i = us.length := by omega
    subst e
    refine .inl ⟨⟨us, .of g1, Nat.le_refl _⟩, k _ _ s1 ?_⟩
    rw [List.take_length]
    exact h1
/-! ### is it a start -/
def rP (p : PyData → Bool) : List PyData → PyData → Prop := fun ds d => ∃ x, ds = [x] ∧ d = .bool (p x)
theorem ok_isintP {f fd} (F : Fun M.K "is_integer" "is_integer" s_is_integer f fd) (b : Bl M) : FnG M.prog M.w M.K M.mg M.base CX0 1 f fd ["thing"] (spF (rP isInt) M.K) := by
  refine fn_ok F sc_is_integer (fun vs H Q E h => ?_) (fun H vs Q E h => ?_)
  · obtain ⟨ds, d, h, ⟨x, rfl, _⟩, _⟩ := h
    exact h.len
  obtain ⟨ds, d, h, ⟨x, rfl, rfl⟩, k⟩ := h
  obtain _ | ⟨hx, h⟩ := h
  cases h
  tm_at "go"
  refine rc_isInt hx ?_
  refine ⟨_, rfl, ifb (fun e => ?_) (fun e => ?_)⟩
  · tm_at "go"
    refine rc_isBool hx ?_
    refine ⟨_, rfl, ?_⟩
    have e2 : (!isBool x) = isInt x := by cases x <;> first | rfl | cases e
    rw [e2]
    exact k _ _ (Same.refl _) (.bl _)
  · have e2 : false = isInt x := by cases x <;> first | rfl | cases e
    have := k (.bl (isInt x)) H (Same.refl _) (.bl _)
    rw [← e2] at this
    exact this
def inW (x : PyData) (p : Rng) : Bool := match x with
  | .int v => decide (p.1 ≤ v ∧ v ≤ p.2)
  | _ => false
def rWi : List PyData → PyData → Prop := fun ds d => ∃ (x : PyData) (p : Rng), ds = [x, .int p.1, .int p.2] ∧ d = .bool (inW x p)
abbrev dcWi (M : Md) : Prop := Dc M "_is_within" ["value", "low", "high"] 2 (spF rWi M.K)
theorem ok_within {f fd} (F : Fun M.K "_is_within" "_is_within" s__is_within f fd) (b : Bl M) (di : Dc M "is_integer" ["thing"] 1 (spF (rP isInt) M.K)) : FnG M.prog M.w M.K M.mg M.base CX0 2 f fd ["value", "low", "high"] (spF rWi M.K) := by
  refine fn_ok F sc__is_within (fun vs H Q E h => ?_) (fun H vs Q E h => ?_)
  · obtain ⟨ds, d, h, ⟨x, p, rfl, _⟩, _⟩ := h
    exact h.len
  obtain ⟨ds, d, h, ⟨x, p, rfl, rfl⟩, k⟩ := h
  obtain _ | ⟨hx, h⟩ := h
  obtain _ | ⟨h1, h⟩ := h
  obtain _ | ⟨h2, h⟩ := h
  cases h
  cases h1
  cases h2
  tm_at "go"
  refine e_callF di ?_
  tm_at "go"
  refine ⟨_, _, .cons hx .nil, ⟨x, rfl, rfl⟩, fun v1 H1 s1 hv1 => ?_⟩
  cases hv1
  tm_at "go"
  have no : isInt x = false → inW x p = false := fun z => by cases x <;> first | rfl | cases z
  refine ifb (fun c1 => ?_) (fun c1 => ?_)
  · cases x with
    | int v =>
      cases hx
      tm_at "go"
      refine ifd (fun c2 => ?_) (fun c2 => ?_)
      · tm_at "go"
        refine k _ _ s1 ?_
        have e : inW (.int v) p = decide (v ≤ p.2) := decide_eq_decide.mpr ⟨fun y => y.2, fun y => ⟨c2, y⟩⟩
        rw [e]
        exact .bl _
      · refine k _ _ s1 ?_
        have e : inW (.int v) p = false := decide_eq_false fun y : p.1 ≤ v ∧ v ≤ p.2 => c2 y.1
        rw [e]
        exact .bl _
    | _ => cases c1
  · refine k _ _ s1 ?_
    rw [no c1]
    exact .bl _
def isSt (rs : List Row) : PyData → Bool
  | .tuple ds => decide (ds.length = total rs) && (ds.zip (rg rs)).all fun p => inW p.1 p.2
  | _ => false
theorem isSt_iff {rs : List Row} {x : PyData} : isSt rs x = true ↔ ∃ st, x = stD st ∧ st ∈ statesOf (rg rs) := by
  constructor
  · intro h
    cases x with
    | tuple ds =>
      unfold isSt at h
      rw [Bool.and_eq_true, decide_eq_true_eq, ← rg_len] at h
      have key : ∀ (ps : List Rng) (ds : List PyData), ds.length = ps.length → (ds.zip ps).all (fun p => inW p.1 p.2) = true → ∃ st : St1, ds = st.map PyData.int ∧ inRg ps st = true := by
        intro ps
        induction ps with
        | nil =>
          intro ds hl _
          cases ds with
          | nil => exact ⟨[], rfl, rfl⟩
          | cons => cases hl
        | cons p ps ih =>
          intro ds hl ha
          cases ds with
          | nil => cases hl
          | cons d ds =>
            rw [List.zip_cons_cons, List.all_cons, Bool.and_eq_true] at ha
            obtain ⟨st, rfl, h2⟩ := ih ds (by simpa using hl) ha.2
            have h1 : inW d p = true := ha.1
            cases d with
            | int v => exact ⟨v :: st, rfl, by rw [inRg, h2, Bool.and_true]; exact h1⟩
            | _ => cases h1
      obtain ⟨st, rfl, h2⟩ := key _ _ h.1 h.2
      exact ⟨st, rfl, sts_iff.mpr h2⟩
    | _ => cases h
  · rintro ⟨st, rfl, h⟩
    have h := sts_iff.mp h
    have key : ∀ (ps : List Rng) (st : St1), inRg ps st = true → ((st.map PyData.int).zip ps).all (fun p => inW p.1 p.2) = true := by
      intro ps
      induction ps with
      | nil => intro st _; rw [List.zip_nil_right]; rfl
      | cons p ps ih =>
        intro st hs
        cases st with
        | nil => rfl
        | cons v st =>
          rw [inRg, Bool.and_eq_true] at hs
          rw [List.map_cons, List.zip_cons_cons, List.all_cons, ih st hs.2, Bool.and_true]
          exact hs.1
    show (decide ((st.map PyData.int).length = total rs) && _) = true
    rw [Bool.and_eq_true, decide_eq_true_eq, List.length_map, ← rg_len]
    exact ⟨(inRg_iff.mp h).1, key _ _ h⟩
def rIst : List PyData → PyData → Prop := fun ds d => ∃ (rs : List Row) (x : PyData), ds = [cellsD rs, x] ∧ Small rs ∧ d = .bool (isSt rs x)
abbrev dcIst (M : Md) : Prop := Dc M "_is_state" ["cells", "thing"] 3 (spF rIst M.K)
theorem all_map_bool {α : Type} (g : α → Bool) (l : List α) : l.filterMap (fun a => some (PyData.bool (g a))) = (l.map g).map .bool := by
  induction l with
  | nil => rfl
  | cons a l ih => rw [List.filterMap_cons, List.map_cons, List.map_cons, ← ih]
theorem ok_isstate {f fd} (F : Fun M.K "_is_state" "_is_state" s__is_state f fd) (b : Bl M) (hz : M.mg "zip" = none) (ha : M.mg "all" = none) (dr : dcRngs M) (dw : dcWi M) : FnG M.prog M.w M.K M.mg M.base CX0 3 f fd ["cells", "thing"] (spF rIst M.K) := by
  refine fn_ok F sc__is_state (fun vs H Q E h => ?_) (fun H vs Q E h => ?_)
  · obtain ⟨ds, d, h, ⟨rs, x, rfl, _⟩, _⟩ := h
    exact h.len
  obtain ⟨ds, d, h, ⟨rs, x, rfl, sm, rfl⟩, k⟩ := h
  obtain _ | ⟨hc, h⟩ := h
  obtain _ | ⟨hx, h⟩ := h
  cases h
  rename_i vc vx
  refine b_cut (fun σ1 H1 => ∃ v2, σ1 = [some vc, some vx, some v2, none, none, none] ∧ Same H H1 ∧ Dt M.K H1 v2 (.tuple ((rg rs).map rngD))) ?_ ?_
  · refine s_set (by tm_at "at") ?_
    refine e_callF dr ?_
    tm_at "go"
    refine ⟨_, _, .cons hc .nil, ⟨rs, rfl, Nat.le_trans sm.tot (by decide), rfl⟩, fun v2 H2 s2 h2 => ?_⟩
    rw [rngs_eq] at h2
    exact ⟨v2, rfl, s2, h2⟩
  rintro _ H1 ⟨v2, rfl, s1, h2⟩
  have hx1 := hx.mono (tp_same s1)
  refine b_cut (fun σ1 H2 => H1 = H2 ∧ σ1 = [some vc, some vx, some v2, none, none, none] ∧ ∃ ds, x = .tuple ds ∧ ds.length = total rs) ?_ ?_
  · refine s_if (t_w (e := .BoolOp _ _ _) (w_or ?_))
    tm_at "go"
    refine t_val ?_
    tm_at "go"
    refine rc_isTup hx1 ?_
    refine ⟨_, rfl, ?_⟩
    cases x with
    | tuple ds =>
      tm_at "go"
      refine rc_lenT hx1 ?_
      tm_at "go"
      refine rc_lenT h2 ?_
      tm_at "go"
      rw [List.length_map, rg_len]
      refine ifnd (fun c1 => ?_) (fun c1 => ?_)
      · tm_at "go"
        refine k _ _ s1 ?_
        have e : isSt rs (.tuple ds) = false := by
          show (decide (ds.length = total rs) && _) = false
          rw [decide_eq_false (by omega), Bool.false_and]
        rw [e]
        exact .bl _
      · tm_at "go"
        exact ⟨rfl, rfl, ds, rfl, by omega⟩
    | _ =>
      tm_at "go"
      exact k _ _ s1 (.bl false)
  rintro _ _ ⟨rfl, rfl, ds, rfl, hl⟩
  refine b_one (s_ret ?_)
  refine e_callB (id := "all") ha (by decide +kernel) ?_
  refine a_cons ?_
  refine e_lc (own := [("value", 3), ("low", 4), ("high", 5)]) (Blk.of (N := N__is_state) (sc := defScope s__is_state) rfl rfl (by decide +kernel)) ?_
  refine lcZ_F (fun a q => match q with | .tuple [.int lo, .int hi] => some (.bool (inW a (lo, hi))) | _ => none) hz ?_
  tm_at "go"
  refine ⟨_, _, _, _, rfl, hx1, h2, by rw [hl]; exact Nat.le_trans sm.tot (by decide), fun d d' v H' hm s3 hv => ?_, fun p us H3 s3 n3 g3 h3 => ?_⟩
  · obtain ⟨_, m2⟩ := List.of_mem_zip hm
    obtain ⟨q, _, rfl⟩ := List.mem_map.mp m2
    obtain ⟨a, xs, rfl, ht, hd⟩ := hv.tupE
    obtain _ | ⟨e1, hd⟩ := hd
    obtain _ | ⟨e2, hd⟩ := hd
    cases hd
    refine g_tup ht (gs_cons (g_name (by tm_at "at") (gs_cons (g_unp2 (d1 := .int q.1) (d2 := .int q.2) (by tm_at "at") (by tm_at "at") e2 fun va vb ha' hb => gs_nil ?_))))
    refine ⟨rfl, rfl, ts_nil ⟨Same.refl _, ift ?_⟩⟩
    tm_at "go"
    refine e_callF dw ?_
    tm_at "go"
    refine ⟨_, _, .cons e1 (.cons ha' (.cons hb .nil)), ⟨d, q, rfl, rfl⟩, fun v5 H5 s5 h5 => ?_⟩
    exact ⟨s5, _, rfl, h5⟩
  · tm_at "go"
    have e : (ds.zip ((rg rs).map rngD)).filterMap (fun p => match p.2 with | .tuple [.int lo, .int hi] => some (PyData.bool (inW p.1 (lo, hi))) | _ => none) = ((ds.zip (rg rs)).map fun p => inW p.1 p.2).map .bool := by
      rw [List.zip_map_right, List.filterMap_map, ← all_map_bool]
      rfl
    have h4 := dtBools_eq (e ▸ h3)
    rw [h4] at g3
    refine rc_all (.of g3) ?_
    refine k _ _ (s1.trans s3) ?_
    have e2 : isSt rs (.tuple ds) = ((ds.zip (rg rs)).map fun p => inW p.1 p.2).all id := by
      show (decide (ds.length = total rs) && (ds.zip (rg rs)).all fun p => inW p.1 p.2) = _
      rw [decide_eq_true hl, Bool.true_and, List.all_map]
      rfl
    rw [e2]
    exact .bl _
def rFv : List PyData → PyData → Prop := fun ds d => ∃ r : Row, ds = [rowD r] ∧ width r ≤ 500 ∧ d = stD (List.replicate (width r) r.2.2.2.2.2.2)
abbrev dcFv (M : Md) : Prop := Dc M "_first_values" ["row"] 2 (spF rFv M.K)
theorem ok_firstv {f fd} (F : Fun M.K "_first_values" "_first_values" s__first_values f fd) (b : Bl M) (dw : Dc M "row_width" ["row"] 1 (spF rWidth M.K)) : FnG M.prog M.w M.K M.mg M.base CX0 2 f fd ["row"] (spF rFv M.K) := by
  refine fn_ok F sc__first_values (fun vs H Q E h => ?_) (fun H vs Q E h => ?_)
  · obtain ⟨ds, d, h, ⟨r, rfl, _⟩, _⟩ := h
    exact h.len
  obtain ⟨ds, d, h, ⟨r, rfl, hw, rfl⟩, k⟩ := h
  obtain _ | ⟨hr, h⟩ := h
  cases h
  refine b_one (s_ret (e_bin ?_))
  refine e_tupD ?_
  tm_at "go"
  refine tupend (ds := [.int r.2.2.2.2.2.2]) (by tm_at "dts") (Nat.le_of_ble_eq_true rfl) fun v1 H1 s1 h1 => ?_
  refine e_callF dw ?_
  tm_at "go"
  refine ⟨_, _, .cons (hr.mono (tp_same s1)) .nil, ⟨r, rfl, rfl⟩, fun v2 H2 s2 h2 => ?_⟩
  cases h2
  have w1 : 1 ≤ width r := Nat.le_max_left _ _
  refine ro_repT (h1.mono (tp_same s2)) (by intro e; cases e) ⟨w1, by omega⟩ (Nat.le_of_ble_eq_true rfl) fun v3 H3 s3 h3 => ?_
  refine k _ _ (s1.trans (s2.trans s3)) ?_
  have e : (List.replicate (width r) [PyData.int r.2.2.2.2.2.2]).flatten = (List.replicate (width r) r.2.2.2.2.2.2).map .int := by
    rw [List.map_replicate]
    induction width r with
    | zero => rfl
    | succ n ih => rw [List.replicate_succ, List.replicate_succ, List.flatten_cons, ih]; rfl
  rw [e] at h3
  exact h3
end K

namespace K
open PySem PySem.Spec PyProof.Rows L2 G
variable {M : Md}
/-! ### is it a start -/
def stI : PyData → St1
  | .tuple ds => ds.map fun d => match d with | .int v => v | _ => 0
  | _ => []
theorem stI_st (st : St1) : stI (stD st) = st := by
  show (st.map PyData.int).map _ = st
  rw [List.map_map]
  exact List.map_id st
def isGood (p : Pc) (x : PyData) : Bool := isSt p.rs x && good p.rs p.g (stI x)
theorem isGood_iff {p : Pc} {x : PyData} : isGood p x = true ↔ ∃ st, x = stD st ∧ st ∈ startsOf p.rs p.g := by
  unfold isGood
  rw [Bool.and_eq_true, isSt_iff]
  constructor
  · rintro ⟨⟨st, rfl, h⟩, h2⟩
    rw [stI_st] at h2
    exact ⟨st, rfl, List.mem_filter.mpr ⟨h, h2⟩⟩
  · rintro ⟨st, rfl, h⟩
    have := List.mem_filter.mp h
    exact ⟨⟨st, rfl, this.1⟩, by rw [stI_st]; exact this.2⟩
theorem px_snoc {rs : List Row} {i : Nat} {r : Row} (h : rs[i]? = some r) : px (rs.take (i + 1)) = px (rs.take i) ++ List.replicate (width r) r := by
  obtain ⟨h1, rfl⟩ := List.getElem?_eq_some_iff.mp h
  rw [List.take_succ_eq_append_getElem h1, px, List.flatMap_append]
  congr 1
  simp
theorem tot_snoc {rs : List Row} {i : Nat} {r : Row} (h : rs[i]? = some r) : total (rs.take (i + 1)) = total (rs.take i) + width r := by
  rw [← px_len, px_snoc h, List.length_append, List.length_replicate, px_len]
theorem px_pre (rs : List Row) (i : Nat) : px rs = px (rs.take i) ++ px (rs.drop i) := by
  conv => lhs; rw [← List.take_append_drop i rs]
  unfold px
  rw [List.flatMap_append]
theorem px_in {rs : List Row} {i : Nat} {r : Row} (h : rs[i]? = some r) {j : Nat} (h1 : total (rs.take i) ≤ j) (h2 : j < total (rs.take i) + width r) : (px rs)[j]? = some r := by
  rw [px_pre rs (i + 1), List.getElem?_append_left (by rw [px_len, tot_snoc h]; exact h2), px_snoc h, List.getElem?_append_right (by rw [px_len]; exact h1), px_len, List.getElem?_replicate, if_pos (by omega)]
/-- the places before the row i are as a start asks -/
def UpTo (rs : List Row) (st : St1) (n : Nat) : Prop := ∀ (j : Nat) (r : Row) (v : Int), j < n → (px rs)[j]? = some r → st[j]? = some v → okP r v
theorem upTo_zero {rs : List Row} {st : St1} : UpTo rs st 0 := fun _ _ _ h => absurd h (Nat.not_lt_zero _)
theorem upTo_step {rs : List Row} {st : St1} {i : Nat} {r : Row} (h : rs[i]? = some r) : UpTo rs st (total (rs.take (i + 1))) ↔ UpTo rs st (total (rs.take i)) ∧ ∀ (j : Nat) (v : Int), total (rs.take i) ≤ j → j < total (rs.take i) + width r → st[j]? = some v → okP r v := by
  rw [tot_snoc h]
  constructor
  · intro u
    exact ⟨fun j q v hj hq hv => u j q v (by omega) hq hv, fun j v h1 h2 hv => u j r v h2 (px_in h h1 h2) hv⟩
  · rintro ⟨u1, u2⟩ j q v hj hq hv
    by_cases hb : j < total (rs.take i)
    · exact u1 j q v hb hq hv
    · rw [px_in h (by omega) hj] at hq
      cases hq
      exact u2 j v (by omega) hj hv
theorem upTo_all {rs : List Row} {st : St1} (h : st ∈ statesOf (rg rs)) : UpTo rs st (total rs) ↔ inRg (fx rs) st = true := by
  rw [fx_iff h]
  constructor
  · intro u i r v hr hv
    exact u i r v (by have := (List.getElem?_eq_some_iff.mp hr).1; rw [px_len] at this; exact this) hr hv
  · intro u j r v _ hr hv
    exact u j r v hr hv
theorem tot_le {rs : List Row} {i : Nat} {r : Row} (h : rs[i]? = some r) : total (rs.take i) + width r ≤ total rs := by
  rw [← tot_snoc h]
  exact total_take rs (i + 1)
theorem cut_st {st : St1} {b w : Nat} (h : b + w ≤ st.length) : G.cutD (st.map PyData.int) (some (b : Int)) (some ((b : Int) + (w : Int))) = ((st.drop b).take w).map .int := by
  unfold G.cutD
  rw [← Int.natCast_add, HT.sIx_nat, HT.sIx_nat, List.length_map, Nat.min_eq_left (show b + w ≤ st.length from h), Nat.min_eq_left (show b ≤ st.length by omega), Nat.add_sub_cancel_left, ← List.map_drop, ← List.map_take]
theorem eqv_ints : ∀ a b : List Int, PyData.eqvAll (a.map .int) (b.map .int) = decide (a = b)
  | [], [] => by simp [PyData.eqvAll]
  | [], _ :: _ => by simp [PyData.eqvAll]
  | _ :: _, [] => by simp [PyData.eqvAll]
  | x :: a, y :: b => by
    show (PyData.eqv (.int x) (.int y) && PyData.eqvAll (a.map .int) (b.map .int)) = _
    rw [eqv_ints a b]
    have e : PyData.eqv (.int x) (.int y) = decide (x = y) := by simp only [PyData.eqv]; exact (Bool.beq_eq_decide_eq x y)
    rw [e, ← Bool.decide_and]
    exact decide_eq_decide.mpr (by rw [List.cons.injEq])
theorem eqv_st (a b : St1) : PyData.eqv (stD a) (stD b) = decide (a = b) := by
  rw [← eqv_ints]
  unfold stD
  simp only [PyData.eqv]
theorem blk_iff {st : St1} {b w : Nat} {f : Int} (h : b + w ≤ st.length) : (st.drop b).take w = List.replicate w f ↔ ∀ (j : Nat) (v : Int), b ≤ j → j < b + w → st[j]? = some v → v = f := by
  rw [List.eq_replicate_iff, List.length_take, List.length_drop]
  constructor
  · rintro ⟨_, u⟩ j v h1 h2 hv
    refine u v (List.mem_of_getElem? (i := j - b) ?_)
    rw [List.getElem?_take_of_lt (by omega), List.getElem?_drop]
    rw [show b + (j - b) = j by omega]
    exact hv
  · intro u
    refine ⟨by omega, fun v hv => ?_⟩
    obtain ⟨i, hi⟩ := List.mem_iff_getElem?.mp hv
    have il : i < w := by
      have := (List.getElem?_eq_some_iff.mp hi).1
      rw [List.length_take] at this
      omega
    rw [List.getElem?_take_of_lt il, List.getElem?_drop] at hi
    exact u (b + i) v (by omega) (by omega) hi
theorem shp_st (st : St1) : Shp 2 (stD st) := by
  refine shp_tup fun d hd => ?_
  obtain ⟨i, _, rfl⟩ := List.mem_map.mp hd
  exact shp_int i
def rIs : List PyData → PyData → Prop := fun ds d => ∃ (p : Pc) (x : PyData), ds = [p.d, x] ∧ PcOk p ∧ d = .bool (isGood p x)
abbrev dcIs (M : Md) : Prop := Dc M "is_start" ["program", "thing"] 10 (spF rIs M.K)
set_option maxHeartbeats 1000000 in
theorem ok_isstart {f fd} (F : Fun M.K "is_start" "is_start" s_is_start f fd) (b : Bl M) (ds : dcIst M) (dw : Dc M "row_width" ["row"] 1 (spF rWidth M.K)) (df : dcFv M) (dv : dcVal2 M) : FnG M.prog M.w M.K M.mg M.base CX0 10 f fd ["program", "thing"] (spF rIs M.K) := by
  refine fn_ok F sc_is_start (fun vs H Q E h => ?_) (fun H vs Q E h => ?_)
  · obtain ⟨ds, d, h, ⟨p, x, rfl, _⟩, _⟩ := h
    exact h.len
  obtain ⟨ds0, d, h, ⟨p, x, rfl, P, rfl⟩, k⟩ := h
  obtain _ | ⟨hp, h⟩ := h
  obtain _ | ⟨hx, h⟩ := h
  cases h
  rename_i vp vx
  refine b_cons (s_asg (e_var (by tm_at "at") ?_))
  refine g_unp4 (by tm_at "at") (by tm_at "at") (by tm_at "at") (by tm_at "at") (show Dt _ _ vp (.tuple [cellsD p.rs, p.a, p.b, p.g.d]) from hp) fun v1 v2 v3 v4 h1 h2 h3 h4 => ?_
  refine b_cut (fun σ1 H1 => Same H H1 ∧ isSt p.rs x = true ∧ σ1 = [some vp, some vx, some v1, some v3, some v4, none, none, none]) ?_ ?_
  · refine s_if (t_not ?_)
    refine t_val ?_
    refine e_callF ds ?_
    tm_at "go"
    refine ⟨_, _, .cons h1 (.cons hx .nil), ⟨p.rs, x, rfl, P.all.sm, rfl⟩, fun v5 H5 s5 h5 => ?_⟩
    cases h5
    refine ⟨_, rfl, ?_⟩
    cases e : isSt p.rs x with
    | true =>
      tm_at "go"
      exact ⟨s5, rfl, rfl⟩
    | false =>
      tm_at "go"
      refine k _ _ s5 ?_
      have e2 : isGood p x = false := by unfold isGood; rw [e, Bool.false_and]
      rw [e2]
      exact .bl _
  rintro _ H1 ⟨s1, hst, rfl⟩
  obtain ⟨st, rfl, hin⟩ := isSt_iff.mp hst
  have hl : st.length = total p.rs := by rw [states_mem hin, rg_len]
  have ht := P.all.sm.tot
  obtain ⟨a, xs, rfl, hxs, hrs⟩ := (h1.mono (tp_same s1)).tupE
  have hle := hrs.len
  rw [List.length_map] at hle
  refine b_cons (s_set (by tm_at "at") (e_int ?_))
  refine b_cut (fun σ1 H2 => Same H H2 ∧ UpTo p.rs st (total p.rs) ∧ ∃ v5 v6 v7, σ1 = [some vp, some vx, some (.ref a), some v3, some v4, v5, v6, v7]) ?_ ?_
  · refine s_forT (e_var (by tm_at "at") ?_)
    refine ⟨a, xs, rfl, hxs, fun i σ1 H2 => Same H1 H2 ∧ UpTo p.rs st (total (p.rs.take i)) ∧ ∃ v6 v7, σ1 = [some vp, some vx, some (.ref a), some v3, some v4, some (.int (total (p.rs.take i) : Nat)), v6, v7], ⟨Same.refl _, upTo_zero, _, _, rfl⟩, ?_, ?_, ?_⟩
    · rintro i σ' H' _ ⟨s, _⟩
      exact (tp_same s).sqt hxs
    · rintro i y σ' H' hy ⟨s, u, v6, v7, rfl⟩
      obtain ⟨d, hd, hy'⟩ := hrs.getV hy
      rw [List.getElem?_map] at hd
      obtain ⟨r, hr, rfl⟩ := Option.map_eq_some_iff.mp hd
      have hy2 := hy'.mono (tp_same s)
      have tl := tot_le hr
      refine g_name (by tm_at "at") ?_
      refine b_cut (fun σ1 H2 => Same H' H2 ∧ ∃ v7, σ1 = [some vp, some vx, some (.ref a), some v3, some v4, some (.int (total (p.rs.take i) : Nat)), some y, some v7] ∧ Dt M.K H2 v7 (stD ((st.drop (total (p.rs.take i))).take (width r)))) ?_ ?_
      · refine s_set (by tm_at "at") ?_
        refine e_slice ?_
        tm_at "go"
        refine e_callF dw ?_
        tm_at "go"
        refine ⟨_, _, .cons hy2 .nil, ⟨r, rfl, rfl⟩, fun v8 H8 s8 h8 => ?_⟩
        cases h8
        tm_at "go"
        refine rsl_tup (hx.mono (tp_same (s1.trans (s.trans s8)))) fun v9 H9 s9 h9 => ?_
        rw [cut_st (by omega)] at h9
        exact ⟨s8.trans s9, v9, rfl, h9⟩
      rintro _ H2 ⟨s2, v7, rfl, h7⟩
      refine b_cut (fun σ1 H3 => Same H2 H3 ∧ UpTo p.rs st (total (p.rs.take (i + 1))) ∧ σ1 = [some vp, some vx, some (.ref a), some v3, some v4, some (.int (total (p.rs.take i) : Nat)), some y, some v7]) ?_ ?_
      · have hy3 := hy2.mono (tp_same s2)
        refine s_if (t_w (e := .BoolOp _ _ _) (w_and ?_))
        tm_at "go"
        refine t_val ?_
        tm_at "go"
        refine ifb (fun c1 => ?_) (fun c1 => ?_)
        · refine w_and1 (t_cmp ?_)
          tm_at "go"
          refine e_callF df ?_
          tm_at "go"
          refine ⟨_, _, .cons hy3 .nil, ⟨r, rfl, by omega, rfl⟩, fun v9 H9 s9 h9 => ?_⟩
          refine ro_neD (Dt.dp (h7.mono (tp_same s9))) (Dt.dp h9) (shp_st _).ok (shp_st _).ok ?_
          rw [eqv_st]
          refine ⟨_, rfl, ?_⟩
          refine ifnd (fun c2 => ?_) (fun c2 => ?_)
          · tm_at "go"
            refine k _ _ (s1.trans (s.trans (s2.trans s9))) ?_
            have e : isGood p (stD st) = false := by
              cases hgd : isGood p (stD st) with
              | false => rfl
              | true =>
                obtain ⟨st', e1, hm⟩ := isGood_iff.mp hgd
                have e1 : st = st' := by rw [← stI_st st, e1, stI_st]
                subst e1
                have h5 := (List.mem_filter.mp hm).2
                unfold good at h5
                rw [Bool.and_eq_true] at h5
                have h6 := (upTo_all hin).mpr h5.1
                refine absurd ((blk_iff (by omega)).mpr fun j v h1 h2 hv => ?_) c2
                refine (h6 j r v (by omega) (px_in hr h1 h2) hv).resolve_left ?_
                simpa using c1
            rw [e]
            exact .bl _
          · tm_at "go"
            refine ⟨s9, (upTo_step hr).mpr ⟨u, fun j v h1 h2 hv => .inr ((blk_iff (by omega)).mp c2 j v h1 h2 hv)⟩, rfl⟩
        · tm_at "go"
          refine ⟨Same.refl _, (upTo_step hr).mpr ⟨u, fun _ _ _ _ _ => .inl ?_⟩, rfl⟩
          simpa using c1
      rintro _ H3 ⟨s3, u3, rfl⟩
      tm_at "go"
      refine e_callF dw ?_
      tm_at "go"
      refine ⟨_, _, .cons (hy2.mono (tp_same (s2.trans s3))) .nil, ⟨r, rfl, rfl⟩, fun v8 H8 s8 h8 => ?_⟩
      cases h8
      tm_at "go"
      refine ⟨s.trans (s2.trans (s3.trans s8)), u3, some y, some v7, ?_⟩
      rw [tot_snoc hr, Int.natCast_add]
      rfl
    · rintro σ' H2 ⟨s, u, v6, v7, rfl⟩
      rw [hle, List.take_length] at u
      exact ⟨s1.trans s, u, _, _, _, rfl⟩
  rintro _ H2 ⟨s2, u, v5, v6, v7, rfl⟩
  have hg := (upTo_all hin).mp u
  refine b_one (s_ret ?_)
  tm_at "go"
  refine e_callF dv ?_
  tm_at "go"
  refine ⟨_, _, .cons (h1.mono (tp_same s2)) (.cons (hx.mono (tp_same s2)) (.cons (h4.mono (tp_same s2)) .nil)), ⟨p.rs, st, p.g, rfl, P.ev hin, rfl⟩, fun v8 H8 s8 h8 => ?_⟩
  have e : isGood p (stD st) = decide ((ev p.rs st p.g).1 ≠ some 0) := by
    unfold isGood good
    rw [hst, stI_st, hg, Bool.true_and, Bool.true_and]
  rw [e] at k
  rcases optN h8 with ⟨eo, rfl⟩ | ⟨i, eo, rfl⟩
  · tm_at "go"
    refine ro_ne rfl ?_
    refine k _ _ (s2.trans s8) ?_
    rw [eo]
    exact .bl _
  · tm_at "go"
    refine k _ _ (s2.trans s8) ?_
    rw [eo]
    have e2 : decide (some i ≠ some (0 : Int)) = !decide (i = 0) := by
      rw [← decide_not]
      exact decide_eq_decide.mpr (by rw [ne_eq, Option.some.injEq])
    rw [e2]
    exact .bl _
end K

namespace K
open PySem PySem.Spec PyProof.Rows L2 G
variable {M : Md}
/-! ### the law's own starts -/
def rLSt : List PyData → List St1 → Prop := fun ds es => ∃ p : Pc, ds = [p.d] ∧ PcOk p ∧ es = startsOf p.rs p.g
abbrev dcLSt (M : Md) : Prop := Dc M "_law_starts" ["_law_place"] 5 (spLR TI rLSt M.K)
theorem filter_snoc {α : Type} {f : α → Bool} {l : List α} {i : Nat} {a : α} (h : l[i]? = some a) : (l.take (i + 1)).filter f = (l.take i).filter f ++ if f a = true then [a] else [] := by
  obtain ⟨h1, rfl⟩ := List.getElem?_eq_some_iff.mp h
  rw [List.take_succ_eq_append_getElem h1, List.filter_append, List.filter_cons, List.filter_nil]
theorem upTo_next {rs : List Row} {st : St1} {n : Nat} {r : Row} {v : Int} (hr : (px rs)[n]? = some r) (hv : st[n]? = some v) : UpTo rs st (n + 1) ↔ UpTo rs st n ∧ okP r v := by
  constructor
  · intro u
    exact ⟨fun j q w hj => u j q w (by omega), u n r v (by omega) hr hv⟩
  · rintro ⟨u1, u2⟩ j q w hj hq hw
    by_cases e : j = n
    · subst e
      rw [hr] at hq
      rw [hv] at hw
      cases hq
      cases hw
      exact u2
    · exact u1 j q w (by omega) hq hw
theorem atI_st {st : St1} {n : Nat} {v : Int} (h : st[n]? = some v) : atI (st.map PyData.int) (n : Int) = some (.int v) := by
  have := (List.getElem?_eq_some_iff.mp h).1
  exact pl_at (j := n) rfl (by rw [List.getElem?_map, h]; rfl)
set_option maxHeartbeats 2000000 in
theorem ok_lstarts {f fd} (F : Fun M.K "_law_starts" "_law_starts" s__law_starts f fd) (b : Bl M) (ds : dcLS M) (dv : dcVal M 2) : FnG M.prog M.w M.K M.mg M.base CX0 5 f fd ["_law_place"] (spLR TI rLSt M.K) := by
  refine fn_ok F sc__law_starts (fun vs H Q E h => ?_) (fun H vs Q E h => ?_)
  · obtain ⟨ds, d, h, ⟨p, rfl, _⟩, _⟩ := h
    exact h.len
  obtain ⟨ds0, d, h, ⟨p, rfl, P, rfl⟩, k⟩ := h
  obtain _ | ⟨hp, h⟩ := h
  cases h
  rename_i vp
  have hp0 : Dt M.K H vp (.tuple [cellsD p.rs, p.a, p.b, p.g.d]) := hp
  refine b_cut (fun σ1 H1 => ∃ v1 l, σ1 = [some vp, some v1, some (.ref l), none, none, none, none, none] ∧ Dt M.K H1 v1 (cellsD p.rs) ∧ Same H H1 ∧ H l = none ∧ H1 l = some (.lst [])) ?_ ?_
  · refine s_par2 (by tm_at "at") (by tm_at "at") ?_
    tm_at "go"
    refine rx_tup hp0 (d := cellsD p.rs) (pl_at (j := 0) rfl rfl) fun v1 h1 => ?_
    refine e_lstD (a_nil ⟨(Nat.le_of_ble_eq_true rfl), fun l H1 s1 n1 g1 => ?_⟩)
    exact ⟨v1, l, rfl, h1.mono (tp_same s1), s1, n1, g1⟩
  rintro _ H1 ⟨v1, l, rfl, h1, s1, n1, g1⟩
  obtain ⟨a, xs, rfl, hxs, hrs⟩ := h1.tupE
  have hle := hrs.len
  rw [List.length_map] at hle
  have ht := P.all.sm.tot
  have lm : (statesOf (rg p.rs)).length ≤ 256 := by rw [states_len]; exact P.all.sm.many
  refine b_cut (fun σ1 H2 => ∃ us v3 v4 v5 v6 v7, σ1 = [some vp, some (.ref a), some (.ref l), v3, v4, v5, v6, v7] ∧ Same H H2 ∧ H2 l = some (.lst us) ∧ RAll TI H2 us (startsOf p.rs p.g)) ?_ ?_
  · refine s_forL ?_
    refine e_callR ds (a_cons (e_var (by tm_at "at") (a_nil ?_)))
    refine ⟨_, _, .cons h1 .nil, ⟨p.rs, rfl, P.all.sm, rfl⟩, fun ls ws H2 s2 n2 g2 h2 => ?_⟩
    have wl := h2.len
    have nls : ls ≠ l := fun e => by rw [e, g1] at n2; cases n2
    refine ⟨ls, ws, rfl, .of g2, fun i σ1 H' => ∃ us v3 v4 v5 v6 v7, σ1 = [some vp, some (.ref a), some (.ref l), v3, v4, v5, v6, v7] ∧ Same H H' ∧ Tp H2 H' ∧ H' ls = some (.lst ws) ∧ H' l = some (.lst us) ∧ RAll TI H' us (((statesOf (rg p.rs)).take i).filter (good p.rs p.g)), ⟨[], _, _, _, _, _, rfl, s1.trans s2, Tp.refl _, g2, s2 _ _ g1, .nil⟩, ?_, ?_, ?_⟩
    · rintro i σ' H' _ ⟨us, v3, v4, v5, v6, v7, rfl, s, t, gs, _⟩
      exact .of gs
    · rintro i y σ' H' hy ⟨us, v3, v4, v5, v6, v7, rfl, s, t, gs, gl, hu⟩
      obtain ⟨st, hst, hys⟩ := h2.getV hy
      have hin := List.mem_of_getElem? hst
      have hl : st.length = total p.rs := by rw [states_mem hin, rg_len]
      have hy2 := kTI.k t hys
      have ul := hu.len
      have ul2 : us.length ≤ 256 := by
        rw [ul]
        refine Nat.le_trans (List.length_filter_le _ _) ?_
        rw [List.length_take]
        omega
      have hrs2 : DtAll M.K H' xs (p.rs.map rowD) := (hrs.mono (tp_same s2)).mono t
      have hxs2 : SqT M.K H' a xs := t.sqt ((tp_same s2).sqt hxs)
      refine g_name (by tm_at "at") ?_
      refine b_cut (fun σ1 H3 => Same H' H3 ∧ ∃ v6 v7, σ1 = [some vp, some (.ref a), some (.ref l), some y, some (.int 0), some (.bl (decide ((ev p.rs st p.g).1 ≠ some 0))), v6, v7]) ?_ ?_
      · refine s_par2 (by tm_at "at") (by tm_at "at") ?_
        tm_at "go"
        refine e_callF dv ?_
        tm_at "go"
        refine rx_tup (hp0.mono (tp_same s)) (d := p.g.d) (pl_at (j := 3) rfl rfl) fun v8 h8 => ?_
        refine a_nil ?_
        refine ⟨_, _, .cons (.tup hxs2 hrs2) (.cons (ti_d hy2) (.cons h8 .nil)), ⟨p.rs, st, p.g, rfl, P.ev hin, rfl⟩, fun v9 H9 s9 h9 => ?_⟩
        unfold vl at h9
        rcases optN h9 with ⟨eo, rfl⟩ | ⟨j, eo, rfl⟩
        · tm_at "go"
          refine ro_ne rfl ?_
          refine ⟨s9, v6, v7, ?_⟩
          rw [eo]
          rfl
        · tm_at "go"
          refine ⟨s9, v6, v7, ?_⟩
          rw [eo]
          have e2 : decide (some j ≠ some (0 : Int)) = !decide (j = 0) := by
            rw [← decide_not]
            exact decide_eq_decide.mpr (by rw [ne_eq, Option.some.injEq])
          rw [e2]
          rfl
      rintro _ H3 ⟨s3, w6, w7, rfl⟩
      refine b_cut (fun σ1 H4 => Same H' H4 ∧ ∃ v4 v6 v7, σ1 = [some vp, some (.ref a), some (.ref l), some y, v4, some (.bl (good p.rs p.g st)), v6, v7]) ?_ ?_
      · refine s_forT (e_var (by tm_at "at") ?_)
        refine ⟨a, xs, rfl, (tp_same s3).sqt hxs2, fun i σ1 H4 => Same H' H4 ∧ ∃ (bg : Bool) (v6 v7 : Option V), σ1 = [some vp, some (.ref a), some (.ref l), some y, some (.int (total (p.rs.take i) : Nat)), some (.bl bg), v6, v7] ∧ (bg = true ↔ (ev p.rs st p.g).1 ≠ some 0 ∧ UpTo p.rs st (total (p.rs.take i))), ⟨s3, _, w6, w7, rfl, by rw [decide_eq_true_eq]; exact ⟨fun z => ⟨z, upTo_zero⟩, fun z => z.1⟩⟩, ?_, ?_, ?_⟩
        · rintro i σ' H' _ ⟨s, _⟩
          exact (tp_same s).sqt hxs2
        · rintro i x σ' H4 hx ⟨s4, bg, v6, v7, rfl, hbg⟩
          obtain ⟨d, hd, hx'⟩ := hrs2.getV hx
          rw [List.getElem?_map] at hd
          obtain ⟨r, hr, rfl⟩ := Option.map_eq_some_iff.mp hd
          have hx2 := hx'.mono (tp_same s4)
          have tl := tot_le hr
          have hy4 := kTI.k (tp_same s4) hy2
          refine g_name (by tm_at "at") ?_
          refine b_one (s_forR1 b.range ?_)
          tm_at "go"
          have ew : (if (r.2.1 : Int) > 1 then (r.2.1 : Int) else 1) = width r := by
            unfold width
            split <;> omega
          rw [ew]
          refine ⟨by omega, by omega, fun t σ1 H5 => H5 = H4 ∧ ∃ (bg : Bool) (v7 : Option V), σ1 = [some vp, some (.ref a), some (.ref l), some y, some (.int (total (p.rs.take i) + t : Nat)), some (.bl bg), some x, v7] ∧ (bg = true ↔ (ev p.rs st p.g).1 ≠ some 0 ∧ UpTo p.rs st (total (p.rs.take i) + t)), ⟨rfl, bg, v7, rfl, hbg⟩, ?_, ?_⟩
          · rintro t σ' H5 htw ⟨rfl, bg, v7, rfl, hbg⟩
            rw [Int.toNat_natCast] at htw
            have hpx := px_in hr (j := total (p.rs.take i) + t) (by omega) (by omega)
            obtain ⟨v, hv⟩ : ∃ v, st[total (p.rs.take i) + t]? = some v := ⟨_, List.getElem?_eq_getElem (by omega)⟩
            have nxt := upTo_next hpx hv
            refine g_name (by tm_at "at") ?_
            refine b_cut (fun σ1 H6 => H6 = H5 ∧ ∃ (bg : Bool), σ1 = [some vp, some (.ref a), some (.ref l), some y, some (.int (total (p.rs.take i) + t : Nat)), some (.bl bg), some x, some (.int t)] ∧ (bg = true ↔ (ev p.rs st p.g).1 ≠ some 0 ∧ UpTo p.rs st (total (p.rs.take i) + (t + 1)))) ?_ ?_
            · refine s_set (by tm_at "at") ?_
              have hx5 : Dt M.K H5 x (rowD r) := hx2
              have fin : ∀ b2 : Bool, (b2 = true ↔ (bg = true ∧ okP r v)) → (b2 = true ↔ (ev p.rs st p.g).1 ≠ some 0 ∧ UpTo p.rs st (total (p.rs.take i) + (t + 1))) := fun b2 z => by
                rw [z, hbg, ← Nat.add_assoc, nxt, and_assoc]
              tm_at "go"
              refine ifb (fun c1 => ?_) (fun c1 => ?_)
              · tm_at "go"
                refine ifb (fun c2 => ?_) (fun c2 => ?_)
                · refine ⟨rfl, true, ?_, fin _ ⟨fun _ => ⟨c1, .inl c2⟩, fun _ => rfl⟩⟩
                  rfl
                · tm_at "go"
                  refine rx_tup (ti_d hy4) (atI_st hv) fun v8 h8 => ?_
                  cases h8
                  tm_at "go"
                  refine ⟨rfl, decide (v = r.2.2.2.2.2.2), rfl, fin _ ?_⟩
                  rw [decide_eq_true_eq]
                  exact ⟨fun z => ⟨c1, .inr z⟩, fun z => z.2.resolve_left (by rw [c2]; decide)⟩
              · exact ⟨rfl, false, rfl, fin _ ⟨fun z => (nomatch z), fun z => absurd z.1 (by rw [c1]; decide)⟩⟩
            rintro _ _ ⟨rfl, bg2, rfl, hbg2⟩
            tm_at "go"
            exact ⟨rfl, bg2, _, by rw [← Nat.add_assoc, Int.natCast_add]; rfl, hbg2⟩
          · rintro σ' _ ⟨rfl, bg, v7, rfl, hbg⟩
            rw [Int.toNat_natCast, ← tot_snoc hr] at *
            exact ⟨s4, bg, _, _, rfl, hbg⟩
        · rintro σ' H4 ⟨s4, bg, v6, v7, rfl, hbg⟩
          rw [hle, List.take_length, upTo_all hin] at hbg
          refine ⟨s4, some (.int (total (p.rs.take xs.length) : Nat)), v6, v7, ?_⟩
          have e : bg = good p.rs p.g st := by
            unfold good
            rw [Bool.eq_iff_iff, hbg, Bool.and_eq_true, decide_eq_true_eq]
            exact ⟨fun z => ⟨z.2, z.1⟩, fun z => ⟨z.2, z.1⟩⟩
          rw [e]
      rintro _ H4 ⟨s4, v4, v6, v7, rfl⟩
      have fs := filter_snoc (f := good p.rs p.g) hst
      refine b_one (s_if (t_val ?_))
      tm_at "go"
      have gl4 := s4 _ _ gl
      refine ifb (fun c1 => ?_) (fun c1 => ?_)
      · refine b_one (s_expr (e_app (e_var (by tm_at "at") ⟨l, us, rfl, gl4, ?_⟩)))
        tm_at "go"
        have ku := kp_upd (o' := .lst (us ++ [y])) gl4 (fun _ e => nomatch e) (fun _ _ e => nomatch e)
        refine ⟨us, gl4, by omega, ?_⟩
        refine ⟨us ++ [y], _, _, _, _, _, rfl, same_mut (s.trans s4) n1, t.trans ((tp_same s4).trans ku.t), ?_, upd_same, ?_⟩
        · rw [upd_ne nls]
          exact s4 _ _ gs
        · rw [fs, if_pos c1]
          exact ((hu.mono kTI (tp_same s4)).mono kTI ku.t).app (.cons (kTI.k ku.t (kTI.k (tp_same s4) hy2)) .nil)
      · tm_at "go"
        refine ⟨us, _, _, _, _, _, rfl, s.trans s4, t.trans (tp_same s4), s4 _ _ gs, gl4, ?_⟩
        rw [fs, if_neg (by rw [c1]; decide), List.append_nil]
        exact hu.mono kTI (tp_same s4)
    · rintro σ' H' ⟨us, v3, v4, v5, v6, v7, rfl, s, t, gs, gl, hu⟩
      rw [wl, List.take_length] at hu
      exact ⟨us, _, _, _, _, _, rfl, s, gl, hu⟩
  rintro _ H2 ⟨us, v3, v4, v5, v6, v7, rfl, s2, g2, h2⟩
  tm_at "go"
  exact k _ _ _ s2 n1 g2 h2
end K

namespace G
open PySem PySem.Spec PyProof.Rows L2 GenW
/-! ### a generator def called with keywords -/
section
variable {X : Cx} {k : Nat} {f : Addr} {fd : FuncData} {ps ks : List Str} {sp : SpG} {x : Str} {p pos : Pos} {kws : List Keyword} {t : TA} {E : XK}
theorem pgen_kw {g : List Value → List Value} {gV : List V → List V} (F : GFn X.prog X.w X.K X.mg X.base k f fd ps sp) (room : Room k X.A) (gl : Gl X x) (hm : X.mg x = some (.ref f)) (kp : PySem.W.keepIn X.K (.ref f) = true)
    (bn : ∀ (s : Shared) (ws : List Value), ws.length = ks.length → BindsTo s fd ⟨[], ks.zip ws⟩ (ps.zip (g ws))) (rel : ∀ (zs : List V) (ws : List Value), Vals zs ws → zs.length = ks.length → Vals (gV zs) (g ws)) (hkw : PK X kws t)
    (h1 : (backToKw pos (keywordEach kws X.env)).all (·.1.isSome) = true) (h2 : (backToKw pos (keywordEach kws X.env)).filterMap (·.1) = ks) (hdb : (x == ("__debug__" : Str)) = false)
    (h3 : ((backTo pos (starEach [] X.env)).any (·.1) || (backToKw pos (keywordEach kws X.env)).any (·.1.isNone)) = false) :
    PGen X k (.Call (.Name x p) [] kws pos) (fun σ H cont => t σ H fun zs H2 => zs.length = ks.length ∧ sp (gV zs) H2 cont E) E := by
  refine ⟨fun pins s σ H cont I h => ?_⟩
  refine wpAny_Call_Name_kw (ld_glob I gl hm ?_ hdb)
  refine PySem.W.callWith_KW0 (h₀ := X.base) I.ok.mod.kin kp h1 ?_ h3
  refine thn (hkw.run pos pins s σ H _ I h) fun ws s1 ⟨zs, H1, J1, rz, lz, q⟩ => ⟨J1.kIn, ?_⟩
  rw [h2]
  refine wpAny_call (codeAny_mono (F.run X.A X.stack s1 H1 ⟨[], ks.zip ws⟩ (g ws) (gV zs) cont E room J1.env0 (bn s1 ws (rz.length.symm.trans lz)) (rel zs ws rz lz) q) fun r s' hq => ?_)
  cases r with
  | error e => exact False.elim hq
  | ok fl =>
    cases fl with
    | ret u => exact ⟨H1, s1, [], J1, .nil, hq⟩
    | next => exact False.elim hq
    | brk => exact False.elim hq
    | cont => exact False.elim hq
end
structure DcGk (c : Md) (x : Str) (ps ks : List Str) (gV : List V → List V) (k : Nat) (sp : SpG) : Prop where
  ex : ∃ (f : Addr) (fd : FuncData) (g : List Value → List Value), GFn c.prog c.w c.K c.mg c.base k f fd ps sp ∧ c.mg x = some (.ref f) ∧ PySem.W.keepIn c.K (.ref f) = true ∧ (∀ (s : Shared) (ws : List Value), ws.length = ks.length → BindsTo s fd ⟨[], ks.zip ws⟩ (ps.zip (g ws))) ∧
    ∀ (zs : List V) (ws : List Value), Vals zs ws → zs.length = ks.length → Vals (gV zs) (g ws)
section
variable {c : Cd} {σ : L2.St} {H : Hp} {Q : VK} {pos : Pos}
/-- list(f(a=e, ..)) of a generator def -/
theorem e_listGk {x : Str} {p p1 p2 : Pos} {kws : List Keyword} {ps ks : List Str} {gV : List V → List V} {k : Nat} {sp : SpG} (D : DcGk c.toMd x ps ks gV k sp) (hm0 : c.mg "list" = none) (q : RPK c kws σ H fun zs H1 => zs.length = ks.length ∧ sp (gV zs) H1 (fun out H2 => ∀ p, H2 p = none → Q (.ref p) (upd H2 p (.lst out))) fun _ _ _ => False) (hk : k + 3 ≤ c.k := by exact Nat.le_of_ble_eq_true rfl) (hg : c.sc.names.lookup x = some .globalImplicit := by rfl) (hg2 : c.sc.names.lookup ("list" : Str) = some .globalImplicit := by rfl)
    (h1 : ∀ env, (backToKw p2 (keywordEach kws env)).all (·.1.isSome) = true := by intro _; rfl) (h2 : ∀ env, (backToKw p2 (keywordEach kws env)).filterMap (·.1) = ks := by intro _; rfl) (hdb : (x == ("__debug__" : Str)) = false := by decide)
    (h3 : ∀ env, ((backTo p2 (starEach [] env)).any (·.1) || (backToKw p2 (keywordEach kws env)).any (·.1.isNone)) = false := by intro _; rfl) (h4 : ∀ env, starEach [.Call (.Name x p1) [] kws p2] env = (false, eval (.Call (.Name x p1) [] kws p2) env) :: starEach [] env := by intro _; rfl) :
    RE c (.Call (.Name "list" p) [.Call (.Name x p1) [] kws p2] [] pos) σ H Q := by
  obtain ⟨f, fd, g, F, hm, hkp, hb, hr⟩ := D.ex
  refine re_of (t := tListG (fun σ H cont => RPK c kws σ H fun zs H2 => zs.length = ks.length ∧ sp (gV zs) H2 cont fun _ _ _ => False)) (fun X h => ?_) q
  refine pe_listG (k := k) (E := fun _ _ _ => False) (pgen_kw (f := f) (fd := fd) (ps := ps) (ks := ks) (g := g) (gV := gV) ?_ (h.room.mono (Nat.le_trans (Nat.le_add_right _ _) hk)) (gl_of h hg) (by rw [h.mg]; exact hm) (by rw [h.K]; exact hkp) hb hr (pk_rk h) (h1 _) (h2 _) hdb (h3 _)) (fun _ _ _ _ _ _ _ z => by obtain ⟨_, _, _, _, _, _, _, _, _, _, _, _, hf⟩ := z; exact hf.elim) (fun _ _ _ z => z.elim) (h.room.mono hk) (gl_of h hg2) (by rw [h.mg]; exact hm0) (by decide +kernel) (by decide) (by decide) (h4 _)
  rw [h.prog, h.w, h.K, h.mg, h.base]; exact F
end
end G
namespace K
open PySem PySem.Spec PyProof.Rows L2 G
variable {M : Md}
theorem ro_neS {c : Cd} {H : Hp} {Q : VK} {i j : Str} (q : Q (.bl (!decide (i = j))) H) : RQ c .NotEq (.str i) (.str j) H Q := ro_ne rfl (by
  have e : decide (V.str i = V.str j) = decide (i = j) := decide_eq_decide.mpr ⟨fun h => V.str.inj h, fun h => by rw [h]⟩
  rw [e]; exact q)
/-! ### lists of states, compared -/
def lstD (es : List St1) : PyData := .list (es.map stD)
theorem eqv_sts : ∀ a b : List St1, PyData.eqvAll (a.map stD) (b.map stD) = decide (a = b)
  | [], [] => by simp [PyData.eqvAll]
  | [], _ :: _ => by simp [PyData.eqvAll]
  | _ :: _, [] => by simp [PyData.eqvAll]
  | x :: a, y :: b => by
    show (PyData.eqv (stD x) (stD y) && PyData.eqvAll (a.map stD) (b.map stD)) = _
    rw [eqv_sts a b, eqv_st, ← Bool.decide_and]
    exact decide_eq_decide.mpr (by rw [List.cons.injEq])
theorem eqv_lst (a b : List St1) : PyData.eqv (lstD a) (lstD b) = decide (a = b) := by
  rw [← eqv_sts]
  unfold lstD
  simp only [PyData.eqv]
theorem shp_sts (es : List St1) : Shp 3 (lstD es) := by
  refine shp_lst fun d hd => ?_
  obtain ⟨i, _, rfl⟩ := List.mem_map.mp hd
  exact shp_st i
theorem dp_lst {K : PySem.W.Frag} {H : Hp} {l : Addr} {us : List V} {es : List St1} (g : H l = some (.lst us)) (h : RAll TI H us es) : Dp K H (.ref l) (lstD es) :=
  .lst (.of g) (DtAll.dp (h.dts fun v a z => ti_d z))
theorem ro_eqLs {c : Cd} {H : Hp} {Q : VK} {l m : Addr} {us ws : List V} {es fs : List St1} (g1 : H l = some (.lst us)) (h1 : RAll TI H us es) (g2 : H m = some (.lst ws)) (h2 : RAll TI H ws fs) (q : Q (.bl (decide (es = fs))) H) : RQ c .Eq (.ref l) (.ref m) H Q := by
  refine ro_eqD (dp_lst g1 h1) (dp_lst g2 h2) (shp_sts _).ok (shp_sts _).ok ?_
  rw [eqv_lst]
  exact q
theorem ro_neLs {c : Cd} {H : Hp} {Q : VK} {l m : Addr} {us ws : List V} {es fs : List St1} (g1 : H l = some (.lst us)) (h1 : RAll TI H us es) (g2 : H m = some (.lst ws)) (h2 : RAll TI H ws fs) (q : Q (.bl (!decide (es = fs))) H) : RQ c .NotEq (.ref l) (.ref m) H Q := by
  refine ro_neD (dp_lst g1 h1) (dp_lst g2 h2) (shp_sts _).ok (shp_sts _).ok ?_
  rw [eqv_lst]
  exact q
end K

namespace K
open PySem PySem.Spec PyProof.Rows L2 G
variable {M : Md}
/-! ### lists of what a generator hands out -/
section
variable {c : Cd} {σ : L2.St} {H : Hp} {Q : VK} {pos : Pos}
theorem gen_fin {K : PySem.W.Frag} {H1 : Hp} {es : List St1} {Q : VK} (q : ∀ p us H2, Same H1 H2 → H1 p = none → H2 p = some (.lst us) → RAll TI H2 us es → Q (.ref p) H2) : ∀ (out : List V) (H' : Hp), Same H1 H' → RAll TI H' out es → ∀ p, H' p = none → Q (.ref p) (upd H' p (.lst out)) := fun out H' s h p hp =>
  q p out _ (s.trans (same_new hp)) (same_none s hp) upd_same (h.mono kTI (tp_same (same_new hp)))
theorem e_listS {x : Str} {p p1 p2 : Pos} {e : Expr} {k : Nat} {W : List PyData → List St1 → Prop} (D : DcG c.toMd x ["program"] k (spGen W c.K)) (hm0 : c.mg "list" = none) (q : RE c e σ H fun v H1 => ∃ d es, Dt c.K H1 v d ∧ W [d] es ∧ es.length ≤ 256 ∧ ∀ p us H2, Same H1 H2 → H1 p = none → H2 p = some (.lst us) → RAll TI H2 us es → Q (.ref p) H2) (hk : k + 3 ≤ c.k := by exact Nat.le_of_ble_eq_true rfl) (hg : c.sc.names.lookup x = some .globalImplicit := by rfl) (hg2 : c.sc.names.lookup ("list" : Str) = some .globalImplicit := by rfl)
    (hdb : (x == ("__debug__" : Str)) = false := by decide) (he : ∀ env, starEach [e] env = (false, eval e env) :: starEach [] env := by intro _; rfl) (h1 : ∀ env, starEach [.Call (.Name x p1) [e] [] p2] env = (false, eval (.Call (.Name x p1) [e] [] p2) env) :: starEach [] env := by intro _; rfl) :
    RE c (.Call (.Name "list" p) [.Call (.Name x p1) [e] [] p2] [] pos) σ H Q := by
  refine e_listG D hm0 (a_cons (RE.mono (fun v H1 z => a_nil ?_) q) he) hk hg hg2 hdb he (fun _ => rfl) h1
  obtain ⟨d, es, hd, hw, hl, k⟩ := z
  exact ⟨v, d, es, rfl, hd, hw, hl, gen_fin (K := c.K) k⟩
theorem e_listSk {x : Str} {p p1 p2 kpos : Pos} {e : Expr} {k : Nat} {W : List PyData → List St1 → Prop} (D : DcGk c.toMd x ["program"] ["program"] (fun zs => zs) k (spGen W c.K)) (hm0 : c.mg "list" = none) (q : RE c e σ H fun v H1 => ∃ d es, Dt c.K H1 v d ∧ W [d] es ∧ es.length ≤ 256 ∧ ∀ p us H2, Same H1 H2 → H1 p = none → H2 p = some (.lst us) → RAll TI H2 us es → Q (.ref p) H2) (hk : k + 3 ≤ c.k := by exact Nat.le_of_ble_eq_true rfl) (hg : c.sc.names.lookup x = some .globalImplicit := by rfl) (hg2 : c.sc.names.lookup ("list" : Str) = some .globalImplicit := by rfl)
    (hdb : (x == ("__debug__" : Str)) = false := by decide) (h4 : ∀ env, starEach [.Call (.Name x p1) [] [⟨some "program", e, kpos⟩] p2] env = (false, eval (.Call (.Name x p1) [] [⟨some "program", e, kpos⟩] p2) env) :: starEach [] env := by intro _; rfl) :
    RE c (.Call (.Name "list" p) [.Call (.Name x p1) [] [⟨some "program", e, kpos⟩] p2] [] pos) σ H Q := by
  refine e_listGk D hm0 (k_cons (RE.mono (fun v H1 z => k_nil ?_) q)) hk hg hg2 (fun _ => rfl) (fun _ => rfl) hdb (fun _ => rfl) h4
  obtain ⟨d, es, hd, hw, hl, k⟩ := z
  exact ⟨rfl, v, d, es, rfl, hd, hw, hl, gen_fin (K := c.K) k⟩
end
theorem cut_to {us : List V} (n : Nat) : cutV us none (some (n : Int)) = us.take n := by
  unfold cutV
  rw [HT.sIx_none, HT.sIx_nat, List.drop_zero, Nat.sub_zero]
  by_cases h : n ≤ us.length
  · rw [Nat.min_eq_left h]
  · rw [Nat.min_eq_right (by omega), List.take_length, List.take_of_length_le (by omega)]
theorem _root_.G.RAll.take {α : Type} {R : Hp → V → α → Prop} {H : Hp} {vs : List V} {as : List α} (h : RAll R H vs as) : ∀ n : Nat, RAll R H (vs.take n) (as.take n) := by
  induction h with
  | nil => intro n; rw [List.take_nil, List.take_nil]; exact .nil
  | cons h _ ih =>
    intro n
    cases n with
    | zero => exact .nil
    | succ n => exact .cons h (ih n)
/-! ### what is known of a place -/
structure Rt (K : PySem.W.Frag) (p : Pc) (vp : V) (ls lt : Addr) (H : Hp) : Prop where
  pd : Dt K H vp p.d
  sts : ∃ us, H ls = some (.lst us) ∧ RAll TI H us (statesOf (rg p.rs))
  sta : ∃ us, H lt = some (.lst us) ∧ RAll TI H us (startsOf p.rs p.g)
theorem Rt.same {K : PySem.W.Frag} {p : Pc} {vp : V} {ls lt : Addr} {H H' : Hp} (h : Rt K p vp ls lt H) (s : Same H H') : Rt K p vp ls lt H' :=
  ⟨h.pd.mono (tp_same s), let ⟨us, g, r⟩ := h.sts; ⟨us, s _ _ g, r.mono kTI (tp_same s)⟩, let ⟨us, g, r⟩ := h.sta; ⟨us, s _ _ g, r.mono kTI (tp_same s)⟩⟩
theorem sts_few {rs : List Row} (A : RowsAll rs) : (statesOf (rg rs)).length ≤ 256 := by rw [states_len]; exact A.sm.many
theorem starts_few {rs : List Row} (A : RowsAll rs) (g : Ex) : (startsOf rs g).length ≤ 256 := Nat.le_trans (List.length_filter_le _ _) (sts_few A)
theorem sw_st {rs : List Row} (A : RowsAll rs) {st : St1} (h : st ∈ statesOf (rg rs)) : Shw 1 153 (stD st) := by
  have S := stok_of A h
  refine sw_tup (m := 0) (n := 13) (k := 10) (fun d hd => ?_) (by rw [List.length_map, S.len]; exact S.tot)
  obtain ⟨i, hi, rfl⟩ := List.mem_map.mp hd
  have := S.val i hi
  exact sw_int (Nat.lt_of_le_of_lt (show i.natAbs ≤ 10 by omega) (by decide))
theorem sw_sts {rs : List Row} (A : RowsAll rs) {es : List St1} (h : ∀ st ∈ es, st ∈ statesOf (rg rs)) (hl : es.length ≤ 256) : Shw 2 39683 (lstD es) := by
  refine sw_lst (m := 1) (n := 153) (k := 256) (fun d hd => ?_) (by rw [List.length_map]; exact hl)
  obtain ⟨st, hs, rfl⟩ := List.mem_map.mp hd
  exact sw_st A (h st hs)
theorem sw_three {rs : List Row} (A : RowsAll rs) (g : Ex) (n : Nat) (hn : n ≤ 256) : Shw 60 1000000 (.list [.int n, lstD (statesOf (rg rs)), lstD (startsOf rs g)]) := by
  refine (sw_lst (m := 2) (n := 39683) (k := 3) (fun d hd => ?_) (Nat.le_of_ble_eq_true rfl)).up (by decide) (by decide)
  have h1 := sw_sts A (fun st h => h) (sts_few A)
  have h2 := sw_sts A (es := startsOf rs g) (fun st h => start_in h) (starts_few A g)
  have h0 : Shw 2 39683 (.int (n : Int)) := (sw_int (Nat.lt_of_le_of_lt (show ((n : Int)).natAbs ≤ 256 by omega) (by decide))).up (by decide) (by decide)
  exact all3 h0 h1 h2 d hd
theorem stat_get {rs : List Row} (A : RowsAll rs) {i : Nat} {st : St1} (h : (statesOf (rg rs))[i]? = some st) : st = Dg (rg rs) i ∧ st = stAt (rg rs) i ∧ i < many (rg rs) := by
  have hs : ∀ p ∈ rg rs, 1 ≤ span p := fun p hp => (A.sm.sp p hp).1
  have hi : i < many (rg rs) := by
    have := (List.getElem?_eq_some_iff.mp h).1
    rw [states_len] at this
    exact this
  have e := sts_get hs hi
  rw [h] at e
  exact ⟨Option.some.inj e, by rw [stAt_Dg hs hi]; exact Option.some.inj e, hi⟩
def spRt (K : PySem.W.Frag) : Sp := fun vs H Q _ => ∃ (v : V) (p : Pc), vs = [v] ∧ Dt K H v p.d ∧ PcOk p ∧ Shw 60 1000000 p.d ∧ ∀ H', Same H H' → Q (.bl true) H'
set_option maxHeartbeats 4000000 in
theorem ok_right {f fd} (F : Fun M.K "_law_is_right" "_law_is_right" s__law_is_right f fd) (b : Bl M) (b3 : Bl3 M) (hrp : M.mg "repr" = none) (dls : dcLS M) (dlt : dcLSt M) (dct : Dc M "count_states" ["program"] 3 (spF rCnt M.K)) (kct : DcK M "count_states" ["program"] ["program"] (fun zs => zs) 3 (spF rCnt M.K))
    (dal : DcG M "all_states" ["program"] 4 (spGen rSlist M.K)) (dst : DcG M "starts_of" ["program"] 11 (spGen rStl M.K)) (kal : DcGk M "all_states" ["program"] ["program"] (fun zs => zs) 4 (spGen rSlist M.K)) (kst : DcGk M "starts_of" ["program"] ["program"] (fun zs => zs) 11 (spGen rStl M.K)) (daw : DcW M "all_states" ["program"] 4 (spAllW M.K))
    (dnu : Dc M "state_number" ["program", "state"] 3 (spF rNum M.K)) (dat : Dc M "state_at" ["program", "number"] 3 (spF rStAt M.K)) (knu : DcK M "state_number" ["program", "state"] ["state", "program"] List.reverse 3 (spF rNum M.K)) (kat : DcK M "state_at" ["program", "number"] ["number", "program"] List.reverse 3 (spF rStAt M.K)) :
    FnQ M.prog M.w M.K M.mg M.base CX0 16 f fd ["_law_place"] (spRt M.K) := by
  refine fn_okQ F sc__law_is_right (fun vs H Q E h => ?_) (fun H vs Q E h => ?_)
  · obtain ⟨v, p, rfl, _⟩ := h
    rfl
  obtain ⟨vp, p, rfl, hp, P, sw, k⟩ := h
  have hp0 : Dt M.K H vp (.tuple (cellsD p.rs :: [p.a, p.b, p.g.d])) := hp
  have A := P.all
  have few := sts_few A
  have few2 := starts_few A p.g
  generalize hsh : PyData.shown p.d = sh
  refine b_cut (fun σ1 H1 => ∃ ls us, σ1 = [some vp, some (.str sh), some (.ref ls), none, none, none, none, none, none] ∧ Same H H1 ∧ H1 ls = some (.lst us) ∧ RAll TI H1 us (statesOf (rg p.rs))) ?_ ?_
  · refine s_par2 (by tm_at "at") (by tm_at "at") ?_
    refine e_callB (id := "repr") hrp (by decide +kernel) ?_
    tm_at "go"
    refine rc_repG hp sw ?_
    rw [hsh]
    refine e_callR dls ?_
    tm_at "go"
    refine rx_tup hp0 (d := cellsD p.rs) (pl_at (j := 0) rfl rfl) fun v1 h1 => ?_
    refine a_nil ?_
    exact ⟨_, _, .cons h1 .nil, ⟨p.rs, rfl, A.sm, rfl⟩, fun l us H1 s1 n1 g1 h2 => ⟨l, us, rfl, s1, g1, h2⟩⟩
  rintro _ H1 ⟨ls, us, rfl, s1, gs, hs⟩
  have hp1 := hp0.mono (tp_same s1)
  refine b_cut (fun σ1 H2 => ∃ lt l4, σ1 = [some vp, some (.str sh), some (.ref ls), some (.ref lt), some (.ref l4), none, none, none, none] ∧ Same H H2 ∧ Rt M.K p vp ls lt H2 ∧ Dp M.K H2 (.ref l4) (.list [.int (many (rg p.rs) : Nat), lstD (statesOf (rg p.rs)), lstD (startsOf p.rs p.g)])) ?_ ?_
  · refine s_par2 (by tm_at "at") (by tm_at "at") ?_
    refine e_callR dlt ?_
    tm_at "go"
    refine ⟨_, _, .cons hp1 .nil, ⟨p, rfl, P, rfl⟩, fun lt ws H2 s2 n2 g2 h2 => ?_⟩
    refine e_lstD (a_cons ?_)
    refine e_callF dct ?_
    tm_at "go"
    refine ⟨_, _, .cons (hp1.mono (tp_same s2)) .nil, ⟨p.rs, _, rfl, A.sm, rfl⟩, fun v3 H3 s3 h3 => ?_⟩
    cases h3
    refine a_cons (e_listS dal b.list ?_)
    tm_at "go"
    refine ⟨_, _, hp1.mono (tp_same (s2.trans s3)), ⟨p.rs, _, rfl, A.sm, rfl⟩, few, fun l4 u4 H4 s4 n4 g4 h4 => ?_⟩
    refine a_cons (e_listS dst b.list ?_)
    tm_at "go"
    refine ⟨_, _, hp1.mono (tp_same (s2.trans (s3.trans s4))), ⟨p, rfl, P, rfl⟩, few2, fun l5 u5 H5 s5 n5 g5 h5 => ?_⟩
    refine a_nil ⟨(Nat.le_of_ble_eq_true rfl), fun l6 H6 s6 n6 g6 => ?_⟩
    have s26 := s3.trans (s4.trans (s5.trans s6))
    refine ⟨lt, l6, rfl, s1.trans (s2.trans s26), ⟨hp1.mono (tp_same (s2.trans s26)), ⟨us, s26 _ _ (s2 _ _ gs), hs.mono kTI (tp_same (s2.trans s26))⟩, ⟨ws, s26 _ _ g2, h2.mono kTI (tp_same s26)⟩⟩, ?_⟩
    exact .lst (.of g6) (.cons (.int _) (.cons (dp_lst ((s5.trans s6) _ _ g4) (h4.mono kTI (tp_same (s5.trans s6)))) (.cons (dp_lst (s6 _ _ g5) (h5.mono kTI (tp_same s6))) .nil)))
  rintro _ H2 ⟨lt, l4, rfl, s2, R2, d4⟩
  refine b_cut (fun σ1 H3 => σ1 = [some vp, some (.str sh), some (.ref ls), some (.ref lt), some (.ref l4), none, none, none, none] ∧ Same H2 H3) ?_ ?_
  · refine s_if (t_cmp ?_)
    refine e_callB (id := "repr") hrp (by decide +kernel) ?_
    tm_at "go"
    have SW := sw_three A p.g _ (show many (rg p.rs) ≤ 256 from A.sm.many)
    refine rc_repr d4 SW ?_
    refine e_callB (id := "repr") hrp (by decide +kernel) ?_
    obtain ⟨us2, gs2, hs2⟩ := R2.sts
    obtain ⟨ws2, gt2, ht2⟩ := R2.sta
    refine a_cons (e_lstD (a_cons ?_))
    tm_at "go"
    refine rc_lenL (.of gs2) ?_
    tm_at "go"
    refine ⟨(Nat.le_of_ble_eq_true rfl), fun l5 H5 s5 n5 g5 => ?_⟩
    have ul : us2.length = many (rg p.rs) := by rw [hs2.len, states_len]
    rw [ul] at g5
    refine a_nil ?_
    have d5 : Dp M.K H5 (.ref l5) (.list [.int (many (rg p.rs) : Nat), lstD (statesOf (rg p.rs)), lstD (startsOf p.rs p.g)]) := .lst (.of g5) (.cons (.int _) (.cons (dp_lst (s5 _ _ gs2) (hs2.mono kTI (tp_same s5))) (.cons (dp_lst (s5 _ _ gt2) (ht2.mono kTI (tp_same s5))) .nil)))
    refine rc_repr d5 SW ?_
    refine ro_neS ?_
    rw [decide_eq_true rfl]
    refine ⟨_, rfl, iff0 ?_⟩
    tm_at "go"
    exact ⟨rfl, s5⟩
  rintro _ H3 ⟨rfl, s3⟩
  have R3 := R2.same s3
  refine b_cut (fun σ1 H4 => σ1 = [some vp, some (.str sh), some (.ref ls), some (.ref lt), some (.ref l4), none, none, none, none] ∧ Same H3 H4) ?_ ?_
  · refine s_if (t_w (e := .BoolOp _ _ _) (w_or (t_cmp ?_)))
    obtain ⟨us3, gs3, hs3⟩ := R3.sts
    refine e_listSk kal b.list ?_
    tm_at "go"
    refine ⟨_, _, R3.pd, ⟨p.rs, _, rfl, A.sm, rfl⟩, few, fun l6 u6 H6 s6 n6 g6 h6 => ?_⟩
    tm_at "go"
    refine ro_neLs g6 h6 (s6 _ _ gs3) (hs3.mono kTI (tp_same s6)) ?_
    rw [decide_eq_true rfl]
    refine ⟨_, rfl, iff0 ?_⟩
    refine w_or1 (t_cmp ?_)
    refine e_kw kct (k_cons ?_)
    tm_at "go"
    refine k_nil ⟨rfl, ?_⟩
    refine ⟨_, _, .cons (R3.pd.mono (tp_same s6)) .nil, ⟨p.rs, [p.a, p.b, p.g.d], rfl, A.sm, rfl⟩, fun v7 H7 s7 h7 => ?_⟩
    cases h7
    tm_at "go"
    refine rc_lenL (.of ((s6.trans s7) _ _ gs3)) ?_
    tm_at "go"
    rw [hs3.len, states_len]
    refine ifnd (fun c1 => absurd rfl c1) (fun _ => ?_)
    tm_at "go"
    exact ⟨rfl, s6.trans s7⟩
  rintro _ H4 ⟨rfl, s4⟩
  have R4 := R3.same s4
  refine b_cut (fun σ1 H5 => ∃ v5 v6, σ1 = [some vp, some (.str sh), some (.ref ls), some (.ref lt), some (.ref l4), v5, v6, none, none] ∧ Same H4 H5) ?_ ?_
  · obtain ⟨us4, gs4, hs4⟩ := R4.sts
    refine s_for (i_enumL b3.enum (e_var (by tm_at "at") ⟨ls, us4, rfl, .of gs4, ?_⟩))
    refine ⟨fun i m σ' H' => m = us4.length - i ∧ i ≤ us4.length ∧ (∃ v5 v6, σ' = [some vp, some (.str sh), some (.ref ls), some (.ref lt), some (.ref l4), v5, v6, none, none]) ∧ Same H4 H', ⟨us4.length, by simp, Nat.zero_le _, ⟨_, _, rfl⟩, Same.refl _⟩, ?_⟩
    rintro i m σ' H' ⟨rfl, hi, ⟨v5, v6, rfl⟩, s5⟩
    have osq : SqL M.K H' ls us4 := .of (s5 _ _ gs4)
    by_cases more : i < us4.length
    · refine .inr ⟨⟨us4, us4[i], osq, List.getElem?_eq_getElem more⟩, _, fun σ2 H2 z => ⟨us4.length - (i + 1), by omega, rfl, more, z⟩, fun x H3 got => ?_⟩
      obtain ⟨T, y, rfl, hT, rfl, hyy⟩ := got
      have e1 := hyy _ osq
      rw [List.getElem?_eq_getElem more] at e1
      obtain rfl : us4[i] = y := Option.some.inj e1
      have sn := same_new (o := .tup [.int (i : Nat), us4[i]]) hT
      obtain ⟨st, hst, hy0⟩ := hs4.getV (List.getElem?_eq_getElem more)
      obtain ⟨eD, eA, im⟩ := stat_get A hst
      have hin := List.mem_of_getElem? hst
      have s6 := s5.trans sn
      have hy := kTI.k (tp_same s6) hy0
      generalize us4[i] = y at *
      refine g_tup (.of upd_same) (gs_cons (g_name (by tm_at "at") (gs_cons (g_name (by tm_at "at") (gs_nil ?_)))))
      generalize upd H' T (HO.tup [.int (i : Nat), y]) = H6 at *
      have R6 := R4.same s6
      have hpl : Dt M.K H6 vp (.tuple (cellsD p.rs :: [p.a, p.b, p.g.d])) := R6.pd
      have hstD : Dt M.K H6 y (stD st) := ti_d hy
      have rn : rNum [.tuple (cellsD p.rs :: [p.a, p.b, p.g.d]), stD st] (.int (i : Nat)) := ⟨p.rs, _, i, by rw [← eD], A.sm, im, rfl⟩
      have ra : rStAt [.tuple (cellsD p.rs :: [p.a, p.b, p.g.d]), .int (i : Nat)] (stD st) := ⟨p.rs, _, i, rfl, A.sm, by rw [← eA]⟩
      refine b_cut (fun σ1 H7 => σ1 = [some vp, some (.str sh), some (.ref ls), some (.ref lt), some (.ref l4), some (.int (i : Nat)), some y, none, none] ∧ Same H6 H7) ?_ ?_
      · refine s_if (t_cmp ?_)
        refine e_callB (id := "repr") hrp (by decide +kernel) ?_
        have SW : Shw 60 1000000 (.list [.int (i : Nat), stD st]) := by
          refine (sw_lst (m := 1) (n := 153) (k := 2) (fun d hd => ?_) (Nat.le_of_ble_eq_true rfl)).up (by decide) (by decide)
          have im2 := A.sm.many
          have h0 : Shw 1 153 (.int (i : Int)) := (sw_int (Nat.lt_of_le_of_lt (show ((i : Int)).natAbs ≤ 256 by omega) (by decide))).up (by decide) (by decide)
          exact all2 h0 (sw_st A hin) d hd
        refine a_cons (e_lstD (a_cons ?_))
        refine e_callF dnu ?_
        tm_at "go"
        refine ⟨_, _, .cons hpl (.cons hstD .nil), rn, fun v8 H8 s8 h8 => ?_⟩
        cases h8
        refine a_cons ?_
        refine e_callF dat ?_
        tm_at "go"
        refine ⟨_, _, .cons (hpl.mono (tp_same s8)) (.cons (.int _) .nil), ra, fun v9 H9 s9 h9 => ?_⟩
        refine a_nil ⟨(Nat.le_of_ble_eq_true rfl), fun l10 H10 s10 n10 g10 => ?_⟩
        refine a_nil ?_
        refine rc_repr (.lst (.of g10) (.cons (.int _) (.cons (Dt.dp (h9.mono (tp_same s10))) .nil))) SW ?_
        refine e_callB (id := "repr") hrp (by decide +kernel) ?_
        refine a_cons (e_lstD ?_)
        tm_at "go"
        refine ⟨(Nat.le_of_ble_eq_true rfl), fun l11 H11 s11 n11 g11 => ?_⟩
        have s8b := s8.trans (s9.trans (s10.trans s11))
        refine a_nil ?_
        refine rc_repr (.lst (.of g11) (.cons (.int _) (.cons (Dt.dp (hstD.mono (tp_same s8b))) .nil))) SW ?_
        refine ro_neS ?_
        rw [decide_eq_true rfl]
        refine ⟨_, rfl, iff0 ?_⟩
        tm_at "go"
        exact ⟨rfl, s8b⟩
      rintro _ H7 ⟨rfl, s7⟩
      refine b_one (s_if (t_w (e := .BoolOp _ _ _) (w_or (t_cmp ?_))))
      refine e_kw knu (k_cons ?_)
      tm_at "go"
      refine k_cons ?_
      tm_at "go"
      refine k_nil ⟨rfl, ?_⟩
      refine ⟨_, _, .cons (hpl.mono (tp_same s7)) (.cons (hstD.mono (tp_same s7)) .nil), rn, fun v8 H8 s8 h8 => ?_⟩
      cases h8
      tm_at "go"
      refine ifnd (fun c1 => absurd rfl c1) (fun _ => ?_)
      refine w_or1 (t_cmp ?_)
      refine e_kw kat (k_cons ?_)
      tm_at "go"
      refine k_cons ?_
      tm_at "go"
      refine k_nil ⟨rfl, ?_⟩
      have s78 := s7.trans s8
      refine ⟨_, _, .cons (hpl.mono (tp_same s78)) (.cons (.int _) .nil), ra, fun v9 H9 s9 h9 => ?_⟩
      tm_at "go"
      refine ro_neD (Dt.dp h9) (Dt.dp (hstD.mono (tp_same (s78.trans s9)))) (shp_st _).ok (shp_st _).ok ?_
      rw [PySem.SeqAt.eqv_refl _ (shp_st _).lay]
      refine ⟨_, rfl, iff0 ?_⟩
      tm_at "go"
      exact ⟨⟨_, _, rfl⟩, s6.trans (s78.trans s9)⟩
    · have e : i = us4.length := by omega
      subst e
      exact .inl ⟨⟨us4, osq, Nat.le_refl _⟩, _, _, rfl, s5⟩
  rintro _ H5 ⟨v5, v6, rfl, s5⟩
  have R5 := R4.same s5
  have hpl : Dt M.K H5 vp (.tuple (cellsD p.rs :: [p.a, p.b, p.g.d])) := R5.pd
  refine b_cons (s_set (by tm_at "at") (e_lstD (a_nil ⟨(Nat.le_of_ble_eq_true rfl), fun l7 H6 s6 n6 g6 => ?_⟩)))
  have R6 := R5.same s6
  refine b_cut (fun σ1 H7 => ∃ v8 us, σ1 = [some vp, some (.str sh), some (.ref ls), some (.ref lt), some (.ref l4), v5, v6, some (.ref l7), v8] ∧ Same H5 H7 ∧ H7 l7 = some (.lst us) ∧ DtAll M.K H7 us (((statesOf (rg p.rs)).take 3).map fun st => .tuple [stD st, .bool true])) ?_ ?_
  · refine s_forW daw ?_
    refine a_cons ?_
    tm_at "go"
    refine ⟨vp, p.rs, [p.a, p.b, p.g.d], rfl, R6.pd, A.sm, fun xs H7 s7 h7 => ?_⟩
    have xl := h7.len
    refine ⟨fun i σ1 H' => i ≤ 2 ∧ ∃ v8 us, σ1 = [some vp, some (.str sh), some (.ref ls), some (.ref lt), some (.ref l4), v5, v6, some (.ref l7), v8] ∧ Same H5 H' ∧ Tp H7 H' ∧ H' l7 = some (.lst us) ∧ us.length = i ∧ DtAll M.K H' us (((statesOf (rg p.rs)).take i).map fun st => .tuple [stD st, .bool true]), ⟨by decide, none, [], rfl, s6.trans s7, Tp.refl _, s7 _ _ g6, rfl, .nil⟩, ?_, ?_⟩
    · rintro i σ' H' y ⟨i2, v8, us, rfl, s8, t8, g8, ul, hu⟩ hy
      obtain ⟨st, hst, hy0⟩ := h7.getV hy
      have hy8 := kTI.k t8 hy0
      have R8 := R5.same s8
      obtain ⟨us8, gs8, hs8⟩ := R8.sts
      obtain ⟨ws8, gt8, ht8⟩ := R8.sta
      refine g_name (by tm_at "at") ?_
      refine b_cut (fun σ1 H9 => ∃ v, σ1 = [some vp, some (.str sh), some (.ref ls), some (.ref lt), some (.ref l4), v5, v6, some (.ref l7), some y] ∧ Same H5 H9 ∧ Tp H7 H9 ∧ H9 l7 = some (.lst (us ++ [v])) ∧ DtAll M.K H9 (us ++ [v]) (((statesOf (rg p.rs)).take (i + 1)).map fun st => .tuple [stD st, .bool true])) ?_ ?_
      · refine s_expr (e_app (e_var (by tm_at "at") ⟨l7, us, rfl, g8, ?_⟩))
        have tupfin : ∀ (bv : Bool) H9, bv = true → Same H' H9 → ∃ ds : List PyData, DtAll M.K H9 [y, .bl bv] ds ∧ [y, V.bl bv].length ≤ 1000 ∧ ∀ v H2, Same H9 H2 → Dt M.K H2 v (.tuple ds) → ∃ us1, H2 l7 = some (.lst us1) ∧ us1 = us ∧ Same H' H2 ∧ Dt M.K H2 v (.tuple [stD st, .bool true]) := fun bv H9 eb s9 => by
          subst eb
          exact ⟨[stD st, .bool true], .cons (ti_d (kTI.k (tp_same s9) hy8)) (.cons (.bl true) .nil), (Nat.le_of_ble_eq_true rfl), fun v H2 s2 hv => ⟨us, (s9.trans s2) _ _ g8, rfl, s9.trans s2, hv⟩⟩
        refine re_cut (P := fun v H9 => ∃ us1, H9 l7 = some (.lst us1) ∧ us1 = us ∧ Same H' H9 ∧ Dt M.K H9 v (.tuple [stD st, .bool true])) ?_ fun v H9 z => ?_
        · refine e_tupD (a_cons (e_var (by tm_at "at") (a_cons (e_and ?_))))
          refine e_cmp (e_listS dst b.list ?_)
          tm_at "go"
          refine ⟨_, _, R8.pd, ⟨p, rfl, P, rfl⟩, few2, fun la ua Ha sa na ga ha => ?_⟩
          tm_at "go"
          refine ro_eqLs ga ha (sa _ _ gt8) (ht8.mono kTI (tp_same sa)) ?_
          rw [decide_eq_true rfl]
          refine ⟨_, rfl, ift ?_⟩
          refine e_bo1 (e_cmp (e_listS dal b.list ?_))
          tm_at "go"
          refine ⟨_, _, R8.pd.mono (tp_same sa), ⟨p.rs, [p.a, p.b, p.g.d], rfl, A.sm, rfl⟩, few, fun lb ub Hb sb nb gb hb => ?_⟩
          tm_at "go"
          refine ro_eqLs gb hb ((sa.trans sb) _ _ gs8) (hs8.mono kTI (tp_same (sa.trans sb))) ?_
          refine a_nil ?_
          exact tupfin _ _ (decide_eq_true rfl) (sa.trans sb)
        · obtain ⟨us1, g9, e9, s9, hv⟩ := z
          rw [e9] at g9
          have ku := kp_upd (o' := .lst (us ++ [v])) g9 (fun _ e => nomatch e) (fun _ _ e => nomatch e)
          refine ⟨us, g9, by omega, ?_⟩
          refine ⟨v, rfl, same_mut (s8.trans s9) n6, t8.trans ((tp_same s9).trans ku.t), upd_same, ?_⟩
          obtain ⟨hh1, hh2⟩ := List.getElem?_eq_some_iff.mp hst
          rw [List.take_succ_eq_append_getElem hh1, hh2, List.map_append]
          exact ((hu.mono (tp_same s9)).mono ku.t).app (.cons (hv.mono ku.t) .nil)
      rintro _ H9 ⟨v, rfl, s9, t9, g9, h9⟩
      refine b_one (s_if (t_cmp ?_))
      tm_at "go"
      refine rc_lenL (.of g9) ?_
      tm_at "go"
      rw [List.length_append, ul, List.length_singleton]
      refine ifd (fun c1 => ?_) (fun c1 => ?_)
      · have e : i = 2 := by omega
        subst e
        refine b_one (s_break ?_)
        exact ⟨_, _, rfl, s9, g9, h9⟩
      · tm_at "go"
        exact ⟨by omega, _, _, rfl, s9, t9, g9, by rw [List.length_append, ul]; rfl, h9⟩
    · rintro σ' H' ⟨i2, v8, us, rfl, s8, t8, g8, ul, hu⟩
      refine ⟨v8, us, rfl, s8, g8, ?_⟩
      rw [List.take_of_length_le (by omega)]
      rw [xl, List.take_length] at hu
      exact hu
  rintro _ H7 ⟨v8, us, rfl, s7, g7, h7⟩
  have R7 := R5.same s7
  refine b_cut (fun σ1 H8 => σ1 = [some vp, some (.str sh), some (.ref ls), some (.ref lt), some (.ref l4), v5, v6, some (.ref l7), v8] ∧ Same H7 H8) ?_ ?_
  · refine s_if (t_cmp ?_)
    obtain ⟨us8, gs8, hs8⟩ := R7.sts
    tm_at "go"
    refine e_lc (own := [("_law_one", 8)]) (Blk.of (N := N__law_is_right) (sc := defScope s__law_is_right) rfl rfl (by decide +kernel)) ?_
    refine lcL_R (S := fun H v st => Dt M.K H v (.tuple [stD st, .bool true])) kTI ⟨fun t h => Dt.mono t h⟩ (fun st => some st) ?_
    refine e_slice ?_
    tm_at "go"
    refine rsl_list (.of gs8) fun lc Hc sc nc gc => ?_
    rw [show (some (3 : Int)) = some ((3 : Nat) : Int) from rfl, cut_to] at gc
    have hc : RAll TI Hc (us8.take 3) ((statesOf (rg p.rs)).take 3) := (hs8.mono kTI (tp_same sc)).take 3
    refine ⟨lc, _, _, rfl, .of gc, hc, by rw [List.length_take]; omega, fun st x H' hm s9 hx => ?_, fun ld ud Hd sd nd gd hd => ?_⟩
    · refine g_name (by tm_at "at") ⟨rfl, rfl, ts_nil ⟨Same.refl _, ift ?_⟩⟩
      refine e_tupD ?_
      tm_at "go"
      refine tupend (ds := [stD st, .bool true]) (.cons (ti_d hx) (.cons (.bl true) .nil)) (Nat.le_of_ble_eq_true rfl) fun v9 H9 s10 h9 => ?_
      exact ⟨s10, st, rfl, h9⟩
    · have e : ∀ l : List St1, l.filterMap (fun st => some st) = l := fun l => by rw [List.filterMap_some]
      rw [e] at hd
      have hd2 : DtAll M.K Hd ud (((statesOf (rg p.rs)).take 3).map fun st => .tuple [stD st, .bool true]) := hd.dts (g := fun st => .tuple [stD st, .bool true]) fun v a z => z
      have sh3 : Shp 4 (.list (((statesOf (rg p.rs)).take 3).map fun st => PyData.tuple [stD st, .bool true])) := by
        refine shp_lst fun d hd => ?_
        obtain ⟨st, _, rfl⟩ := List.mem_map.mp hd
        exact shp_tup (all2 (shp_st st) (shp_bl true))
      refine ro_neD (.lst (.of ((sc.trans sd) _ _ g7)) (DtAll.dp (h7.mono (tp_same (sc.trans sd))))) (.lst (.of gd) (DtAll.dp hd2)) sh3.ok sh3.ok ?_
      rw [PySem.SeqAt.eqv_refl _ sh3.lay]
      refine ⟨_, rfl, iff0 ?_⟩
      tm_at "go"
      exact ⟨rfl, sc.trans sd⟩
  rintro _ H8 ⟨rfl, s8⟩
  have R8 := R7.same s8
  obtain ⟨ws8, gt8, ht8⟩ := R8.sta
  refine b_one (s_ret (e_and (e_cmp (e_listSk kst b.list ?_))))
  tm_at "go"
  refine ⟨_, _, R8.pd, ⟨p, rfl, P, rfl⟩, few2, fun la ua Ha sa na ga ha => ?_⟩
  tm_at "go"
  refine ro_eqLs ga ha (sa _ _ gt8) (ht8.mono kTI (tp_same sa)) ?_
  rw [decide_eq_true rfl]
  refine ⟨_, rfl, ift ?_⟩
  refine e_bo1 (e_cmp ?_)
  refine e_callB (id := "repr") hrp (by decide +kernel) ?_
  tm_at "go"
  refine rc_repG (R8.pd.mono (tp_same sa)) sw ?_
  rw [hsh]
  tm_at "go"
  rw [decide_eq_true rfl]
  exact k _ (s2.trans (s3.trans (s4.trans (s5.trans (s7.trans (s8.trans sa))))))
end K

namespace K
open PySem L2 G
/-! ### a text that is written like a tuple of whole numbers is of that tuple -/
def cl (s : Str) : List Nat := s.cps.toList
def Dg1 (c : Nat) : Bool := decide (c = 45) || (decide (48 ≤ c) && decide (c ≤ 57))
theorem cl_inj {a b : Str} (h : cl a = cl b) : a = b := Str.ext' (Array.toList_inj.mp h)
theorem cl_app (a b : Str) : cl (a ++ b) = cl a ++ cl b := by
  show (a.cps ++ b.cps).toList = _
  rw [Array.toList_append]
  rfl
theorem cl_of (s : String) : cl (Str.ofString s) = s.toList.map Char.toNat := by
  rw [Str.ofString_eq_toList]
  rfl
theorem nat_dig (n : Nat) : ∀ c ∈ (Nat.repr n).toList, 48 ≤ c.toNat ∧ c.toNat ≤ 57 := by
  intro c hc
  have : c.isDigit = true := Nat.isDigit_of_mem_toDigits (b := 10) (n := n) (c := c) (by decide) (by decide) (by simpa [Nat.repr] using hc)
  simp only [Char.isDigit, Bool.and_eq_true, decide_eq_true_eq] at this
  have h1 : 48 ≤ c.val.toNat := this.1
  have h2 : c.val.toNat ≤ 57 := this.2
  exact ⟨h1, h2⟩
theorem nat_inj {n m : Nat} (h : (Nat.repr n).toList = (Nat.repr m).toList) : n = m := by
  have h1 : Nat.toDigits 10 n = Nat.toDigits 10 m := by simpa [Nat.repr] using h
  have h2 := congrArg (fun l => Nat.ofDigitChars 10 l 0) h1
  simp only [Nat.ofDigitChars_ten_toDigits] at h2
  exact h2
theorem nat_ne (n : Nat) : (Nat.repr n).toList ≠ [] := by
  have : (Nat.repr n).toList = Nat.toDigits 10 n := by simp [Nat.repr]
  rw [this]
  exact Nat.toDigits_ne_nil
def itx (i : Int) : List Nat := cl (PyData.shown (.int i))
theorem itx_nat (n : Nat) : itx (.ofNat n) = (Nat.repr n).toList.map Char.toNat := by
  unfold itx
  simp only [PyData.shown]
  exact cl_of _
theorem itx_neg (n : Nat) : itx (.negSucc n) = 45 :: (Nat.repr (n + 1)).toList.map Char.toNat := by
  unfold itx
  simp only [PyData.shown]
  rw [cl_of]
  show (("-" ++ Nat.repr (n + 1)).toList).map Char.toNat = _
  rw [String.toList_append, List.map_append]
  rfl
theorem itx_dig (i : Int) : ∀ c ∈ itx i, Dg1 c = true := by
  have key : ∀ n, ∀ c ∈ (Nat.repr n).toList.map Char.toNat, Dg1 c = true := by
    intro n c hc
    obtain ⟨ch, hch, rfl⟩ := List.mem_map.mp hc
    obtain ⟨h1, h2⟩ := nat_dig n ch hch
    unfold Dg1
    rw [decide_eq_true h1, decide_eq_true h2, Bool.and_self, Bool.or_true]
  intro c hc
  cases i with
  | ofNat n =>
    rw [itx_nat] at hc
    exact key n c hc
  | negSucc n =>
    rw [itx_neg] at hc
    rcases List.mem_cons.mp hc with rfl | hc
    · rfl
    · exact key _ c hc
theorem itx_ne (i : Int) : itx i ≠ [] := by
  cases i with
  | ofNat n =>
    rw [itx_nat]
    exact fun h => nat_ne n (List.map_eq_nil_iff.mp h)
  | negSucc n =>
    rw [itx_neg]
    exact fun h => nomatch h
theorem map_inj {a b : List Char} (h : a.map Char.toNat = b.map Char.toNat) : a = b := by
  induction a generalizing b with
  | nil =>
    cases b with
    | nil => rfl
    | cons => cases h
  | cons x a ih =>
    cases b with
    | nil => cases h
    | cons y b =>
      rw [List.map_cons, List.map_cons, List.cons.injEq] at h
      rw [ih h.2, Char.toNat_inj.mp h.1]
theorem itx_inj {i j : Int} (h : itx i = itx j) : i = j := by
  have no : ∀ (n m : Nat), (Nat.repr n).toList.map Char.toNat ≠ 45 :: (Nat.repr (m + 1)).toList.map Char.toNat := by
    intro n m e
    have hm : 45 ∈ (Nat.repr n).toList.map Char.toNat := by rw [e]; exact List.mem_cons_self ..
    obtain ⟨ch, hch, e2⟩ := List.mem_map.mp hm
    have := (nat_dig n ch hch).1
    omega
  cases i with
  | ofNat n =>
    cases j with
    | ofNat m =>
      rw [itx_nat, itx_nat] at h
      rw [nat_inj (map_inj h)]
    | negSucc m =>
      rw [itx_nat, itx_neg] at h
      exact absurd h (no n m)
  | negSucc n =>
    cases j with
    | ofNat m =>
      rw [itx_nat, itx_neg] at h
      exact absurd h.symm (no m n)
    | negSucc m =>
      rw [itx_neg, itx_neg, List.cons.injEq] at h
      have := nat_inj (map_inj h.2)
      obtain rfl : n = m := by omega
      rfl
theorem text_pre : ∀ (ts : List Str) (k : Nat) (acc : Str), ∃ r, cl (textFrom k acc ts) = cl acc ++ r
  | [], _, _ => ⟨[], by rw [List.append_nil]; rfl⟩
  | t :: ts, k, acc => by
    obtain ⟨r, e⟩ := text_pre ts (k + 1) (acc ++ (if k > 0 then ", " else "" : String) ++ t)
    refine ⟨cl ((if k > 0 then ", " else "" : String) : Str) ++ (cl t ++ r), e.trans ?_⟩
    rw [cl_app, cl_app, List.append_assoc, List.append_assoc]
theorem fold_app (g : Nat → List Nat) : ∀ (l : List Nat) (acc : Array Nat), (l.foldl (fun out c => out ++ (g c).toArray) acc).toList = acc.toList ++ l.flatMap g
  | [], acc => by simp
  | c :: l, acc => by
    rw [List.foldl_cons, fold_app g l, Array.toList_append, List.flatMap_cons, List.append_assoc]
theorem head_str (x : Str) : ∃ c r, cl (reprText x) = c :: r ∧ (c = 34 ∨ c = 39) := by
  unfold reprText cl
  rw [← Array.foldl_toList]
  refine ⟨reprQuote x, x.cps.toList.flatMap (fun c => Builtin.Str.reprChar (reprQuote x) c) ++ [reprQuote x], ?_, ?_⟩
  · show Array.toList (Array.push _ _) = _
    rw [Array.toList_push, fold_app (fun c => Builtin.Str.reprChar (reprQuote x) c)]
    rfl
  · unfold reprQuote
    split
    · exact .inl rfl
    · exact .inr rfl
/-- how a text that is no whole number begins -/
theorem head_other (d : PyData) (h : isInt d = false) : ∃ c r, cl d.shown = c :: r ∧ Dg1 c = false := by
  cases d with
  | none => exact ⟨78, [111, 110, 101], by simp only [PyData.shown]; rfl, rfl⟩
  | bool b =>
    cases b with
    | true => exact ⟨84, [114, 117, 101], by simp only [PyData.shown]; rfl, rfl⟩
    | false => exact ⟨70, [97, 108, 115, 101], by simp only [PyData.shown]; rfl, rfl⟩
  | int => cases h
  | str x =>
    obtain ⟨c, r, e, hc⟩ := head_str x
    refine ⟨c, r, by simp only [PyData.shown]; exact e, ?_⟩
    rcases hc with rfl | rfl <;> rfl
  | list xs =>
    obtain ⟨r, e⟩ := text_pre (PyData.shownAll xs) 0 "["
    refine ⟨91, r ++ [93], ?_, rfl⟩
    simp only [PyData.shown, listText]
    rw [cl_app, e]
    rfl
  | tuple xs =>
    simp only [PyData.shown, tupleText]
    rw [cl_app, cl_app]
    exact ⟨40, _, rfl, rfl⟩
  | dict kvs =>
    simp only [PyData.shown, dictText]
    rw [cl_app, cl_app]
    exact ⟨123, _, rfl, rfl⟩
theorem dig_split {a b u v : List Nat} (ha : ∀ c ∈ a, Dg1 c = true) (hb : ∀ c ∈ b, Dg1 c = true) (hu : ∀ c r, u = c :: r → Dg1 c = false) (hv : ∀ c r, v = c :: r → Dg1 c = false) (h : a ++ u = b ++ v) : a = b ∧ u = v := by
  induction a generalizing b with
  | nil =>
    cases b with
    | nil => exact ⟨rfl, h⟩
    | cons y b =>
      have := hu y (b ++ v) (by simpa using h)
      rw [hb y (List.mem_cons_self ..)] at this
      cases this
  | cons x a ih =>
    cases b with
    | nil =>
      have := hv x (a ++ u) (by simpa using h.symm)
      rw [ha x (List.mem_cons_self ..)] at this
      cases this
    | cons y b =>
      rw [List.cons_append, List.cons_append, List.cons.injEq] at h
      obtain ⟨e1, e2⟩ := ih (fun c hc => ha c (List.mem_cons_of_mem _ hc)) (fun c hc => hb c (List.mem_cons_of_mem _ hc)) h.2
      exact ⟨by rw [h.1, e1], e2⟩
theorem one_split {d : PyData} {n : Int} {u v : List Nat} (hu : ∀ c r, u = c :: r → Dg1 c = false) (hv : ∀ c r, v = c :: r → Dg1 c = false) (h : cl d.shown ++ u = itx n ++ v) : d = .int n ∧ u = v := by
  cases hd : isInt d with
  | true =>
    obtain ⟨m, rfl⟩ : ∃ m, d = .int m := by cases d <;> first | exact ⟨_, rfl⟩ | cases hd
    obtain ⟨e1, e2⟩ := dig_split (itx_dig m) (itx_dig n) hu hv h
    rw [itx_inj e1]
    exact ⟨rfl, e2⟩
  | false =>
    obtain ⟨c, r, e, hc⟩ := head_other d hd
    cases hn : itx n with
    | nil => exact absurd hn (itx_ne n)
    | cons y z =>
      rw [e, hn, List.cons_append, List.cons_append, List.cons.injEq] at h
      have := itx_dig n y (by rw [hn]; exact List.mem_cons_self ..)
      rw [← h.1, hc] at this
      cases this
def Jn : List (List Nat) → List Nat
  | [] => []
  | [x] => x
  | x :: y :: r => x ++ ([44, 32] ++ Jn (y :: r))
theorem join_cl : ∀ ts : List Str, cl (Str.join ", " ts) = Jn (ts.map cl)
  | [] => rfl
  | [x] => rfl
  | x :: y :: r => by
    show cl (x ++ ", " ++ Str.join ", " (y :: r)) = cl x ++ ([44, 32] ++ Jn ((y :: r).map cl))
    rw [cl_app, cl_app, join_cl (y :: r), List.append_assoc]
    rfl
theorem all_map : ∀ ds : List PyData, PyData.shownAll ds = ds.map PyData.shown
  | [] => by simp only [PyData.shownAll, List.map_nil]
  | d :: ds => by simp only [PyData.shownAll, List.map_cons, all_map ds]
def endB (n : Nat) : List Nat := if n = 1 then [44, 41] else [41]
theorem tup_cl (ds : List PyData) : cl (PyData.shown (.tuple ds)) = 40 :: (Jn (ds.map fun d => cl d.shown) ++ endB ds.length) := by
  simp only [PyData.shown, tupleText]
  rw [cl_app, cl_app, join_cl, all_map, List.map_map]
  have e : cl (if (ds.map PyData.shown).length == 1 then ",)" else ")" : String) = endB ds.length := by
    rw [List.length_map]
    unfold endB
    by_cases h : ds.length = 1
    · rw [if_pos h, if_pos (by simpa using h)]; rfl
    · rw [if_neg h, if_neg (by simpa using h)]; rfl
  rw [e]
  rfl
theorem end_nd (n : Nat) : ∀ c r, endB n = c :: r → Dg1 c = false := by
  intro c r h
  unfold endB at h
  split at h <;> cases h <;> rfl
theorem jn_inj : ∀ (ns : List Int) (ds : List PyData) (a b : Nat), ds ≠ [] → ns ≠ [] → Jn (ds.map fun d => cl d.shown) ++ endB a = Jn (ns.map itx) ++ endB b → ds = ns.map .int
  | [], _, _, _, _, h, _ => absurd rfl h
  | _, [], _, _, h, _, _ => absurd rfl h
  | [n], [d], a, b, _, _, h => by
    obtain ⟨e, _⟩ := one_split (end_nd a) (end_nd b) (show cl d.shown ++ endB a = itx n ++ endB b from h)
    rw [e]
    rfl
  | [n], d :: d2 :: ds, a, b, _, _, h => by
    have h : cl d.shown ++ ([44, 32] ++ Jn ((d2 :: ds).map fun d => cl d.shown)) ++ endB a = itx n ++ endB b := h
    rw [List.append_assoc] at h
    obtain ⟨_, e⟩ := one_split (by intro c r h; cases h; rfl) (end_nd b) h
    unfold endB at e
    split at e <;> split at e <;> simp at e
  | n :: n2 :: ns, [d], a, b, _, _, h => by
    have h : cl d.shown ++ endB a = itx n ++ ([44, 32] ++ Jn ((n2 :: ns).map itx)) ++ endB b := h
    rw [List.append_assoc] at h
    obtain ⟨_, e⟩ := one_split (end_nd a) (by intro c r h; cases h; rfl) h
    unfold endB at e
    split at e <;> split at e <;> simp at e
  | n :: n2 :: ns, d :: d2 :: ds, a, b, _, _, h => by
    have h : cl d.shown ++ ([44, 32] ++ Jn ((d2 :: ds).map fun d => cl d.shown)) ++ endB a = itx n ++ ([44, 32] ++ Jn ((n2 :: ns).map itx)) ++ endB b := h
    rw [List.append_assoc, List.append_assoc (itx n)] at h
    obtain ⟨e1, e⟩ := one_split (by intro c r h; cases h; rfl) (by intro c r h; cases h; rfl) h
    have e2 : Jn ((d2 :: ds).map fun d => cl d.shown) ++ endB a = Jn ((n2 :: ns).map itx) ++ endB b := by
      have := List.append_cancel_left (as := [44, 32]) (by simpa only [List.append_assoc] using e)
      exact this
    have ih := jn_inj (n2 :: ns) (d2 :: ds) a b (fun z => nomatch z) (fun z => nomatch z) e2
    rw [ih, e1]
    rfl
theorem shown_st {d : PyData} {st : List Int} (h : d.shown = (stD st).shown) : d = stD st := by
  have h := congrArg cl h
  unfold stD at h ⊢
  rw [tup_cl] at h
  cases d with
  | tuple ds =>
    rw [tup_cl, List.cons.injEq] at h
    have h := h.2
    rw [List.map_map] at h
    have h : Jn (ds.map fun d => cl d.shown) ++ endB ds.length = Jn (st.map itx) ++ endB (st.map PyData.int).length := h
    congr 1
    cases ds with
    | nil =>
      cases st with
      | nil => rfl
      | cons n ns =>
        have h : [41] = Jn ((n :: ns).map itx) ++ endB _ := h
        have key : ∃ y z, Jn ((n :: ns).map itx) = y :: z ∧ Dg1 y = true := by
          cases hn : itx n with
          | nil => exact absurd hn (itx_ne n)
          | cons y z =>
            have hy := itx_dig n y (by rw [hn]; exact List.mem_cons_self ..)
            cases ns with
            | nil => exact ⟨y, z, hn, hy⟩
            | cons m ns =>
              refine ⟨y, z ++ ([44, 32] ++ Jn ((m :: ns).map itx)), ?_, hy⟩
              show itx n ++ ([44, 32] ++ Jn ((m :: ns).map itx)) = _
              rw [hn]
              rfl
        obtain ⟨y, z, e, hy⟩ := key
        rw [e, List.cons_append, List.cons.injEq] at h
        rw [← h.1] at hy
        cases hy
    | cons d ds =>
      cases st with
      | nil =>
        exfalso
        have h : Jn ((d :: ds).map fun d => cl d.shown) ++ endB (d :: ds).length = [41] := h
        have hl := congrArg List.length h
        rw [List.length_append] at hl
        cases ds with
        | nil => simp [endB] at hl
        | cons d2 ds => simp [Jn, endB] at hl
      | cons n ns => exact jn_inj _ _ _ _ (fun z => nomatch z) (fun z => nomatch z) h
  | int i =>
    exfalso
    cases hn : itx i with
    | nil => exact itx_ne i hn
    | cons y z =>
      have hy := itx_dig i y (by rw [hn]; exact List.mem_cons_self ..)
      have h : itx i = 40 :: _ := h
      rw [hn, List.cons.injEq] at h
      rw [h.1] at hy
      cases hy
  | none => simp only [PyData.shown] at h; exact absurd (List.cons.inj h).1 (by decide)
  | bool b => cases b <;> (simp only [PyData.shown] at h; exact absurd (List.cons.inj h).1 (by decide))
  | str x =>
    obtain ⟨c, r, e, hc⟩ := head_str x
    simp only [PyData.shown] at h
    rw [e, List.cons.injEq] at h
    rcases hc with rfl | rfl
    · exact absurd h.1 (by decide)
    · exact absurd h.1 (by decide)
  | list xs =>
    obtain ⟨r, e⟩ := text_pre (PyData.shownAll xs) 0 "["
    simp only [PyData.shown, listText] at h
    rw [cl_app, e] at h
    have h : 91 :: _ = 40 :: _ := h
    exact absurd (List.cons.inj h).1 (by decide)
  | dict kvs =>
    simp only [PyData.shown, dictText] at h
    rw [cl_app, cl_app] at h
    have h : 123 :: _ = 40 :: _ := h
    exact absurd (List.cons.inj h).1 (by decide)
end K

namespace K
open PySem PySem.Spec PyProof.Rows L2 G
variable {M : Md}
/-! ### things that may be starts -/
def TH (K : PySem.W.Frag) : Hp → V → PyData → Prop := fun H v d => Dt K H v d ∧ Shw 60 1000000 d
theorem kTH {K : PySem.W.Frag} : Keeps (TH K) := ⟨fun t h => ⟨Dt.mono t h.1, h.2⟩⟩
theorem th_of {K : PySem.W.Frag} {H : Hp} {us : List V} {es : List St1} (h : RAll TI H us es) : (∀ e ∈ es, Shw 60 1000000 (stD e)) → RAll (TH K) H us (es.map stD) := by
  induction h with
  | nil => intro _; exact .nil
  | cons h _ ih => intro s; exact .cons ⟨ti_d h, s _ (List.mem_cons_self ..)⟩ (ih fun e he => s e (List.mem_cons_of_mem _ he))
theorem sw_ints {ns : List Int} (h : ns.length ≤ 20) (hv : ∀ v ∈ ns, v.natAbs ≤ 1000) : Shw 1 303 (stD ns) := by
  refine sw_tup (m := 0) (n := 13) (k := 20) (fun d hd => ?_) (by rw [List.length_map]; exact h)
  obtain ⟨i, hi, rfl⟩ := List.mem_map.mp hd
  exact sw_int (Nat.lt_of_le_of_lt (hv i hi) (by decide))
theorem sw_bools {bs : List Bool} (h : bs.length ≤ 20) : Shw 1 303 (.tuple (bs.map .bool)) := by
  refine sw_tup (m := 0) (n := 13) (k := 20) (fun d hd => ?_) (by rw [List.length_map]; exact h)
  obtain ⟨i, hi, rfl⟩ := List.mem_map.mp hd
  exact (sw_bool i).up (Nat.le_refl _) (by decide)
theorem sw_lints {ns : List Int} (h : ns.length ≤ 20) (hv : ∀ v ∈ ns, v.natAbs ≤ 1000) : Shw 1 303 (.list (ns.map .int)) := by
  refine sw_lst (m := 0) (n := 13) (k := 20) (fun d hd => ?_) (by rw [List.length_map]; exact h)
  obtain ⟨i, hi, rfl⟩ := List.mem_map.mp hd
  exact sw_int (Nat.lt_of_le_of_lt (hv i hi) (by decide))
theorem st_lim {rs : List Row} (A : RowsAll rs) {st : St1} (h : st ∈ statesOf (rg rs)) : st.length ≤ 10 ∧ ∀ v ∈ st, v.natAbs ≤ 10 := by
  have S := stok_of A h
  exact ⟨by rw [S.len]; exact S.tot, fun v hv => by have := S.val v hv; omega⟩
/-- a new list is locked -/
theorem lockNew {K : PySem.W.Frag} {H0 H1 : Hp} {p : Addr} {us : List V} {ds : List PyData} (s : Same H0 H1) (n : H0 p = none) (g : H1 p = some (.lst us)) (h : DtAll K H1 us ds) (od : Obj) :
    Same H0 (upd H1 p (.frz od (.lst us))) ∧ Dt K (upd H1 p (.frz od (.lst us))) (.ref p) (.list ds) := by
  have kfz := kp_upd (o' := .frz od (.lst us)) g (fun _ e => nomatch e) (fun _ _ e => nomatch e)
  exact ⟨same_mut s n, .lst upd_same (h.mono kfz.t)⟩
/-- a text among texts -/
theorem ro_inSL {c : Cd} {H : Hp} {Q : VK} {l : Addr} {w : Str} {ws : List Str} (hl : SqL c.K H l (ws.map V.str)) (q : Q (.bl (decide (w ∈ ws))) H) : RQ c .In (.str w) (.ref l) H Q := by
  refine rq_of (r := rIn c.K false) (fun X h => by rw [← h.K]; exact op_in_seq) ⟨l, _, rfl, .inl hl, rfl, by simp [flatV], ?_⟩
  show Q (.bl (inV (.str w) (ws.map .str))) H
  rw [inS]
  exact q
def iV : Hp → V → Int → Prop := fun _ v i => v = .int i
theorem kiV : Keeps iV := ⟨fun _ h => h⟩
theorem rall_iV {H : Hp} : ∀ ns : List Int, RAll iV H (ns.map V.int) ns
  | [] => .nil
  | n :: ns => .cons rfl (rall_iV ns)
def dV (K : PySem.W.Frag) : Hp → V → PyData → Prop := fun H v d => Dt K H v d
theorem kdV {K : PySem.W.Frag} : Keeps (dV K) := ⟨fun t h => Dt.mono t h⟩
theorem rall_dV {K : PySem.W.Frag} {H : Hp} {us : List V} {ds : List PyData} (h : RAll (dV K) H us ds) : DtAll K H us ds := by
  induction h with
  | nil => exact .nil
  | cons h _ ih => exact .cons h ih
theorem fm_map {α β : Type} (g : α → β) (l : List α) : l.filterMap (fun a => some (g a)) = l.map g := by
  induction l with
  | nil => rfl
  | cons a l ih => rw [List.filterMap_cons, List.map_cons, ih]
def sV : Hp → V → Str → Prop := fun _ v i => v = .str i
theorem ksV : Keeps sV := ⟨fun _ h => h⟩
theorem rall_sV {H : Hp} {us : List V} {ws : List Str} (h : RAll sV H us ws) : us = ws.map V.str := by
  induction h with
  | nil => rfl
  | cons h _ ih => rw [h, ih]; rfl
theorem due_ok {p : Pc} {d : PyData} : decide (d.shown ∈ (startsOf p.rs p.g).map fun st => (stD st).shown) = isGood p d := by
  rw [Bool.eq_iff_iff, decide_eq_true_eq, isGood_iff]
  constructor
  · intro h
    obtain ⟨st, hs, e⟩ := List.mem_map.mp h
    exact ⟨st, shown_st e.symm, hs⟩
  · rintro ⟨st, rfl, hs⟩
    exact List.mem_map.mpr ⟨st, hs, rfl⟩
def spSr (K : PySem.W.Frag) : Sp := fun vs H Q _ => ∃ (fp cl : Addr) (v : V) (p : Pc), vs = [.ref fp, v] ∧ Feed K H fp cl ∧ Dt K H v p.d ∧ PcOk p ∧ ∀ H', Kp fp H H' → Feed K H' fp cl → Q (.bl true) H'
structure Sw (K : PySem.W.Frag) (fp cl : Addr) (p : Pc) (vp : V) (ls lt : Addr) (H : Hp) : Prop where
  fd : Feed K H fp cl
  rt : Rt K p vp ls lt H
  nls : ls ≠ fp
  nlt : lt ≠ fp
theorem Sw.same {K : PySem.W.Frag} {fp cl : Addr} {p : Pc} {vp : V} {ls lt : Addr} {H H' : Hp} (h : Sw K fp cl p vp ls lt H) (s : Same H H') : Sw K fp cl p vp ls lt H' := ⟨h.fd.same s, h.rt.same s, h.nls, h.nlt⟩
theorem Sw.kp {K : PySem.W.Frag} {fp cl : Addr} {p : Pc} {vp : V} {ls lt : Addr} {H H' : Hp} (h : Sw K fp cl p vp ls lt H) (k : Kp fp H H') (f : Feed K H' fp cl) : Sw K fp cl p vp ls lt H' :=
  ⟨f, ⟨h.rt.pd.mono k.t, let ⟨us, g, r⟩ := h.rt.sts; ⟨us, k.k _ _ h.nls g, r.mono kTI k.t⟩, let ⟨us, g, r⟩ := h.rt.sta; ⟨us, k.k _ _ h.nlt g, r.mono kTI k.t⟩⟩, h.nls, h.nlt⟩
set_option maxHeartbeats 4000000 in
theorem ok_sright {f fd} (F : Fun M.K "_law_start_right" "_law_start_right" s__law_start_right f fd) (b : Bl M) (hrp : M.mg "repr" = none) (dls : dcLS M) (dlt : dcLSt M) (dod : dcOdd M) (dis : dcIs M) (kis : DcK M "is_start" ["program", "thing"] ["thing", "program"] List.reverse 10 (spF rIs M.K)) :
    FnQ M.prog M.w M.K M.mg M.base CX0 12 f fd ["_law_feed_here", "_law_place"] (spSr M.K) := by
  refine fn_okQ F sc__law_start_right (fun vs H Q E h => ?_) (fun H vs Q E h => ?_)
  · obtain ⟨fp, cl, v, p, rfl, _⟩ := h
    rfl
  obtain ⟨fp, cl, vp, p, rfl, hf, hp, P, k⟩ := h
  have hp0 : Dt M.K H vp (.tuple (cellsD p.rs :: [p.a, p.b, p.g.d])) := hp
  have A := P.all
  have few := sts_few A
  have few2 := starts_few A p.g
  refine b_cut (fun σ1 H1 => ∃ ls lt, σ1 = [some (.ref fp), some vp, some (.ref ls), some (.ref lt), none, none, none, none, none] ∧ Same H H1 ∧ Sw M.K fp cl p vp ls lt H1) ?_ ?_
  · refine s_par2 (by tm_at "at") (by tm_at "at") ?_
    refine e_callR dls ?_
    tm_at "go"
    refine rx_tup hp0 (d := cellsD p.rs) (pl_at (j := 0) rfl rfl) fun v1 h1 => ?_
    refine a_nil ?_
    refine ⟨_, _, .cons h1 .nil, ⟨p.rs, rfl, A.sm, rfl⟩, fun ls us H1 s1 n1 g1 h2 => ?_⟩
    refine e_callR dlt ?_
    tm_at "go"
    refine ⟨_, _, .cons (hp0.mono (tp_same s1)) .nil, ⟨p, rfl, P, rfl⟩, fun lt ws H2 s2 n2 g2 h3 => ?_⟩
    exact ⟨ls, lt, rfl, s1.trans s2, ⟨hf.same (s1.trans s2), ⟨hp.mono (tp_same (s1.trans s2)), ⟨us, s2 _ _ g1, h2.mono kTI (tp_same s2)⟩, ⟨ws, g2, h3⟩⟩, ne_feed hf (Same.refl _) n1, ne_feed hf s1 n2⟩⟩
  rintro _ H1 ⟨ls, lt, rfl, s1, W1⟩
  -- the first things
  refine b_cut (fun σ1 H2 => ∃ l4 us ds, σ1 = [some (.ref fp), some vp, some (.ref ls), some (.ref lt), some (.ref l4), none, none, none, none] ∧ Same H1 H2 ∧ l4 ≠ fp ∧ H2 l4 = some (.lst us) ∧ RAll (TH M.K) H2 us ds ∧ ds.length ≤ 4) ?_ ?_
  · obtain ⟨us, gs, hs⟩ := W1.rt.sts
    refine s_set (by tm_at "at") (e_bin ?_)
    refine e_lc (own := [("_law_stand", 7)]) (Blk.of (N := N__law_start_right) (sc := defScope s__law_start_right) rfl rfl (by decide +kernel)) ?_
    refine lcL_R (S := TH M.K) kTI kTH (fun st => some (stD (G.cutD st none (some (-1))))) ?_
    refine e_slice ?_
    tm_at "go"
    refine rsl_list (.of gs) fun lc Hc sc nc gc => ?_
    rw [show (some (2 : Int)) = some ((2 : Nat) : Int) from rfl, cut_to] at gc
    have hc : RAll TI Hc (us.take 2) ((statesOf (rg p.rs)).take 2) := (hs.mono kTI (tp_same sc)).take 2
    refine ⟨lc, _, _, rfl, .of gc, hc, by rw [List.length_take]; omega, fun st x H' hm s9 hx => ?_, fun la ua Ha sa na ga ha => ?_⟩
    · refine g_name (by tm_at "at") ⟨rfl, rfl, ts_nil ⟨Same.refl _, ift ?_⟩⟩
      refine e_slice ?_
      tm_at "go"
      refine rsl_TI hx fun v9 H9 s10 h9 => ?_
      have lim := st_lim A (List.mem_of_mem_take hm)
      refine ⟨s10, _, rfl, ti_d h9, (sw_ints (ns := G.cutD st none (some (-1))) ?_ fun v hv => ?_).up (by decide) (by decide)⟩
      · unfold G.cutD
        rw [List.length_take, List.length_drop]
        omega
      · unfold G.cutD at hv
        have := lim.2 v (List.mem_of_mem_drop (List.mem_of_mem_take hv))
        omega
    · have la2 : ua.length ≤ 2 := by rw [ha.len]; exact Nat.le_trans (List.length_filterMap_le _ _) (by rw [List.length_take]; omega)
      have gs2 := (sc.trans sa) _ _ gs
      refine e_lc (own := [("_law_stand", 7)]) (Blk.of (N := N__law_start_right) (sc := defScope s__law_start_right) rfl rfl (by decide +kernel)) ?_
      refine lcL_R (S := TH M.K) kTI kTH (fun st => some (stD (st ++ [0]))) ?_
      refine e_slice ?_
      tm_at "go"
      refine rsl_list (.of gs2) fun lc2 Hc2 sc2 nc2 gc2 => ?_
      rw [show (some (2 : Int)) = some ((2 : Nat) : Int) from rfl, cut_to] at gc2
      have hc2 : RAll TI Hc2 (us.take 2) ((statesOf (rg p.rs)).take 2) := (hs.mono kTI (tp_same (sc.trans (sa.trans sc2)))).take 2
      refine ⟨lc2, _, _, rfl, .of gc2, hc2, by rw [List.length_take]; omega, fun st x H' hm s9 hx => ?_, fun lb ub Hb sb nb gb hb => ?_⟩
      · refine g_name (by tm_at "at") ⟨rfl, rfl, ts_nil ⟨Same.refl _, ift ?_⟩⟩
        tm_at "go"
        refine e_tupTI ?_
        tm_at "go"
        have lim := st_lim A (List.mem_of_mem_take hm)
        refine ⟨[_], rfl, (Nat.le_of_ble_eq_true rfl), fun vp H6 s6 hp6 => ?_⟩
        refine ro_catTI (kTI.k (tp_same s6) hx) hp6 (by rw [List.length_singleton]; omega) fun v7 H7 s7 h7 => ?_
        refine ⟨s6.trans s7, _, rfl, ti_d h7, (sw_ints (ns := st ++ [0]) (by rw [List.length_append, List.length_singleton]; omega) fun v hv => ?_).up (by decide) (by decide)⟩
        rcases List.mem_append.mp hv with hv | hv
        · have := lim.2 v hv
          omega
        · rw [List.mem_singleton.mp hv]
          decide
      · have lb2 : ub.length ≤ 2 := by rw [hb.len]; exact Nat.le_trans (List.length_filterMap_le _ _) (by rw [List.length_take]; omega)
        refine ro_cat ((sc2.trans sb) _ _ ga) gb (by omega) fun l4 H4 s4 n4 g4 => ?_
        have sH : Same H1 Hb := sc.trans (sa.trans (sc2.trans sb))
        refine ⟨l4, _, _, rfl, sH.trans s4, ne_feed W1.fd sH n4, g4, ((ha.mono kTH (tp_same (sc2.trans (sb.trans s4)))).app (hb.mono kTH (tp_same s4))), ?_⟩
        rw [List.length_append, ← ha.len, ← hb.len]
        omega
  rintro _ H2 ⟨l4, u4, d4, rfl, s2, n4, g4, h4, m4⟩
  have W2 := W1.same s2
  -- lists, and the odd things
  refine b_cut (fun σ1 H3 => ∃ l5 us ds, σ1 = [some (.ref fp), some vp, some (.ref ls), some (.ref lt), some (.ref l5), none, none, none, none] ∧ Kp fp H2 H3 ∧ Sw M.K fp cl p vp ls lt H3 ∧ l5 ≠ fp ∧ H3 l5 = some (.lst us) ∧ RAll (TH M.K) H3 us ds ∧ ds.length ≤ 11) ?_ ?_
  · obtain ⟨us, gs, hs⟩ := W2.rt.sts
    refine s_set (by tm_at "at") (e_bin (e_bin (e_var (by tm_at "at") ?_)))
    refine e_lc (own := [("_law_stand", 7)]) (Blk.of (N := N__law_start_right) (sc := defScope s__law_start_right) rfl rfl (by decide +kernel)) ?_
    refine lcL_R (S := TH M.K) kTI kTH (fun st => some (.list (st.map PyData.int))) ?_
    refine e_slice ?_
    tm_at "go"
    refine rsl_list (.of gs) fun lc Hc sc nc gc => ?_
    rw [show (some (2 : Int)) = some ((2 : Nat) : Int) from rfl, cut_to] at gc
    have hc : RAll TI Hc (us.take 2) ((statesOf (rg p.rs)).take 2) := (hs.mono kTI (tp_same sc)).take 2
    refine ⟨lc, _, _, rfl, .of gc, hc, by rw [List.length_take]; omega, fun st x H' hm s9 hx => ?_, fun la ua Ha sa na ga ha => ?_⟩
    · refine g_name (by tm_at "at") ⟨rfl, rfl, ts_nil ⟨Same.refl _, ift ?_⟩⟩
      have lim := st_lim A (List.mem_of_mem_take hm)
      refine e_freeze ?_
      tm_at "go"
      refine rc_lstT (ti_d hx) fun l ys H6 s6 n6 g6 h6 => ⟨l, _, g6, True.intro, fun od => ?_⟩
      obtain ⟨e1, e2⟩ := lockNew s6 n6 g6 h6 od
      exact ⟨e1, _, rfl, e2, (sw_lints (ns := st) (by omega) fun v hv => by have := lim.2 v hv; omega).up (by decide) (by decide)⟩
    · have la2 : ua.length ≤ 2 := by rw [ha.len]; exact Nat.le_trans (List.length_filterMap_le _ _) (by rw [List.length_take]; omega)
      have l4e := h4.len
      refine ro_cat ((sc.trans sa) _ _ g4) ga (by omega) fun lA HA sA nA gA => ?_
      have sA1 : Same H2 HA := sc.trans (sa.trans sA)
      have rA := (h4.mono kTH (tp_same sA1)).app (ha.mono kTH (tp_same sA))
      have nfA := ne_feed W2.fd (sc.trans sa) nA
      have dA : (d4 ++ ((statesOf (rg p.rs)).take 2).filterMap fun st => some (PyData.list (st.map PyData.int))).length ≤ 6 := by
        rw [List.length_append, ← ha.len]
        omega
      refine e_lstD (a_cons ?_)
      refine e_callD dod ?_
      tm_at "go"
      refine ⟨fp, cl, _, _, rfl, W2.fd.same sA1, .nil, rfl, fun d v HB hd kB fB hv => ?_⟩
      tm_at "go"
      refine e_tupD ?_
      tm_at "go"
      refine tupend (ds := [.none]) (.cons .non .nil) (Nat.le_of_ble_eq_true rfl) fun v1 H6 s6 h6 => ?_
      refine a_cons (e_tupD (a_cons (e_tupD ?_)))
      tm_at "go"
      refine tupend (ds := [.int 0]) (.cons (.int 0) .nil) (Nat.le_of_ble_eq_true rfl) fun v2 H7 s7 h7 => ?_
      refine a_nil ?_
      refine tupend (ds := [.tuple [.int 0]]) (.cons h7 .nil) (Nat.le_of_ble_eq_true rfl) fun v3 H8 s8 h8 => ?_
      tm_at "go"
      refine ⟨(Nat.le_of_ble_eq_true rfl), fun lB H9 s9 n9 g9 => ?_⟩
      have sB : Same HB H9 := s6.trans (s7.trans (s8.trans s9))
      have kg : ∀ d : PyData, gd 200 d = true → d.depth ≤ 2 → wt d ≤ 200 → Shw 60 1000000 d := fun d a1 a2 a3 => (show GdL 200 2 200 d from ⟨a1, a2, a3⟩).shw (by decide) (by decide) (by decide)
      have od := odds_gd d hd
      have r9 : RAll (TH M.K) H9 [v, .non, v1, v3, .str "x"] [d, .none, .tuple [.none], .tuple [.tuple [.int 0]], .str "x"] :=
        .cons ⟨hv.mono (tp_same sB), kg d od.1 od.2.1 od.2.2⟩ (.cons ⟨.non, kg _ (by decide +kernel) (by decide +kernel) (by decide +kernel)⟩ (.cons ⟨h6.mono (tp_same (s7.trans (s8.trans s9))), kg _ (by decide +kernel) (by decide +kernel) (by decide +kernel)⟩
          (.cons ⟨h8.mono (tp_same s9), kg _ (by decide +kernel) (by decide +kernel) (by decide +kernel)⟩ (.cons ⟨.str _, kg _ (by decide +kernel) (by decide +kernel) (by decide +kernel)⟩ .nil))))
      have gA2 := sB _ _ (kB.k _ _ nfA gA)
      refine ro_cat gA2 g9 (by rw [rA.len]; exact Nat.le_trans (Nat.add_le_add_right dA 5) (by decide)) fun lC HC sC nC gC => ?_
      have kC : Kp fp H2 HC := (kp_same sA1).trans (kB.trans (kp_same (sB.trans sC)))
      refine ⟨lC, _, _, rfl, kC, W2.kp kC (fB.same (sB.trans sC)), ne_feed fB sB nC, gC, ((rA.mono kTH (kB.t.trans (tp_same (sB.trans sC)))).app (r9.mono kTH (tp_same sC))), ?_⟩
      rw [List.length_append]
      exact Nat.add_le_add_right dA 5
  rintro _ H3 ⟨l5, u5, d5, rfl, k3, W3, n5, g5, h5, m5⟩
  -- bools
  refine b_cut (fun σ1 Hn => ∃ l5 us ds, σ1 = [some (.ref fp), some vp, some (.ref ls), some (.ref lt), some (.ref l5), none, none, none, none] ∧ Same H3 Hn ∧ l5 ≠ fp ∧ Hn l5 = some (.lst us) ∧ RAll (TH M.K) Hn us ds ∧ ds.length ≤ 13) ?_ ?_
  · obtain ⟨us, gs, hs⟩ := W3.rt.sts
    refine s_set (by tm_at "at") (e_bin (e_var (by tm_at "at") ?_))
    refine e_lc (own := [("_law_stand", 7)]) (Blk.of (N := N__law_start_right) (sc := defScope s__law_start_right) rfl rfl (by decide +kernel)) ?_
    refine lcL_R (S := TH M.K) kTI kTH (fun st => some (.tuple (st.map fun i => PyData.bool (decide (i = 1))))) ?_
    refine e_slice ?_
    tm_at "go"
    refine rsl_list (.of gs) fun lc Hc sc nc gc => ?_
    rw [show (some (2 : Int)) = some ((2 : Nat) : Int) from rfl, cut_to] at gc
    have hc : RAll TI Hc (us.take 2) ((statesOf (rg p.rs)).take 2) := (hs.mono kTI (tp_same sc)).take 2
    refine ⟨lc, _, _, rfl, .of gc, hc, by rw [List.length_take]; omega, fun st x H' hm s9 hx => ?_, fun la ua Ha sa na ga ha => ?_⟩
    · have lim := st_lim A (List.mem_of_mem_take hm)
      refine g_name (by tm_at "at") ⟨rfl, rfl, ?_⟩
      refine ts_nil ⟨Same.refl _, ift ?_⟩
      refine e_callT (T := "tuple") b.tuple (by decide +kernel) (a_cons ?_)
      refine e_lc (own := [("_law_value_here", 8)]) (Blk.of (N := N__law_start_right) (sc := { kind := .function, names := [(".0", .local), ("_law_stand", .local), ("tuple", .globalImplicit)], isGenerator := false, isCoroutine := false }) rfl rfl (by decide +kernel)) ?_
      obtain ⟨ax, rfl, gx⟩ := hx
      refine lcT_R (S := dV M.K) kiV kdV (fun i : Int => some (PyData.bool (decide (i = 1)))) ?_
      refine e_var (by tm_at "at") ?_
      refine ⟨ax, _, st, rfl, .of gx, rall_iV st, by omega, fun i y H6 hi s6 hy => ?_, fun lq uq H7 s7 n7 g7 h7 => ?_⟩
      · cases hy
        refine g_name (by tm_at "at") ⟨rfl, rfl, ts_nil ⟨Same.refl _, ift ?_⟩⟩
        tm_at "go"
        exact ⟨Same.refl _, _, rfl, .bl _⟩
      · refine a_nil ?_
        rw [fm_map] at h7
        refine rc_tupL (.of g7) (rall_dV h7) fun v8 H8 s8 h8 => ?_
        refine ⟨s7.trans s8, _, rfl, h8, ?_⟩
        rw [show st.map (fun i => PyData.bool (decide (i = 1))) = (st.map fun i => decide (i = 1)).map .bool by rw [List.map_map]; rfl]
        exact (sw_bools (by rw [List.length_map]; omega)).up (by decide) (by decide)
    · have la2 : ua.length ≤ 2 := by rw [ha.len]; exact Nat.le_trans (List.length_filterMap_le _ _) (by rw [List.length_take]; omega)
      have l5e := h5.len
      refine ro_cat ((sc.trans sa) _ _ g5) ga (by omega) fun lC HC sC nC gC => ?_
      have sH : Same H3 HC := sc.trans (sa.trans sC)
      refine ⟨lC, _, _, rfl, sH, ne_feed W3.fd (sc.trans sa) nC, gC, ((h5.mono kTH (tp_same sH)).app (ha.mono kTH (tp_same sC))), ?_⟩
      rw [List.length_append, ← ha.len]
      omega
  rintro _ H4 ⟨l5b, u5b, d5b, rfl, s4, n5, g5, h5, m5⟩
  have W4 := W3.same s4
  -- large values
  refine b_cut (fun σ1 Hn => ∃ l5 us ds, σ1 = [some (.ref fp), some vp, some (.ref ls), some (.ref lt), some (.ref l5), none, none, none, none] ∧ Same H4 Hn ∧ l5 ≠ fp ∧ Hn l5 = some (.lst us) ∧ RAll (TH M.K) Hn us ds ∧ ds.length ≤ 15) ?_ ?_
  · obtain ⟨us, gs, hs⟩ := W4.rt.sts
    refine s_set (by tm_at "at") (e_bin (e_var (by tm_at "at") ?_))
    refine e_lc (own := [("_law_stand", 7)]) (Blk.of (N := N__law_start_right) (sc := defScope s__law_start_right) rfl rfl (by decide +kernel)) ?_
    refine lcL_R (S := TH M.K) kTI kTH (fun st => if st = [] then none else some (stD (st.map (· + 40)))) ?_
    refine e_slice ?_
    tm_at "go"
    refine rsl_list (.of gs) fun lc Hc sc nc gc => ?_
    rw [show (some (1 : Int)) = some ((1 : Nat) : Int) from rfl, cut_to] at gc
    have hc : RAll TI Hc (us.take 1) ((statesOf (rg p.rs)).take 1) := (hs.mono kTI (tp_same sc)).take 1
    refine ⟨lc, _, _, rfl, .of gc, hc, by rw [List.length_take]; omega, fun st x H' hm s9 hx => ?_, fun la ua Ha sa na ga ha => ?_⟩
    · have lim := st_lim A (List.mem_of_mem_take hm)
      refine g_name (by tm_at "at") ⟨rfl, rfl, ?_⟩
      refine ts_one (t_cmp ?_)
      tm_at "go"
      refine e_tupD (a_nil ?_)
      refine tupend (ds := []) .nil (Nat.le_of_ble_eq_true rfl) fun v6 H6 s6 h6 => ?_
      refine ro_neD (Dt.dp (ti_d (kTI.k (tp_same s6) hx))) (Dt.dp h6) (shp_st st).ok (by decide) ?_
      have e0 : PyData.eqv (stD st) (.tuple []) = decide (st = []) := eqv_st st []
      rw [e0]
      refine ⟨_, rfl, s6, ifb (fun c1 => ?_) (fun c1 => ?_)⟩
      · have c2 : st ≠ [] := by simpa using c1
        have hx6 := kTI.k (tp_same s6) hx
        refine re_cut (P := fun v8 H8 => Same H6 H8 ∧ Dt M.K H8 v8 (stD (st.map (· + 40)))) ?_ fun v8 H8 z => ⟨z.1, _, by rw [if_neg c2], z.2, (sw_ints (ns := st.map (· + 40)) (by rw [List.length_map]; omega) fun v hv => ?_).up (by decide) (by decide)⟩
        · refine e_callT (T := "tuple") b.tuple (by decide +kernel) (a_cons ?_)
          refine e_lc (own := [("_law_value_here", 8)]) (Blk.of (N := N__law_start_right) (sc := { kind := .function, names := [(".0", .local), ("_law_stand", .local), ("tuple", .globalImplicit)], isGenerator := false, isCoroutine := false }) rfl rfl (by decide +kernel)) ?_
          obtain ⟨ax, rfl, gx⟩ := hx6
          refine lcT_R (S := dV M.K) kiV kdV (fun i : Int => some (PyData.int (i + 40))) ?_
          refine e_var (by tm_at "at") ?_
          refine ⟨ax, _, st, rfl, .of gx, rall_iV st, by omega, fun i y H6 hi s6 hy => ?_, fun lq uq H7 s7 n7 g7 h7 => ?_⟩
          · cases hy
            refine g_name (by tm_at "at") ⟨rfl, rfl, ts_nil ⟨Same.refl _, ift ?_⟩⟩
            tm_at "go"
            exact ⟨Same.refl _, _, rfl, .int _⟩
          · refine a_nil ?_
            rw [fm_map] at h7
            refine rc_tupL (.of g7) (rall_dV h7) fun v8 H8 s8 h8 => ⟨s7.trans s8, ?_⟩
            unfold stD
            rw [List.map_map]
            exact h8
        · obtain ⟨w, hw, rfl⟩ := List.mem_map.mp hv
          have := lim.2 w hw
          omega
      · have c2 : st = [] := by simpa using c1
        rw [if_pos c2]
    · have la2 : ua.length ≤ 2 := by rw [ha.len]; exact Nat.le_trans (List.length_filterMap_le _ _) (by rw [List.length_take]; omega)
      have l5e := h5.len
      refine ro_cat ((sc.trans sa) _ _ g5) ga (by omega) fun lC HC sC nC gC => ?_
      have sH : Same H4 HC := sc.trans (sa.trans sC)
      refine ⟨lC, _, _, rfl, sH, ne_feed W4.fd (sc.trans sa) nC, gC, ((h5.mono kTH (tp_same sH)).app (ha.mono kTH (tp_same sC))), ?_⟩
      rw [List.length_append, ← ha.len]
      omega
  rintro _ H5 ⟨l6, u6, d6, rfl, s5, n6, g6, h6, m6⟩
  have W5 := W4.same s5
  refine b_cut (fun σ1 Hn => ∃ v5 v6, σ1 = [some (.ref fp), some vp, some (.ref ls), some (.ref lt), some (.ref l6), v5, v6, none, none] ∧ Same H5 Hn) ?_ ?_
  · obtain ⟨us, gs, hs⟩ := W5.rt.sts
    refine s_forL (e_bin ?_)
    tm_at "go"
    have l1 := hs.len
    have l2 := h6.len
    refine ro_cat gs g6 (by omega) fun lD HD sD nD gD => ?_
    have rD := ((th_of (K := M.K) hs fun e he => (sw_st A he).up (by decide) (by decide)).mono kTH (tp_same sD)).app (h6.mono kTH (tp_same sD))
    refine ⟨lD, _, rfl, .of gD, fun i σ1 H' => ∃ v5 v6, σ1 = [some (.ref fp), some vp, some (.ref ls), some (.ref lt), some (.ref l6), v5, v6, none, none] ∧ Same HD H', ⟨_, _, rfl, Same.refl _⟩, ?_, ?_, ?_⟩
    · rintro i σ' H' _ ⟨v5, v6, rfl, s⟩
      exact .of (s _ _ gD)
    · rintro i y σ' H' hy ⟨v5, v6, rfl, s⟩
      obtain ⟨d, hd, hyT⟩ := rD.getV hy
      obtain ⟨hyd, swd⟩ := kTH.k (tp_same s) hyT
      have W6 := W5.same (sD.trans s)
      obtain ⟨ws, gt, ht⟩ := W6.rt.sta
      have key := due_ok (p := p) (d := d)
      have ris : rIs [p.d, d] (.bool (isGood p d)) := ⟨p, d, rfl, P, rfl⟩
      generalize isGood p d = bg at key ris
      have swB : Shw 60 1000000 (.list [.bool bg, .bool bg]) := by
        refine (sw_lst (m := 0) (n := 13) (k := 2) (fun d hd => ?_) (Nat.le_of_ble_eq_true rfl)).up (by decide) (by decide)
        exact all2 ((sw_bool bg).up (Nat.le_refl _) (by decide)) ((sw_bool bg).up (Nat.le_refl _) (by decide)) d hd
      generalize hdue : PyData.shown (.list [.bool bg, .bool bg]) = due
      refine g_name (by tm_at "at") ?_
      refine b_cut (fun σ1 H7 => σ1 = [some (.ref fp), some vp, some (.ref ls), some (.ref lt), some (.ref l6), some y, some (.str due), none, none] ∧ Same H' H7) ?_ ?_
      · refine s_set (by tm_at "at") ?_
        refine e_callB (id := "repr") hrp (by decide +kernel) ?_
        refine a_cons (e_bin (e_lstD (a_cons (e_cmp ?_))))
        refine e_callB (id := "repr") hrp (by decide +kernel) ?_
        tm_at "go"
        refine rc_repG hyd swd ?_
        refine e_lc (own := [("_law_stand", 7)]) (Blk.of (N := N__law_start_right) (sc := defScope s__law_start_right) rfl rfl (by decide +kernel)) ?_
        refine lcL_R (S := sV) kTI ksV (fun st => some (stD st).shown) ?_
        refine e_var (by tm_at "at") ?_
        refine ⟨lt, ws, _, rfl, .of gt, ht, by omega, fun st x H6 hm s6 hx => ?_, fun lq uq H7 s7 n7 g7 h7 => ?_⟩
        · refine g_name (by tm_at "at") ⟨rfl, rfl, ts_nil ⟨Same.refl _, ift ?_⟩⟩
          refine e_callB (id := "repr") hrp (by decide +kernel) ?_
          tm_at "go"
          refine rc_repG (ti_d hx) ((sw_st A (start_in hm)).up (by decide) (by decide)) ?_
          exact ⟨Same.refl _, _, rfl, rfl⟩
        · rw [fm_map] at h7
          rw [rall_sV h7] at g7
          refine ro_inSL (.of g7) ?_
          rw [key]
          refine a_nil ⟨(Nat.le_of_ble_eq_true rfl), fun lr H8 s8 n8 g8 => ?_⟩
          tm_at "go"
          refine ro_rep g8 (by decide) (Nat.le_of_ble_eq_true rfl) fun lz H9 s9 n9 g9 => ?_
          tm_at "go"
          have g9 : H9 lz = some (.lst [.bl bg, .bl bg]) := g9
          refine rc_repr (.lst (.of g9) (.cons (.bl _) (.cons (.bl _) .nil))) swB ?_
          rw [hdue]
          exact ⟨rfl, s7.trans (s8.trans s9)⟩
      rintro _ H7 ⟨rfl, s7⟩
      have W7 := W6.same s7
      have hy7 := hyd.mono (tp_same s7)
      refine b_one (s_if (t_cmp ?_))
      refine e_callB (id := "repr") hrp (by decide +kernel) ?_
      refine a_cons (e_lstD (a_cons ?_))
      refine e_callF dis ?_
      tm_at "go"
      refine ⟨_, _, .cons W7.rt.pd (.cons hy7 .nil), ris, fun v8 H8 s8 h8 => ?_⟩
      cases h8
      refine a_cons ?_
      refine e_kw kis (k_cons ?_)
      tm_at "go"
      refine k_cons ?_
      tm_at "go"
      refine k_nil ⟨rfl, ?_⟩
      refine ⟨_, _, .cons (W7.rt.pd.mono (tp_same s8)) (.cons (hy7.mono (tp_same s8)) .nil), ris, fun v9 H9 s9 h9 => ?_⟩
      cases h9
      refine a_nil ⟨(Nat.le_of_ble_eq_true rfl), fun lz H10 s10 n10 g10 => ?_⟩
      refine a_nil ?_
      refine rc_repr (.lst (.of g10) (.cons (.bl _) (.cons (.bl _) .nil))) swB ?_
      rw [hdue]
      tm_at "go"
      refine ro_neS ?_
      rw [decide_eq_true rfl]
      refine ⟨_, rfl, iff0 ?_⟩
      tm_at "go"
      exact ⟨_, _, rfl, s.trans (s7.trans (s8.trans (s9.trans s10)))⟩
    · rintro σ' H' ⟨v5, v6, rfl, s⟩
      exact ⟨_, _, rfl, sD.trans s⟩
  rintro _ H6 ⟨v5, v6, rfl, s6⟩
  have W6 := W5.same s6
  tm_at "go"
  exact k _ ((kp_same s1).trans ((kp_same s2).trans (k3.trans (kp_same (s4.trans (s5.trans s6)))))) W6.fd
end K

local macro_rules | `(tactic| tm_at "mk") => `(tactic| repeat (first | (refine gRE ?_; refine e_tupD ?_) | tm_at "s" | (refine gRB ?_; first | refine b_one ?_ | refine b_cons ?_) | (refine tupend (by tm_at "dts") (Nat.le_of_ble_eq_true rfl) fun v H s h => ?_)))
namespace K
open PySem PySem.Spec PyProof.Rows L2 G
variable {M : Md}
def spFeed (K : PySem.W.Frag) : Sp := fun vs H Q _ => ∃ (sl : Addr) (ns : List Int), vs = [.ref sl] ∧ SqL K H sl (ns.map V.int) ∧ ns.length ≤ 63 ∧ ∀ fp cl H', Same H H' → H fp = none → H cl = none → Feed K H' fp cl → Q (.ref fp) H'
theorem cutV_int (ns : List Int) (lo hi : Option Int) : cutV (ns.map V.int) lo hi = (cutD ns lo hi).map V.int := cutD_map V.int ns lo hi
theorem ok_feed {f fd} (F : Fun M.K "_law_feed" "_law_feed" s__law_feed f fd) (b : Bl M) : FnG M.prog M.w M.K M.mg M.base CX0 1 f fd ["_law_script"] (spFeed M.K) := by
  refine fn_ok F sc__law_feed (fun vs H Q E h => ?_) (fun H vs Q E h => ?_)
  · obtain ⟨sl, ns, rfl, _⟩ := h
    rfl
  obtain ⟨sl, ns, rfl, hs, hl, k⟩ := h
  tm_at "go"
  refine e_disp (fun X h => pps_cons (pe_re h) (pe_re h) (pps_cons (pe_re h) (pe_re h) (pps_cons (pe_re h) (pe_re h) (pps_cons (pe_re h) (pe_re h) pps_nil)))) rfl rfl (by intro e; cases e) (by decide) ?_
  intro p hp
  simp only [tPairs]
  have s0 := same_new (o := .dK []) hp
  tm_at "go"
  refine rsl_list (s0.seq hs) fun l1 H1 s1 n1 g1 => ?_
  tm_at "go"
  refine rc_lstL (.of g1) fun l2 H2 s2 n2 g2 => ?_
  tm_at "go"
  have gp : H2 p = some (.dK []) := (s1.trans s2) _ _ upd_same
  rw [cutV_int] at g2
  have np : p ≠ l2 := by
    rintro rfl
    rw [s1 _ _ (upd_same (H := H))] at n2
    cases n2
  refine ⟨gp, fkv (.ref l2) 0 0 0, rfl, by rw [fkv_len]; decide, ?_⟩
  rw [show mergeK [] (fkv (.ref l2) 0 0 0) = fkv (.ref l2) 0 0 0 by rfl]
  have hl2 : (cutD ns none (some 63)).length ≤ 63 := Nat.le_trans (cutD_sub ns none (some 63)).length_le hl
  refine k p l2 _ (same_mut (s0.trans (s1.trans s2)) hp) hp (same_none s0 (same_none s1 n2)) ⟨_, 0, 0, 0, upd_same, ?_, hl2⟩
  rw [upd_ne (fun e => np e.symm)]
  exact g2
end K
namespace K
open PySem PySem.Spec PyProof.Rows L2 G
variable {M : Md}
def pBare (n : Int) : Pc := ⟨[], .tuple [], .tuple [], .int n⟩
def rsThree : List Row := [("t", 3, 0, 2, true, true, 0), ("y", 0, -1, 0, false, true, -1)]
def pThree : Pc := ⟨rsThree, .tuple [], .tuple [], .bin "<" (.at "t" (.int 2)) (.int 2)⟩
def pcOf (w : Wd) : Pc := ⟨w.rs, .tuple (w.rl.map Rl.d), pairsD w.ps, w.goal⟩
theorem pcOf_d (w : Wd) : (pcOf w).d = w.d := rfl
theorem goal_dep : ∀ g ∈ goals, g.dep ≤ 2 := by decide +kernel
theorem pcOf_ok {w : Wd} (W : WdOk w) : PcOk (pcOf w) := ⟨W.cells.all, W.cells.ini, W.gfit, goal_dep _ W.goal⟩
theorem bare_ok (n : Int) (h : -1000000 ≤ n ∧ n ≤ 1000000) : PcOk (pBare n) := ⟨all_of [] (by decide +kernel), (fun _ h => nomatch h), h, by show 0 ≤ 2; decide⟩
theorem three_ok : PcOk pThree := by
  refine ⟨all_of _ (by decide +kernel), fun r hr => ?_, ?_, by decide +kernel⟩
  · have : ∀ r ∈ rsThree, r.2.2.1 ≤ r.2.2.2.2.2.2 ∧ r.2.2.2.2.2.2 ≤ r.2.2.2.1 := by decide +kernel
    exact this r hr
  · refine ⟨by decide +kernel, ⟨⟨_, List.mem_cons_self .., rfl, by decide⟩, show (-1000000 : Int) ≤ 2 ∧ (2 : Int) ≤ 1000000 by decide⟩, show (-1000000 : Int) ≤ 2 ∧ (2 : Int) ≤ 1000000 by decide⟩
theorem sw_gd {d : PyData} (h : gd 200 d = true ∧ d.depth ≤ 10 ∧ wt d ≤ 1000) : Shw 60 1000000 d := (show GdL 200 10 1000 d from ⟨h.1, h.2.1, h.2.2⟩).shw (by decide) (by decide) (by decide)
theorem bare_sw : Shw 60 1000000 (pBare 1).d := sw_gd (by decide +kernel)
theorem three_sw : Shw 60 1000000 pThree.d := sw_gd (by decide +kernel)
theorem none_starts : startsOf (pBare 0).rs (pBare 0).g = [] := by
  show ([[]] : List St1).filter _ = []
  rw [List.filter_cons, List.filter_nil]
  have e : good [] (.int 0) [] = false := by
    unfold good
    rw [ev]
    rfl
  show (if good [] (.int 0) [] = true then _ else _) = _
  rw [e]
  rfl
theorem sql_kp {K : PySem.W.Frag} {m a : Addr} {H0 H H' : Hp} {xs : List V} (h : SqL K H0 a xs) (s : Same H0 H) (n : H0 m = none) (k : Kp m H H') : SqL K H' a xs := by
  rcases h with h | h
  · refine .inl ?_
    rcases h with h | ⟨o, h⟩
    · exact .inl (k.k _ _ (fun e => by rw [e, n] at h; cases h) (s _ _ h))
    · exact .inr ⟨o, k.k _ _ (fun e => by rw [e, n] at h; cases h) (s _ _ h)⟩
  · exact .inr h
def spLaw (K : PySem.W.Frag) : Sp := fun vs H Q _ => ∃ (sl : Addr) (ns : List Int), vs = [.ref sl] ∧ SqL K H sl (ns.map V.int) ∧ ns.length ≤ 63 ∧ ∀ H', Q (.bl true) H'
set_option maxHeartbeats 4000000 in
theorem ok_law {f fd} (F : Fun M.K "law" "law" s_law f fd) (b : Bl M) (dfe : Dc M "_law_feed" ["_law_script"] 1 (spFeed M.K)) (dma : Dc M "_law_many" ["_law_script", "_law_count"] 1 (spMany M.K))
    (dca : Dc M "_law_case" ["_law_feed_here", "_law_most", "_law_turn"] 8 (spD preCase rPg M.K)) (dri : DcQ M "_law_is_right" ["_law_place"] 16 (spRt M.K)) (dsr : DcQ M "_law_start_right" ["_law_feed_here", "_law_place"] 12 (spSr M.K)) (dst : DcG M "starts_of" ["program"] 11 (spGen rStl M.K)) :
    FnQ M.prog M.w M.K M.mg M.base CX0 18 f fd ["_law_script"] (spLaw M.K) := by
  refine fn_okQ F sc_law (fun vs H Q E h => ?_) (fun H vs Q E h => ?_)
  · obtain ⟨sl, ns, rfl, _⟩ := h
    rfl
  obtain ⟨sl, ns, rfl, hs, hl, k⟩ := h
  refine b_cut (fun σ1 H' => ∃ fp cl, σ1 = [some (.ref sl), some (.ref fp), none, none, none, none] ∧ Same H H' ∧ Feed M.K H' fp cl ∧ H fp = none) ?_ ?_
  · refine s_set (by tm_at "at") ?_
    refine e_call dfe ?_
    tm_at "go"
    exact ⟨sl, ns, rfl, hs, hl, fun fp cl H1 s1 n1 nc1 f1 => ⟨fp, cl, rfl, s1, f1, n1⟩⟩
  rintro _ H1 ⟨fp, cl, rfl, s1, f1, nfp⟩
  refine b_cut (fun σ1 H' => ∃ v2, σ1 = [some (.ref sl), some (.ref fp), some v2, none, none, none] ∧ Same H1 H' ∧ Dt M.K H' v2 (pBare 1).d) ?_ ?_
  · tm_at "mk"
    exact ⟨by tm_at "same", (show Dt M.K _ _ (.tuple [.tuple [], .tuple [], .tuple [], .int 1]) by assumption)⟩
  rintro _ H2 ⟨v2, rfl, s2, h2⟩
  have f2 := f1.same s2
  refine b_cut (fun σ1 H' => σ1 = [some (.ref sl), some (.ref fp), some v2, none, none, none] ∧ Kp fp H2 H' ∧ Feed M.K H' fp cl) ?_ ?_
  · refine s_if (t_w (e := .BoolOp _ _ _) (w_or ?_))
    refine t_not (t_val ?_)
    refine e_callQ dri (a_cons (e_var (by tm_at "at") (a_nil ?_)))
    refine ⟨_, pBare 1, rfl, h2, bare_ok 1 (by decide), bare_sw, fun Ha sa => ⟨true, rfl, ?_⟩⟩
    tm_at "go"
    refine t_val ?_
    refine e_callQ dsr (a_cons (e_var (by tm_at "at") (a_cons (e_var (by tm_at "at") (a_nil ?_)))))
    refine ⟨fp, cl, _, pBare 1, rfl, f2.same sa, Dt.mono (tp_same sa) h2, bare_ok 1 (by decide), fun Hb kb fb => ⟨true, rfl, ?_⟩⟩
    tm_at "go"
    exact ⟨rfl, (kp_same sa).trans kb, fb⟩
  rintro _ H3 ⟨rfl, k3, f3⟩
  refine b_cut (fun σ1 H' => ∃ v3, σ1 = [some (.ref sl), some (.ref fp), some v2, some v3, none, none] ∧ Same H3 H' ∧ Dt M.K H' v3 pThree.d) ?_ ?_
  · tm_at "mk"
    exact ⟨by tm_at "same", by assumption⟩
  rintro _ H4 ⟨v3, rfl, s4, h4⟩
  have f4 := f3.same s4
  have k4 : Kp fp H1 H4 := (kp_same s2).trans (k3.trans (kp_same s4))
  refine b_cut (fun σ1 H' => σ1 = [some (.ref sl), some (.ref fp), some v2, some v3, none, none] ∧ Kp fp H4 H' ∧ Feed M.K H' fp cl) ?_ ?_
  · refine s_if (t_w (e := .BoolOp _ _ _) (w_and ?_))
    tm_at "go"
    refine e_lst ?_
    tm_at "run"
    refine ⟨by decide, fun pe hpe => ?_⟩
    have se := same_new (o := .lst []) hpe
    refine ro_neD (.lst (sql_kp hs s1 nfp (k4.trans (kp_same se))) (dpInts ns)) (.lst (SqL.of upd_same) .nil) (shInts ns) (by decide) ?_
    refine ⟨_, rfl, ifb (fun e => ?_) (fun e => ?_)⟩
    · refine w_and1 (t_w (e := .BoolOp _ _ _) (w_or ?_))
      refine t_not (t_val ?_)
      refine e_callQ dri (a_cons (e_var (by tm_at "at") (a_nil ?_)))
      refine ⟨_, pThree, rfl, Dt.mono (tp_same se) h4, three_ok, three_sw, fun Ha sa => ⟨true, rfl, ?_⟩⟩
      tm_at "go"
      refine t_val ?_
      refine e_callQ dsr (a_cons (e_var (by tm_at "at") (a_cons (e_var (by tm_at "at") (a_nil ?_)))))
      refine ⟨fp, cl, _, pThree, rfl, f4.same (se.trans sa), Dt.mono (tp_same (se.trans sa)) h4, three_ok, fun Hb kb fb => ⟨true, rfl, ?_⟩⟩
      tm_at "go"
      exact ⟨rfl, (kp_same (se.trans sa)).trans kb, fb⟩
    · tm_at "go"
      exact ⟨rfl, kp_same se, f4.same se⟩
  rintro _ H5 ⟨rfl, k5, f5⟩
  have k15 : Kp fp H1 H5 := k4.trans k5
  refine b_cut (fun σ1 H' => ∃ w4 w5, σ1 = [some (.ref sl), some (.ref fp), some v2, some v3, w4, w5]) ?_ ?_
  · refine s_forR1 b.range ?_
    refine e_call dma ?_
    tm_at "go"
    refine ⟨sl, ns, 5, rfl, sql_kp hs s1 nfp k15, fun H6 s6 => ?_⟩
    refine ⟨_, rfl, by split <;> decide, by split <;> decide, fun i σ' H' => ∃ w4 w5, σ' = [some (.ref sl), some (.ref fp), some v2, some v3, w4, w5] ∧ Feed M.K H' fp cl, ⟨_, _, rfl, f5.same s6⟩, ?_, ?_⟩
    · rintro i σ' H7 hi ⟨w4, w5, rfl, f7⟩
      refine g_name (by tm_at "at") ?_
      refine b_cons (s_set (by tm_at "at") ?_)
      refine e_callD dca ?_
      tm_at "go"
      refine ⟨fp, cl, _, _, rfl, f7, .cons (.int 3) (.cons (.int _) .nil), ⟨3, _, rfl, by decide⟩, ?_⟩
      rintro d vp H8 ⟨w, rfl, W⟩ k8 f8 hp
      refine b_one (s_if (t_w (e := .BoolOp _ _ _) (w_or ?_)))
      refine t_not (t_val ?_)
      refine e_callQ dri (a_cons (e_var (by tm_at "at") (a_nil ?_)))
      refine ⟨_, pcOf w, rfl, hp, pcOf_ok W, wdShw W, fun Ha sa => ⟨true, rfl, ?_⟩⟩
      tm_at "go"
      refine t_val ?_
      refine e_callQ dsr (a_cons (e_var (by tm_at "at") (a_cons (e_var (by tm_at "at") (a_nil ?_)))))
      refine ⟨fp, cl, _, pcOf w, rfl, f8.same sa, Dt.mono (tp_same sa) hp, pcOf_ok W, fun Hb kb fb => ⟨true, rfl, ?_⟩⟩
      tm_at "go"
      exact ⟨_, _, rfl, fb⟩
    · rintro σ' H7 ⟨w4, w5, rfl, f7⟩
      exact ⟨_, _, rfl⟩
  rintro _ H6 ⟨w4, w5, rfl⟩
  refine b_one (s_ret (e_cmp (e_listS dst b.list ?_)))
  refine re_cut (P := fun v H7 => Dt M.K H7 v (pBare 0).d) ?_ fun v H7 h7 => ?_
  · tm_at "mk"
    exact (show Dt M.K _ _ (.tuple [.tuple [], .tuple [], .tuple [], .int 0]) by assumption)
  refine ⟨_, _, h7, ⟨pBare 0, rfl, bare_ok 0 (by decide), none_starts.symm⟩, by decide, fun lp us H8 s8 n8 g8 h8 => ?_⟩
  refine e_lstD (a_nil ⟨(Nat.le_of_ble_eq_true rfl), fun lq H9 s9 n9 g9 => ?_⟩)
  refine ro_eqLs (s9 _ _ g8) (h8.mono kTI (tp_same s9)) g9 .nil ?_
  rw [decide_eq_true rfl]
  exact k _
end K

namespace G
open PySem PySem.Spec PyProof.Rows L2
/-! ### the law's call, for a def that is proved where no text of an object is being written -/
section
variable {P : Program} {w : World} {K : PySem.W.Frag} {mg mb : Str → Option Value} {k : Nat}
variable {fa sc : Addr} {fd : FuncData} {x : Str} {sp : Sp} {st : Shared} {us : List Value} {ns : List Int}
abbrev scrO (us : List Value) : Obj := { cls := .type "list", data := .seq us.toArray }
/-- how the call ends -/
abbrev Ended (st : Shared) : Result → Shared → Prop := fun r s2 =>
  r = .ok (.ret (.bool true)) ∧ OldK st.heap s2.heap ∧ s2.os = st.os ∧ AllBare s2.gens
theorem begun {H : Hp} (kin : K.In st.heap) (nsg : st.heap.Ns mainGlobals mg) (nsb : st.heap.Ns builtinsNs mb)
    (bis : ∀ y : Str, y ≠ "__name__" → mb y = bootBuiltins y) (lim : st.heap.NoLimit) (gens : st.gens = #[])
    (obj : st.heap.get? sc = some (scrO us)) (ars : IntsAre us ns) (few : ns.length ≤ sizeLine) (room : Room k callerA)
    (F : ∀ bs : Heap, K.In bs → bs.Ns mainGlobals mg → FnQ P w K mg bs CX0 k fa fd [x] sp)
    (bnd : ∀ (s : Shared) (u : Value), BindsTo s fd ⟨[u], []⟩ [(x, u)])
    (seen : ∀ b u, H b = some u → b = sc ∧ K.lookup sc = none ∧ u = .frz (scrO us) (.lst (ns.map V.int)))
    (want : sp [.ref sc] H (fun v _ => v = .bl true) fun _ _ _ => False) :
    codeAny (model P w) callerA (.call (.ref fa) ⟨[.ref sc], []⟩) (Ended st) st := by
  have clear : ∀ {b : Addr}, b ≠ sc → H b = none := fun {b} nb => by
    cases e : H b with
    | none => rfl
    | some u => exact absurd (seen b u e).1 nb
  have far : ∀ {b : Addr} {m : Str → Option Value}, st.heap.Ns b m → (hidT st.heap H).Ns b m := by
    rintro b m ⟨o, es, ep, e, isd, r⟩
    refine ⟨o, es, ep, hidT_get e (clear fun q => ?_), isd, r⟩
    subst q
    cases obj.symm.trans e
    have isd2 : Data.seq us.toArray _ = Data.dict es ep := isd
    cases isd2
  have mod : Mod K mg (hidT st.heap H) := by
    refine ⟨fun b o e => hidT_get (kin b o e) ?_, far nsg, ⟨mb, far nsb, bis⟩, ?_⟩
    · cases q : H b with
      | none => rfl
      | some u =>
        obtain ⟨rfl, non, _⟩ := seen b u q
        cases non.symm.trans e
    · obtain ⟨mc, l1, l2⟩ := lim
      exact ⟨mc, far l1, l2⟩
  have laid : HOk P w H st.heap := fun b u q => by
    obtain ⟨rfl, _, rfl⟩ := seen b u q
    exact ⟨obj, by rw [List.length_map]; exact few, us, _, vals_ints ars, obj⟩
  have env : Env0 P w K mg (hidT st.heap H) callerA [] st H :=
    { frames := rfl
      mod := mod
      bs := fun _ _ => of_hidT
      bsz := Nat.le_of_eq (hidT_size ..)
      funs := trivial
      frf := fun b q => absurd (show b ∈ ([] : List Addr) from q) List.not_mem_nil
      hok := laid
      bare := .of_eq gens }
  have run := (F _ mod.kin mod.glob).run callerA [] st H ⟨[.ref sc], []⟩ [.ref sc] [.ref sc] _ _ rfl room env (bnd st _) (.cons rfl .nil) want
  refine codeAny_mono run fun r s2 z => ?_
  match r, z with
  | .ok (.ret u), ⟨v, H2, os2, bare2, un2, laid2, rv2, q2⟩ =>
    obtain rfl : v = .bl true := q2
    obtain rfl : u = Value.bool true := rv2
    refine ⟨rfl, .of_keep fun b o e => ?_, os2, bare2⟩
    cases q : H b with
    | none => exact un2.keep b o e q (fun m => absurd (show b ∈ ([] : List Addr) from m) List.not_mem_nil) List.not_mem_nil
    | some y =>
      obtain ⟨rfl, _, rfl⟩ := seen b y q
      obtain ⟨e2, _⟩ := laid2 b _ (un2.frzs b _ _ q)
      cases obj.symm.trans e
      exact e2
theorem begunAll (kin : K.In st.heap) (nsg : st.heap.Ns mainGlobals mg) (nsb : st.heap.Ns builtinsNs mb)
    (bis : ∀ y : Str, y ≠ "__name__" → mb y = bootBuiltins y) (lim : st.heap.NoLimit) (gens : st.gens = #[])
    (obj : st.heap.get? sc = some (scrO us)) (ars : IntsAre us ns) (few : ns.length ≤ sizeLine) (room : Room k callerA)
    (F : ∀ bs : Heap, K.In bs → bs.Ns mainGlobals mg → FnQ P w K mg bs CX0 k fa fd [x] sp)
    (bnd : ∀ (s : Shared) (u : Value), BindsTo s fd ⟨[u], []⟩ [(x, u)])
    (want : ∀ H : Hp, SqL K H sc (ns.map V.int) → sp [.ref sc] H (fun v _ => v = .bl true) fun _ _ _ => False) :
    codeAny (model P w) callerA (.call (.ref fa) ⟨[.ref sc], []⟩) (Ended st) st := by
  cases lk : K.lookup sc with
  | none =>
    let H1 : Hp := fun b => if b = sc then some (.frz (scrO us) (.lst (ns.map V.int))) else none
    have h1 : H1 sc = some (.frz (scrO us) (.lst (ns.map V.int))) := if_pos rfl
    refine begun (H := H1) kin nsg nsb bis lim gens obj ars few room F bnd (fun b u q => ?_) (want H1 (.inl (.inr ⟨_, h1⟩)))
    by_cases e : b = sc
    · subst e
      exact ⟨rfl, lk, Option.some.inj (q.symm.trans h1)⟩
    · have q2 : H1 b = none := if_neg e
      cases q2.symm.trans q
  | some o =>
    have len := ars.length
    cases obj.symm.trans (kin sc o lk)
    have sq : SqL K (fun _ => none) sc (ns.map V.int) := by
      refine .inr ⟨_, us.toArray, _, lk, rfl, rfl, rfl, ?_, ?_⟩
      · rw [List.size_toArray, len]
        exact few
      · simpa using vals_ints ars
    exact begun (H := fun _ => none) kin nsg nsb bis lim gens obj ars few room F bnd (fun _ _ q => nomatch q) (want _ sq)
end
end G
namespace G
open PySem PySem.Spec PyProof.Rows L2
theorem walk_begun {l : PySem.W.OpenLaw} {n k : Nat} {q : Program} {loose : List Str} {d : DefRec} {x : Str}
    {XP : (Str → Option Value) → Heap → Prop} {YP : World → Heap → Prop} (most : l.most = some n) (small : n ≤ sizeLine) (nod : d.params.defaults = [])
    (room : Room k callerA) (F : ∀ (w : World) (mg : Str → Option Value) (fa : Addr) (h : Heap), YP w h → h.Ns mainGlobals mg →
      mg d.name = some (.ref fa) → ∃ (K : PySem.W.Frag) (fd : FuncData) (sp : Sp), K.In h ∧
        (∀ (s : Shared) (u : Value), BindsTo s fd ⟨[u], []⟩ [(x, u)]) ∧
        (∀ (H : Hp) (a : Addr) (ns : List Int), ns.length ≤ n → SqL K H a (ns.map V.int) →
          sp [.ref a] H (fun v _ => v = .bl true) fun _ _ _ => False) ∧
        ∀ bs : Heap, K.In bs → bs.Ns mainGlobals mg → FnQ l.prog w K mg bs CX0 k fa fd [x] sp) :
    PySem.W.WalkO q loose XP YP l.row.toRowW d [] (fun f vs => PySem.call f vs) := by
  refine Att.attach_call most nod ?_
  intro w s0 s1 mg mb fa o pm cd doc a vs ns T Y _ _ _ hmg obj ars len gens
  obtain ⟨K, fd, sp, kin, bnd, want, ok⟩ := F w mg fa _ Y T.T.g hmg
  exact begunAll kin T.T.g T.T.b T.T.builtins T.T.nolimit gens obj ars (Nat.le_trans len small) room ok bnd fun H sq => want H a ns len sq
end G

namespace K
open PySem PySem.Spec PyProof.Rows L2 G
theorem fun_of {F : PySem.W.Frag} {x qual : Str} {st : Stmt} {f : Addr} {fd : FuncData} {kws : List (Str × V)} (z : FunD F x qual (defArgs st) (defBody st) (defScope st) [] kws f fd) : Fun F x qual st f fd := by
  obtain ⟨oc, od, dV, kV, doc, pm, an, cdv, ct, osl, e, lk, hcd, hD, _⟩ := z.ex
  rcases hD with ⟨_, rfl⟩ | ⟨h, _⟩
  · exact ⟨⟨oc, od, kV, doc, pm, an, cdv, ct, osl, e, lk, hcd⟩, z.kp⟩
  · exact absurd rfl h
theorem dc_of {M : Md} {x : Str} {st : Stmt} {f : Addr} {fd : FuncData} {ps : List Str} {k : Nat} {sp : Sp} (z : FunD M.K x x (defArgs st) (defBody st) (defScope st) [] [] f fd) (hm : M.mg x = some (.ref f))
    (hb : ∀ (kV doc pm : Value) (an : Option Addr) (cdv ct : Value) (us : List Value), us.length = ps.length → bindArgs (PySem.W.fnOf x x (defArgs st) (defBody st) (defScope st) .none kV doc pm an cdv ct) ⟨us, []⟩ = pure (ps.zip us))
    (ok : Fun M.K x x st f fd → FnG M.prog M.w M.K M.mg M.base CX0 k f fd ps sp) : Dc M x ps k sp := ⟨f, fd, ok (fun_of z), hm, z.kp, z.bindsN hb⟩
theorem kw_ofG {K : PySem.W.Frag} {x : Str} {st : Stmt} {f : Addr} {fd : FuncData} {kws : List (Str × V)} {ag : Args} {bs : List (Str × Value)} (z : FunD K x x (defArgs st) (defBody st) (defScope st) [] kws f fd)
    (h : ∀ (kV doc pm : Value) (an : Option Addr) (cdv ct : Value), bindArgs (PySem.W.fnOf x x (defArgs st) (defBody st) (defScope st) .none kV doc pm an cdv ct) ag = pure bs) (s : Shared) : BindsTo s fd ag bs := by
  obtain ⟨_, _, _, kV, doc, pm, an, cdv, ct, _, e, _, _, hD, _⟩ := z.ex
  subst e
  rcases hD with ⟨_, e⟩ | ⟨e, _⟩
  · subst e
    exact .of_eq (h kV doc pm an cdv ct)
  · exact absurd rfl e
set_option maxHeartbeats 4000000 in
theorem whole {M : Md} (b : Bl M) (b3 : Bl3 M) (hall : M.mg "all" = none) (hrp : M.mg "repr" = none) (lz : Lz M)
    (D : ∀ (i : Nat) (d : He.DefD), fns[i]? = some d → ∃ fd, FunD M.K d.name d.qual d.params d.body d.scope (d.dvs M.K) (d.kws M.K) (He.fAd M.K d.at_) fd) (g : ∀ (i : Nat) (x : Str), fas[i]? = some (.glo x) → M.mg x = some (.ref (He.ga M.K x)))
    {fd : FuncData} (zl : FunD M.K "law" "law" (defArgs s_law) (defBody s_law) (defScope s_law) [] [] (He.ga M.K "law") fd) : FnQ M.prog M.w M.K M.mg M.base CX0 18 (He.ga M.K "law") fd ["_law_script"] (spLaw M.K) := by
  obtain ⟨w_row_width, z_row_width⟩ : ∃ fd, FunD M.K "row_width" "row_width" (defArgs s_row_width) (defBody s_row_width) (defScope s_row_width) [] [] (He.ga M.K "row_width") fd := D 0 _ rfl
  have m_row_width : M.mg "row_width" = some (.ref (He.ga M.K "row_width")) := g 0 _ rfl
  obtain ⟨w_cell_ranges, z_cell_ranges⟩ : ∃ fd, FunD M.K "cell_ranges" "cell_ranges" (defArgs s_cell_ranges) (defBody s_cell_ranges) (defScope s_cell_ranges) [] [] (He.ga M.K "cell_ranges") fd := D 1 _ rfl
  have m_cell_ranges : M.mg "cell_ranges" = some (.ref (He.ga M.K "cell_ranges")) := g 1 _ rfl
  obtain ⟨w_found_index, z_found_index⟩ : ∃ fd, FunD M.K "found_index" "found_index" (defArgs s_found_index) (defBody s_found_index) (defScope s_found_index) [] [] (He.ga M.K "found_index") fd := D 2 _ rfl
  have m_found_index : M.mg "found_index" = some (.ref (He.ga M.K "found_index")) := g 2 _ rfl
  obtain ⟨w_cell_index, z_cell_index⟩ : ∃ fd, FunD M.K "cell_index" "cell_index" (defArgs s_cell_index) (defBody s_cell_index) (defScope s_cell_index) [] [("key", V.non)] (He.ga M.K "cell_index") fd := D 3 _ rfl
  have m_cell_index : M.mg "cell_index" = some (.ref (He.ga M.K "cell_index")) := g 3 _ rfl
  obtain ⟨w_value_in, z_value_in⟩ : ∃ fd, FunD M.K "value_in" "value_in" (defArgs s_value_in) (defBody s_value_in) (defScope s_value_in) [] [] (He.ga M.K "value_in") fd := D 4 _ rfl
  have m_value_in : M.mg "value_in" = some (.ref (He.ga M.K "value_in")) := g 4 _ rfl
  obtain ⟨w_evaluated, z_evaluated⟩ : ∃ fd, FunD M.K "evaluated" "evaluated" (defArgs s_evaluated) (defBody s_evaluated) (defScope s_evaluated) [] [] (He.ga M.K "evaluated") fd := D 5 _ rfl
  have m_evaluated : M.mg "evaluated" = some (.ref (He.ga M.K "evaluated")) := g 5 _ rfl
  obtain ⟨w_keyed_index, z_keyed_index⟩ : ∃ fd, FunD M.K "keyed_index" "keyed_index" (defArgs s_keyed_index) (defBody s_keyed_index) (defScope s_keyed_index) [] [] (He.ga M.K "keyed_index") fd := D 6 _ rfl
  have m_keyed_index : M.mg "keyed_index" = some (.ref (He.ga M.K "keyed_index")) := g 6 _ rfl
  obtain ⟨w__lazy_value, z__lazy_value⟩ : ∃ fd, FunD M.K "_lazy_value" "_lazy_value" (defArgs s__lazy_value) (defBody s__lazy_value) (defScope s__lazy_value) [] [] (He.ga M.K "_lazy_value") fd := D 7 _ rfl
  have m__lazy_value : M.mg "_lazy_value" = some (.ref (He.ga M.K "_lazy_value")) := g 7 _ rfl
  obtain ⟨w__full_value, z__full_value⟩ : ∃ fd, FunD M.K "_full_value" "_full_value" (defArgs s__full_value) (defBody s__full_value) (defScope s__full_value) [] [] (He.ga M.K "_full_value") fd := D 8 _ rfl
  have m__full_value : M.mg "_full_value" = some (.ref (He.ga M.K "_full_value")) := g 8 _ rfl
  obtain ⟨w__of_one, z__of_one⟩ : ∃ fd, FunD M.K "_of_one" "_of_one" (defArgs s__of_one) (defBody s__of_one) (defScope s__of_one) [] [] (He.ga M.K "_of_one") fd := D 9 _ rfl
  have m__of_one : M.mg "_of_one" = some (.ref (He.ga M.K "_of_one")) := g 9 _ rfl
  obtain ⟨w_value_of_two, z_value_of_two⟩ : ∃ fd, FunD M.K "value_of_two" "value_of_two" (defArgs s_value_of_two) (defBody s_value_of_two) (defScope s_value_of_two) [] [] (He.ga M.K "value_of_two") fd := D 10 _ rfl
  have m_value_of_two : M.mg "value_of_two" = some (.ref (He.ga M.K "value_of_two")) := g 10 _ rfl
  obtain ⟨w__compared, z__compared⟩ : ∃ fd, FunD M.K "_compared" "_compared" (defArgs s__compared) (defBody s__compared) (defScope s__compared) [] [] (He.ga M.K "_compared") fd := D 11 _ rfl
  have m__compared : M.mg "_compared" = some (.ref (He.ga M.K "_compared")) := g 11 _ rfl
  obtain ⟨w_is_integer, z_is_integer⟩ : ∃ fd, FunD M.K "is_integer" "is_integer" (defArgs s_is_integer) (defBody s_is_integer) (defScope s_is_integer) [] [] (He.ga M.K "is_integer") fd := D 12 _ rfl
  have m_is_integer : M.mg "is_integer" = some (.ref (He.ga M.K "is_integer")) := g 12 _ rfl
  obtain ⟨w_count_states, z_count_states⟩ : ∃ fd, FunD M.K "count_states" "count_states" (defArgs s_count_states) (defBody s_count_states) (defScope s_count_states) [] [] (He.ga M.K "count_states") fd := D 13 _ rfl
  have m_count_states : M.mg "count_states" = some (.ref (He.ga M.K "count_states")) := g 13 _ rfl
  obtain ⟨w_all_states, z_all_states⟩ : ∃ fd, FunD M.K "all_states" "all_states" (defArgs s_all_states) (defBody s_all_states) (defScope s_all_states) [] [] (He.ga M.K "all_states") fd := D 14 _ rfl
  have m_all_states : M.mg "all_states" = some (.ref (He.ga M.K "all_states")) := g 14 _ rfl
  obtain ⟨w_state_list, z_state_list⟩ : ∃ fd, FunD M.K "state_list" "state_list" (defArgs s_state_list) (defBody s_state_list) (defScope s_state_list) [] [] (He.ga M.K "state_list") fd := D 15 _ rfl
  have m_state_list : M.mg "state_list" = some (.ref (He.ga M.K "state_list")) := g 15 _ rfl
  obtain ⟨w_state_number, z_state_number⟩ : ∃ fd, FunD M.K "state_number" "state_number" (defArgs s_state_number) (defBody s_state_number) (defScope s_state_number) [] [] (He.ga M.K "state_number") fd := D 16 _ rfl
  have m_state_number : M.mg "state_number" = some (.ref (He.ga M.K "state_number")) := g 16 _ rfl
  obtain ⟨w_state_at, z_state_at⟩ : ∃ fd, FunD M.K "state_at" "state_at" (defArgs s_state_at) (defBody s_state_at) (defScope s_state_at) [] [] (He.ga M.K "state_at") fd := D 17 _ rfl
  have m_state_at : M.mg "state_at" = some (.ref (He.ga M.K "state_at")) := g 17 _ rfl
  obtain ⟨w_starts_of, z_starts_of⟩ : ∃ fd, FunD M.K "starts_of" "starts_of" (defArgs s_starts_of) (defBody s_starts_of) (defScope s_starts_of) [] [] (He.ga M.K "starts_of") fd := D 18 _ rfl
  have m_starts_of : M.mg "starts_of" = some (.ref (He.ga M.K "starts_of")) := g 18 _ rfl
  obtain ⟨w_start_list, z_start_list⟩ : ∃ fd, FunD M.K "start_list" "start_list" (defArgs s_start_list) (defBody s_start_list) (defScope s_start_list) [] [] (He.ga M.K "start_list") fd := D 19 _ rfl
  have m_start_list : M.mg "start_list" = some (.ref (He.ga M.K "start_list")) := g 19 _ rfl
  obtain ⟨w_states_for_inputs, z_states_for_inputs⟩ : ∃ fd, FunD M.K "states_for_inputs" "states_for_inputs" (defArgs s_states_for_inputs) (defBody s_states_for_inputs) (defScope s_states_for_inputs) [] [] (He.ga M.K "states_for_inputs") fd := D 20 _ rfl
  have m_states_for_inputs : M.mg "states_for_inputs" = some (.ref (He.ga M.K "states_for_inputs")) := g 20 _ rfl
  obtain ⟨w__combined, z__combined⟩ : ∃ fd, FunD M.K "_combined" "_combined" (defArgs s__combined) (defBody s__combined) (defScope s__combined) [] [] (He.ga M.K "_combined") fd := D 21 _ rfl
  have m__combined : M.mg "_combined" = some (.ref (He.ga M.K "_combined")) := g 21 _ rfl
  obtain ⟨w_is_start, z_is_start⟩ : ∃ fd, FunD M.K "is_start" "is_start" (defArgs s_is_start) (defBody s_is_start) (defScope s_is_start) [] [] (He.ga M.K "is_start") fd := D 22 _ rfl
  have m_is_start : M.mg "is_start" = some (.ref (He.ga M.K "is_start")) := g 22 _ rfl
  obtain ⟨w__is_state, z__is_state⟩ : ∃ fd, FunD M.K "_is_state" "_is_state" (defArgs s__is_state) (defBody s__is_state) (defScope s__is_state) [] [] (He.ga M.K "_is_state") fd := D 23 _ rfl
  have m__is_state : M.mg "_is_state" = some (.ref (He.ga M.K "_is_state")) := g 23 _ rfl
  obtain ⟨w__is_within, z__is_within⟩ : ∃ fd, FunD M.K "_is_within" "_is_within" (defArgs s__is_within) (defBody s__is_within) (defScope s__is_within) [] [] (He.ga M.K "_is_within") fd := D 24 _ rfl
  have m__is_within : M.mg "_is_within" = some (.ref (He.ga M.K "_is_within")) := g 24 _ rfl
  obtain ⟨w__first_values, z__first_values⟩ : ∃ fd, FunD M.K "_first_values" "_first_values" (defArgs s__first_values) (defBody s__first_values) (defScope s__first_values) [] [] (He.ga M.K "_first_values") fd := D 25 _ rfl
  have m__first_values : M.mg "_first_values" = some (.ref (He.ga M.K "_first_values")) := g 25 _ rfl
  obtain ⟨w__law_feed, z__law_feed⟩ : ∃ fd, FunD M.K "_law_feed" "_law_feed" (defArgs s__law_feed) (defBody s__law_feed) (defScope s__law_feed) [] [] (He.ga M.K "_law_feed") fd := D 26 _ rfl
  have m__law_feed : M.mg "_law_feed" = some (.ref (He.ga M.K "_law_feed")) := g 26 _ rfl
  obtain ⟨w__law_draw, z__law_draw⟩ : ∃ fd, FunD M.K "_law_draw" "_law_draw" (defArgs s__law_draw) (defBody s__law_draw) (defScope s__law_draw) [] [] (He.ga M.K "_law_draw") fd := D 27 _ rfl
  have m__law_draw : M.mg "_law_draw" = some (.ref (He.ga M.K "_law_draw")) := g 27 _ rfl
  obtain ⟨w__law_any, z__law_any⟩ : ∃ fd, FunD M.K "_law_any" "_law_any" (defArgs s__law_any) (defBody s__law_any) (defScope s__law_any) [] [] (He.ga M.K "_law_any") fd := D 28 _ rfl
  have m__law_any : M.mg "_law_any" = some (.ref (He.ga M.K "_law_any")) := g 28 _ rfl
  obtain ⟨w__law_many, z__law_many⟩ : ∃ fd, FunD M.K "_law_many" "_law_many" (defArgs s__law_many) (defBody s__law_many) (defScope s__law_many) [] [] (He.ga M.K "_law_many") fd := D 29 _ rfl
  have m__law_many : M.mg "_law_many" = some (.ref (He.ga M.K "_law_many")) := g 29 _ rfl
  obtain ⟨w__law_find, z__law_find⟩ : ∃ fd, FunD M.K "_law_find" "_law_find" (defArgs s__law_find) (defBody s__law_find) (defScope s__law_find) [] [] (He.ga M.K "_law_find") fd := D 30 _ rfl
  have m__law_find : M.mg "_law_find" = some (.ref (He.ga M.K "_law_find")) := g 30 _ rfl
  obtain ⟨w__law_ranges, z__law_ranges⟩ : ∃ fd, FunD M.K "_law_ranges" "_law_ranges" (defArgs s__law_ranges) (defBody s__law_ranges) (defScope s__law_ranges) [] [] (He.ga M.K "_law_ranges") fd := D 31 _ rfl
  have m__law_ranges : M.mg "_law_ranges" = some (.ref (He.ga M.K "_law_ranges")) := g 31 _ rfl
  obtain ⟨w__law_states, z__law_states⟩ : ∃ fd, FunD M.K "_law_states" "_law_states" (defArgs s__law_states) (defBody s__law_states) (defScope s__law_states) [] [] (He.ga M.K "_law_states") fd := D 32 _ rfl
  have m__law_states : M.mg "_law_states" = some (.ref (He.ga M.K "_law_states")) := g 32 _ rfl
  obtain ⟨w__law_binary, z__law_binary⟩ : ∃ fd, FunD M.K "_law_binary" "_law_binary" (defArgs s__law_binary) (defBody s__law_binary) (defScope s__law_binary) [] [] (He.ga M.K "_law_binary") fd := D 33 _ rfl
  have m__law_binary : M.mg "_law_binary" = some (.ref (He.ga M.K "_law_binary")) := g 33 _ rfl
  obtain ⟨w__law_value, z__law_value⟩ : ∃ fd, FunD M.K "_law_value" "_law_value" (defArgs s__law_value) (defBody s__law_value) (defScope s__law_value) [] [] (He.ga M.K "_law_value") fd := D 34 _ rfl
  have m__law_value : M.mg "_law_value" = some (.ref (He.ga M.K "_law_value")) := g 34 _ rfl
  obtain ⟨w__law_starts, z__law_starts⟩ : ∃ fd, FunD M.K "_law_starts" "_law_starts" (defArgs s__law_starts) (defBody s__law_starts) (defScope s__law_starts) [] [] (He.ga M.K "_law_starts") fd := D 35 _ rfl
  have m__law_starts : M.mg "_law_starts" = some (.ref (He.ga M.K "_law_starts")) := g 35 _ rfl
  obtain ⟨w__law_cells, z__law_cells⟩ : ∃ fd, FunD M.K "_law_cells" "_law_cells" (defArgs s__law_cells) (defBody s__law_cells) (defScope s__law_cells) [] [] (He.ga M.K "_law_cells") fd := D 36 _ rfl
  have m__law_cells : M.mg "_law_cells" = some (.ref (He.ga M.K "_law_cells")) := g 36 _ rfl
  obtain ⟨w__law_expr, z__law_expr⟩ : ∃ fd, FunD M.K "_law_expr" "_law_expr" (defArgs s__law_expr) (defBody s__law_expr) (defScope s__law_expr) [] [] (He.ga M.K "_law_expr") fd := D 37 _ rfl
  have m__law_expr : M.mg "_law_expr" = some (.ref (He.ga M.K "_law_expr")) := g 37 _ rfl
  obtain ⟨w__law_rule, z__law_rule⟩ : ∃ fd, FunD M.K "_law_rule" "_law_rule" (defArgs s__law_rule) (defBody s__law_rule) (defScope s__law_rule) [] [] (He.ga M.K "_law_rule") fd := D 38 _ rfl
  have m__law_rule : M.mg "_law_rule" = some (.ref (He.ga M.K "_law_rule")) := g 38 _ rfl
  obtain ⟨w__law_names, z__law_names⟩ : ∃ fd, FunD M.K "_law_names" "_law_names" (defArgs s__law_names) (defBody s__law_names) (defScope s__law_names) [] [] (He.ga M.K "_law_names") fd := D 39 _ rfl
  have m__law_names : M.mg "_law_names" = some (.ref (He.ga M.K "_law_names")) := g 39 _ rfl
  obtain ⟨w__law_some_pairs, z__law_some_pairs⟩ : ∃ fd, FunD M.K "_law_some_pairs" "_law_some_pairs" (defArgs s__law_some_pairs) (defBody s__law_some_pairs) (defScope s__law_some_pairs) [] [] (He.ga M.K "_law_some_pairs") fd := D 40 _ rfl
  have m__law_some_pairs : M.mg "_law_some_pairs" = some (.ref (He.ga M.K "_law_some_pairs")) := g 40 _ rfl
  obtain ⟨w__law_program, z__law_program⟩ : ∃ fd, FunD M.K "_law_program" "_law_program" (defArgs s__law_program) (defBody s__law_program) (defScope s__law_program) [] [] (He.ga M.K "_law_program") fd := D 41 _ rfl
  have m__law_program : M.mg "_law_program" = some (.ref (He.ga M.K "_law_program")) := g 41 _ rfl
  obtain ⟨w__law_odd, z__law_odd⟩ : ∃ fd, FunD M.K "_law_odd" "_law_odd" (defArgs s__law_odd) (defBody s__law_odd) (defScope s__law_odd) [] [] (He.ga M.K "_law_odd") fd := D 42 _ rfl
  have m__law_odd : M.mg "_law_odd" = some (.ref (He.ga M.K "_law_odd")) := g 42 _ rfl
  obtain ⟨w__law_document, z__law_document⟩ : ∃ fd, FunD M.K "_law_document" "_law_document" (defArgs s__law_document) (defBody s__law_document) (defScope s__law_document) [] [] (He.ga M.K "_law_document") fd := D 43 _ rfl
  have m__law_document : M.mg "_law_document" = some (.ref (He.ga M.K "_law_document")) := g 43 _ rfl
  obtain ⟨w__law_case, z__law_case⟩ : ∃ fd, FunD M.K "_law_case" "_law_case" (defArgs s__law_case) (defBody s__law_case) (defScope s__law_case) [] [] (He.ga M.K "_law_case") fd := D 44 _ rfl
  have m__law_case : M.mg "_law_case" = some (.ref (He.ga M.K "_law_case")) := g 44 _ rfl
  obtain ⟨w__law_is_right, z__law_is_right⟩ : ∃ fd, FunD M.K "_law_is_right" "_law_is_right" (defArgs s__law_is_right) (defBody s__law_is_right) (defScope s__law_is_right) [] [] (He.ga M.K "_law_is_right") fd := D 45 _ rfl
  have m__law_is_right : M.mg "_law_is_right" = some (.ref (He.ga M.K "_law_is_right")) := g 45 _ rfl
  obtain ⟨w__law_start_right, z__law_start_right⟩ : ∃ fd, FunD M.K "_law_start_right" "_law_start_right" (defArgs s__law_start_right) (defBody s__law_start_right) (defScope s__law_start_right) [] [] (He.ga M.K "_law_start_right") fd := D 46 _ rfl
  have m__law_start_right : M.mg "_law_start_right" = some (.ref (He.ga M.K "_law_start_right")) := g 46 _ rfl
  have dw := dc_of (st := s_row_width) z_row_width m_row_width (fun _ _ _ _ _ _ us hl => match us, hl with | [_], _ => rfl) (fun F => ok_width F b)
  have dfi := dc_of (st := s_found_index) z_found_index m_found_index (fun _ _ _ _ _ _ us hl => match us, hl with | [_, _, _], _ => rfl) (fun F => ok_found F dw)
  have dr := dc_of (st := s_cell_ranges) z_cell_ranges m_cell_ranges (fun _ _ _ _ _ _ us hl => match us, hl with | [_], _ => rfl) (fun F => ok_ranges F b dw)
  have dcm := dc_of (st := s__compared) z__compared m__compared (fun _ _ _ _ _ _ us hl => match us, hl with | [_, _, _], _ => rfl) (fun F => ok_cmp F b)
  have d1 := dc_of (st := s__of_one) z__of_one m__of_one (fun _ _ _ _ _ _ us hl => match us, hl with | [_, _], _ => rfl) (fun F => ok_one F b)
  have d2 := dc_of (st := s_value_of_two) z_value_of_two m_value_of_two (fun _ _ _ _ _ _ us hl => match us, hl with | [_, _, _], _ => rfl) (fun F => ok_two F b dcm)
  obtain ⟨ixd, ixv, ixb⟩ := z_cell_index.binds0 (ps := ["cells", "name", "key"]) 2 (by simp) rfl (fun Dk doc pm an cdv ct us ks hu hk => match us, ks, hu, hk with | [_, _], [_], _, _ => ⟨_, _, _, _, _, _, rfl, rfl, rfl⟩)
  have dx : dcIx M := ⟨_, _, ixd, ok_index (fun_of z_cell_index) b dfi, m_cell_index, z_cell_index.kp, ixb, ixv⟩
  have de : ∀ n, dcEv M n := fun n => Nat.rec (motive := fun n => dcEv M n) (dc_of (st := s_evaluated) z_evaluated m_evaluated (fun _ _ _ _ _ _ us hl => match us, hl with | [_, _, _], _ => rfl) (fun F => ok_ev 0 F b lz dx (fun m h => by omega))) (fun n ih => dc_of (st := s_evaluated) z_evaluated m_evaluated (fun _ _ _ _ _ _ us hl => match us, hl with | [_, _, _], _ => rfl) (fun F => ok_ev (n + 1) F b lz dx (fun m h => match m, Nat.succ.inj h with | _, rfl => ⟨dc_of (st := s_keyed_index) z_keyed_index m_keyed_index (fun _ _ _ _ _ _ us hl => match us, hl with | [_, _, _, _], _ => rfl) (fun F => ok_keyed n F b dfi ih), dc_of (st := s__lazy_value) z__lazy_value m__lazy_value (fun _ _ _ _ _ _ us hl => match us, hl with | [_, _, _], _ => rfl) (fun F => ok_lazy n F b ih), dc_of (st := s__full_value) z__full_value m__full_value (fun _ _ _ _ _ _ us hl => match us, hl with | [_, _, _], _ => rfl) (fun F => ok_full n F b ih d1 d2)⟩))) n
  have dcb := dc_of (st := s__combined) z__combined m__combined (fun _ _ _ _ _ _ us hl => match us, hl with | [_], _ => rfl) (fun F => ok_comb F b)
  have dsl := dc_of (st := s_state_list) z_state_list m_state_list (fun _ _ _ _ _ _ us hl => match us, hl with | [_], _ => rfl) (fun F => ok_slist F b dr dcb)
  have dfe := dc_of (st := s__law_feed) z__law_feed m__law_feed (fun _ _ _ _ _ _ us hl => match us, hl with | [_], _ => rfl) (fun F => ok_feed F b)
  have dd := dc_of (st := s__law_draw) z__law_draw m__law_draw (fun _ _ _ _ _ _ us hl => match us, hl with | [_, _], _ => rfl) (fun F => ok_draw F b)
  have dan := dc_of (st := s__law_any) z__law_any m__law_any (fun _ _ _ _ _ _ us hl => match us, hl with | [_, _], _ => rfl) (fun F => ok_any F b dd)
  have dma := dc_of (st := s__law_many) z__law_many m__law_many (fun _ _ _ _ _ _ us hl => match us, hl with | [_, _], _ => rfl) (fun F => ok_many F b)
  have dlc := dc_of (st := s__law_cells) z__law_cells m__law_cells (fun _ _ _ _ _ _ us hl => match us, hl with | [_], _ => rfl) (fun F => ok_cells F b dd)
  have dex : ∀ n, dcExpr M n := fun n => Nat.rec (motive := fun n => dcExpr M n) (dc_of (st := s__law_expr) z__law_expr m__law_expr (fun _ _ _ _ _ _ us hl => match us, hl with | [_, _, _], _ => rfl) (fun F => ok_expr 0 F b dd dan (fun m h => by omega))) (fun n ih => dc_of (st := s__law_expr) z__law_expr m__law_expr (fun _ _ _ _ _ _ us hl => match us, hl with | [_, _, _], _ => rfl) (fun F => ok_expr (n + 1) F b dd dan (fun m h => match m, Nat.succ.inj h with | _, rfl => ih))) n
  have dru := dc_of (st := s__law_rule) z__law_rule m__law_rule (fun _ _ _ _ _ _ us hl => match us, hl with | [_, _, _], _ => rfl) (fun F => ok_rl F b dd dan (dex 0) (dex 1) (dex 2))
  have dnm := dc_of (st := s__law_names) z__law_names m__law_names (fun _ _ _ _ _ _ us hl => match us, hl with | [_, _], _ => rfl) (fun F => ok_nm F b dd)
  have dsp := dc_of (st := s__law_some_pairs) z__law_some_pairs m__law_some_pairs (fun _ _ _ _ _ _ us hl => match us, hl with | [_, _], _ => rfl) (fun F => ok_pairs F b b3 dd)
  have dpg := dc_of (st := s__law_program) z__law_program m__law_program (fun _ _ _ _ _ _ us hl => match us, hl with | [_, _], _ => rfl) (fun F => ok_program F b dlc dnm dru dsp dan)
  have ddo := dc_of (st := s__law_document) z__law_document m__law_document (fun _ _ _ _ _ _ us hl => match us, hl with | [], _ => rfl) (fun F => ok_doc F b)
  have dca := dc_of (st := s__law_case) z__law_case m__law_case (fun _ _ _ _ _ _ us hl => match us, hl with | [_, _, _], _ => rfl) (fun F => ok_case F b ddo dpg)
  have daw : DcW M "all_states" ["program"] 4 (spAllW M.K) := ⟨_, _, ok_allW (fun_of z_all_states) b dsl, m_all_states, z_all_states.kp, z_all_states.bindsN (fun _ _ _ _ _ _ us hl => match us, hl with | [_], _ => rfl)⟩
  have dct := dc_of (st := s_count_states) z_count_states m_count_states (fun _ _ _ _ _ _ us hl => match us, hl with | [_], _ => rfl) (fun F => ok_count F b dr)
  have dii := dc_of (st := s_is_integer) z_is_integer m_is_integer (fun _ _ _ _ _ _ us hl => match us, hl with | [_], _ => rfl) (fun F => ok_isintP F b)
  have dcbL : Dc M "_combined" ["ranges"] 1 (spCombL M.K) := ⟨_, _, ok_combL (fun_of z__combined) b, m__combined, z__combined.kp, z__combined.bindsN (fun _ _ _ _ _ _ us hl => match us, hl with | [_], _ => rfl)⟩
  have dva := dc_of (st := s_value_in) z_value_in m_value_in (fun _ _ _ _ _ _ us hl => match us, hl with | [_, _, _], _ => rfl) (fun F => ok_valueIn 2 F b (de 2))
  have dsf := dc_of (st := s_states_for_inputs) z_states_for_inputs m_states_for_inputs (fun _ _ _ _ _ _ us hl => match us, hl with | [_], _ => rfl) (fun F => ok_sfi F b dw dcbL)
  have dstl := dc_of (st := s_start_list) z_start_list m_start_list (fun _ _ _ _ _ _ us hl => match us, hl with | [_], _ => rfl) (fun F => ok_stl F b dsf dva)
  have dst : DcG M "starts_of" ["program"] 11 (spGen rStl M.K) := ⟨_, _, ok_starts_ofG (fun_of z_starts_of) b dstl, m_starts_of, z_starts_of.kp, z_starts_of.bindsN (fun _ _ _ _ _ _ us hl => match us, hl with | [_], _ => rfl)⟩
  have dal : DcG M "all_states" ["program"] 4 (spGen rSlist M.K) := ⟨_, _, ok_all_statesG (fun_of z_all_states) b dsl, m_all_states, z_all_states.kp, z_all_states.bindsN (fun _ _ _ _ _ _ us hl => match us, hl with | [_], _ => rfl)⟩
  have kst : DcGk M "starts_of" ["program"] ["program"] (fun zs => zs) 11 (spGen rStl M.K) := ⟨_, _, fun ws => ws, ok_starts_ofG (fun_of z_starts_of) b dstl, m_starts_of, z_starts_of.kp, fun s ws l => match ws, l with | [_], _ => kw_ofG z_starts_of (fun _ _ _ _ _ _ => rfl) s, fun zs ws r l => r⟩
  have kal : DcGk M "all_states" ["program"] ["program"] (fun zs => zs) 4 (spGen rSlist M.K) := ⟨_, _, fun ws => ws, ok_all_statesG (fun_of z_all_states) b dsl, m_all_states, z_all_states.kp, fun s ws l => match ws, l with | [_], _ => kw_ofG z_all_states (fun _ _ _ _ _ _ => rfl) s, fun zs ws r l => r⟩
  have kct : DcK M "count_states" ["program"] ["program"] (fun zs => zs) 3 (spF rCnt M.K) := ⟨_, _, fun ws => ws, ok_count (fun_of z_count_states) b dr, m_count_states, z_count_states.kp, fun s ws l => match ws, l with | [_], _ => kw_ofG z_count_states (fun _ _ _ _ _ _ => rfl) s, fun zs ws r l => r⟩
  have dnu := dc_of (st := s_state_number) z_state_number m_state_number (fun _ _ _ _ _ _ us hl => match us, hl with | [_, _], _ => rfl) (fun F => ok_num F b b3.zip dr)
  have dat := dc_of (st := s_state_at) z_state_at m_state_at (fun _ _ _ _ _ _ us hl => match us, hl with | [_, _], _ => rfl) (fun F => ok_stat F b dr)
  have knu : DcK M "state_number" ["program", "state"] ["state", "program"] List.reverse 3 (spF rNum M.K) := ⟨_, _, List.reverse, ok_num (fun_of z_state_number) b b3.zip dr, m_state_number, z_state_number.kp, fun s ws l => match ws, l with | [_, _], _ => kw_ofG z_state_number (fun _ _ _ _ _ _ => rfl) s, fun zs ws r l => match zs, ws, r, l with | [_, _], [_, _], .cons h1 (.cons h2 .nil), _ => .cons h2 (.cons h1 .nil)⟩
  have kat : DcK M "state_at" ["program", "number"] ["number", "program"] List.reverse 3 (spF rStAt M.K) := ⟨_, _, List.reverse, ok_stat (fun_of z_state_at) b dr, m_state_at, z_state_at.kp, fun s ws l => match ws, l with | [_, _], _ => kw_ofG z_state_at (fun _ _ _ _ _ _ => rfl) s, fun zs ws r l => match zs, ws, r, l with | [_, _], [_, _], .cons h1 (.cons h2 .nil), _ => .cons h2 (.cons h1 .nil)⟩
  have dwi := dc_of (st := s__is_within) z__is_within m__is_within (fun _ _ _ _ _ _ us hl => match us, hl with | [_, _, _], _ => rfl) (fun F => ok_within F b dii)
  have dis0 := dc_of (st := s__is_state) z__is_state m__is_state (fun _ _ _ _ _ _ us hl => match us, hl with | [_, _], _ => rfl) (fun F => ok_isstate F b b3.zip hall dr dwi)
  have dfv := dc_of (st := s__first_values) z__first_values m__first_values (fun _ _ _ _ _ _ us hl => match us, hl with | [_], _ => rfl) (fun F => ok_firstv F b dw)
  have dis := dc_of (st := s_is_start) z_is_start m_is_start (fun _ _ _ _ _ _ us hl => match us, hl with | [_, _], _ => rfl) (fun F => ok_isstart F b dis0 dw dfv dva)
  have kis : DcK M "is_start" ["program", "thing"] ["thing", "program"] List.reverse 10 (spF rIs M.K) := ⟨_, _, List.reverse, ok_isstart (fun_of z_is_start) b dis0 dw dfv dva, m_is_start, z_is_start.kp, fun s ws l => match ws, l with | [_, _], _ => kw_ofG z_is_start (fun _ _ _ _ _ _ => rfl) s, fun zs ws r l => match zs, ws, r, l with | [_, _], [_, _], .cons h1 (.cons h2 .nil), _ => .cons h2 (.cons h1 .nil)⟩
  have dlf := dc_of (st := s__law_find) z__law_find m__law_find (fun _ _ _ _ _ _ us hl => match us, hl with | [_, _, _], _ => rfl) (fun F => ok_find F b)
  have dlr := dc_of (st := s__law_ranges) z__law_ranges m__law_ranges (fun _ _ _ _ _ _ us hl => match us, hl with | [_], _ => rfl) (fun F => ok_lranges F b)
  have dls := dc_of (st := s__law_states) z__law_states m__law_states (fun _ _ _ _ _ _ us hl => match us, hl with | [_], _ => rfl) (fun F => ok_lstates F b dlr)
  have dlb := dc_of (st := s__law_binary) z__law_binary m__law_binary (fun _ _ _ _ _ _ us hl => match us, hl with | [_, _, _], _ => rfl) (fun F => ok_lbin F b)
  have dvl : ∀ n, dcVal M n := fun n => Nat.rec (motive := fun n => dcVal M n) (dc_of (st := s__law_value) z__law_value m__law_value (fun _ _ _ _ _ _ us hl => match us, hl with | [_, _, _], _ => rfl) (fun F => ok_value 0 F b dlf dlb (fun m h => by omega))) (fun n ih => dc_of (st := s__law_value) z__law_value m__law_value (fun _ _ _ _ _ _ us hl => match us, hl with | [_, _, _], _ => rfl) (fun F => ok_value (n + 1) F b dlf dlb (fun m h => match m, Nat.succ.inj h with | _, rfl => ih))) n
  have dlt := dc_of (st := s__law_starts) z__law_starts m__law_starts (fun _ _ _ _ _ _ us hl => match us, hl with | [_], _ => rfl) (fun F => ok_lstarts F b dls (dvl 2))
  have dod := dc_of (st := s__law_odd) z__law_odd m__law_odd (fun _ _ _ _ _ _ us hl => match us, hl with | [_], _ => rfl) (fun F => ok_odd F b dd)
  have dri : DcQ M "_law_is_right" ["_law_place"] 16 (spRt M.K) := ⟨_, _, ok_right (fun_of z__law_is_right) b b3 hrp dls dlt dct kct dal dst kal kst daw dnu dat knu kat, m__law_is_right, z__law_is_right.kp, z__law_is_right.bindsN (fun _ _ _ _ _ _ us hl => match us, hl with | [_], _ => rfl)⟩
  have dsr : DcQ M "_law_start_right" ["_law_feed_here", "_law_place"] 12 (spSr M.K) := ⟨_, _, ok_sright (fun_of z__law_start_right) b hrp dls dlt dod dis kis, m__law_start_right, z__law_start_right.kp, z__law_start_right.bindsN (fun _ _ _ _ _ _ us hl => match us, hl with | [_, _], _ => rfl)⟩
  exact ok_law (fun_of zl) b dfe dma dca dri dsr dst
end K

namespace K
open PySem PySem.Spec PyProof.Rows L2 G
theorem facts {P : Program} {w : World} {F : PySem.W.Frag} {h : Heap} {mg : Str → Option Value} {f : Addr} (X : F.In h) (N : h.Ns mainGlobals mg) (hf : mg ("law" : Str) = some (.ref f)) (c : He.SaysX fas fns [] [] ruleB w h F) :
    ∃ fd : FuncData, (∀ (s : Shared) (v : Value), BindsTo s fd ⟨[v], []⟩ [("_law_script", v)]) ∧ ∀ base : Heap, F.In base → base.Ns mainGlobals mg → FnQ P w F mg base CX0 18 f fd ["_law_script"] (spLaw F) := by
  have cd : He.SaysD fas fns F := congrArg (fun z : He.AlT => z.1) c.t
  have glo : ∀ (i : Nat) (x : Str), fas[i]? = some (.glo x) → mg x = some (.ref (He.ga F x)) := fun i x hx => He.glo_ok X N (cd.fact i hx)
  have fre : ∀ (i : Nat) (x : Str), fas[i]? = some (.free x) → mg x = none := fun i x hx => He.free_ok X N (cd.fact i hx)
  obtain ⟨fd, zl⟩ : ∃ fd, FunD F "law" "law" (defArgs s_law) (defBody s_law) (defScope s_law) [] [] (He.ga F "law") fd := cd.def_ 47 rfl
  have e := hf.symm.trans (glo 47 _ rfl)
  cases e
  refine ⟨fd, fun s v => FunD.bindsA (ps := ["_law_script"]) zl (fun _ _ _ _ _ _ us hl => match us, hl with | [_], _ => rfl) s [v] rfl, fun base _ _ => ?_⟩
  exact whole (M := ⟨P, w, F, mg, base⟩) ⟨fre 48 _ rfl, fre 49 _ rfl, fre 50 _ rfl, fre 51 _ rfl, fre 52 _ rfl, fre 53 _ rfl, fre 54 _ rfl, fre 55 _ rfl, fre 56 _ rfl, fre 57 _ rfl, fre 58 _ rfl, fre 59 _ rfl, fre 60 _ rfl⟩ ⟨fre 62 _ rfl, fre 64 _ rfl⟩ (fre 61 _ rfl) (fre 63 _ rfl)
    ⟨_, glo 65 _ rfl, fun H => He.tupB_ok c.more H⟩ (fun i d hd => cd.def_ i hd) glo zl
end K
open PySem PySem.W PySem.Calls PyProof.Rows
set_option maxHeartbeats 0 in
theorem PySem.Challenge.cw_orderless_k16_states_listed_holds : PySem.Challenge.rw_orderless_k16_states_listed.Holds := by
  w_on; o_law
  refine HandSHeadRun.head_any (r := K.Rw) (q := view K.Rw.prog [K.lawAt]) (H := K.ownHook) (ob := K.obT) (M := 9000) (loose := K.loose) (d := HandSHeadRun.topDef K.Rw.prog K.lawAt) (kwd := []) K.obT_eq
    (by kernel_rfl) (fun s => by kernel_rfl) K.topRun (by kernel_rfl) (by kernel_rfl) (by kernel_rfl) (by rfl) (by first | assumption | decide +kernel) (by decide +kernel) ⟨rfl, rfl, rfl, rfl, rfl, by decide +kernel⟩ ?hw ?hc
  case hw => w_witness2
  case hc =>
    refine G.walk_begun (l := PySem.Challenge.rw_orderless_k16_states_listed) (n := 63) (k := 18) (x := "_law_script") rfl (by decide) (by kernel_rfl) ⟨rfl, by decide, by decide⟩ ?F
    intro w mg fa h Y N hmg0
    obtain ⟨F, FX, c⟩ := Y
    have nm : (HandSHeadRun.topDef K.Rw.prog K.lawAt).name = ("law" : PySem.Str) := by kernel_rfl
    rw [nm] at hmg0
    obtain ⟨fd, hb, ok⟩ := K.facts (P := PySem.Challenge.rw_orderless_k16_states_listed.prog) (w := w) FX N hmg0 c
    exact ⟨F, fd, K.spLaw F, FX, hb, fun H a ns few is => ⟨a, ns, rfl, is, few, fun _ => rfl⟩, ok⟩

