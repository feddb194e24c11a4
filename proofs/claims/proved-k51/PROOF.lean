import PyProof.Rows.All
import Wide.All
import OpenK.AllK
import Wide.FinOn
import KE.KStateDown
import HandS.Ends
import HandS.Exc
import HandS.WordsExc
import HandS.Defaults
import HandS.Head0
import HandS.Head1
import HandS.Head2
import HandS.HeadHook1
import HandS.HeadHook2
import HandS.HeadHook3
import HandS.HeadHook4
import HandS.Base
import HandS.Call
import HandS.List
import HandS.Comp
import HandS.Dict
import HandS.Iter
import HandS.Words
import HandS.IsInst
import HandS.Wide
import HandS.Flow
import HandS.TupAny
import HandS.Deep
import HandS.Style
import HandS.GenList
import HandS.GenYield
import PyProof.GenRules
import PyProof.ForAny
import KE.KeyNested
import PyProof.DictRoadsH
import KE.KTab
import HandS.Zip
import HandS.Text
import PyProof.CallFns
import PyProof.ReprRoads
import PyProof.ReprLen
import PyProof.StrLawsRepr
import HandS.Lambda
import HandS.HeadEnd
import HandS.TupMul
import HandS.Small
import KE.GoesZip
import KE.GoesMore
import PyProof.Draws
import PyProof.EnumMake
import PyProof.EnumFor
import KE.KDictOf
import PySem.Challenge.RW_orderless_k51_whole_schedules
set_option Elab.async false
set_option linter.all false
set_option maxRecDepth 100000
namespace K
open PySem L2
def top (i : Nat) : Stmt := PySem.Challenge.pw_orderless_k51_whole_schedules.main.body.getD i (.Pass ⟨0, 0, 0, 0⟩)
abbrev s_row_width : Stmt := top 1
-- 0:row
abbrev N_row_width : List Str := ["row"]
theorem sc_row_width : FnScope N_row_width ["row"] (defScope s_row_width) := ⟨rfl, rfl, rfl, by decide +kernel, rfl, by decide +kernel, by decide +kernel⟩
abbrev s_cell_ranges : Stmt := top 2
-- 0:cells 1:ranges 2:row
abbrev N_cell_ranges : List Str := ["cells", "ranges", "row"]
theorem sc_cell_ranges : FnScope N_cell_ranges ["cells"] (defScope s_cell_ranges) := ⟨rfl, rfl, rfl, by decide +kernel, rfl, by decide +kernel, by decide +kernel⟩
abbrev s_found_index : Stmt := top 3
-- 0:cells 1:name 2:key 3:begin 4:row
abbrev N_found_index : List Str := ["cells", "name", "key", "begin", "row"]
theorem sc_found_index : FnScope N_found_index ["cells", "name", "key"] (defScope s_found_index) := ⟨rfl, rfl, rfl, by decide +kernel, rfl, by decide +kernel, by decide +kernel⟩
abbrev s_touched_place : Stmt := top 6
-- 0:instruction
abbrev N_touched_place : List Str := ["instruction"]
theorem sc_touched_place : FnScope N_touched_place ["instruction"] (defScope s_touched_place) := ⟨rfl, rfl, rfl, by decide +kernel, rfl, by decide +kernel, by decide +kernel⟩
abbrev s_value_of_two : Stmt := top 8
-- 0:op 1:one 2:other
abbrev N_value_of_two : List Str := ["op", "one", "other"]
theorem sc_value_of_two : FnScope N_value_of_two ["op", "one", "other"] (defScope s_value_of_two) := ⟨rfl, rfl, rfl, by decide +kernel, rfl, by decide +kernel, by decide +kernel⟩
abbrev s__compared : Stmt := top 9
-- 0:op 1:one 2:other
abbrev N__compared : List Str := ["op", "one", "other"]
theorem sc__compared : FnScope N__compared ["op", "one", "other"] (defScope s__compared) := ⟨rfl, rfl, rfl, by decide +kernel, rfl, by decide +kernel, by decide +kernel⟩
abbrev s_first_run : Stmt := top 11
-- 
abbrev N_first_run : List Str := []
theorem sc_first_run : FnScope N_first_run [] (defScope s_first_run) := ⟨rfl, rfl, rfl, by decide +kernel, rfl, by decide +kernel, by decide +kernel⟩
abbrev s_step_of : Stmt := top 12
-- 0:cells 1:code 2:run 3:values 4:at 5:slots 6:instruction 7:value
abbrev N_step_of : List Str := ["cells", "code", "run", "values", "at", "slots", "instruction", "value"]
theorem sc_step_of : FnScope N_step_of ["cells", "code", "run", "values"] (defScope s_step_of) := ⟨rfl, rfl, rfl, by decide +kernel, rfl, by decide +kernel, by decide +kernel⟩
abbrev s__touching_step : Stmt := top 13
-- 0:cells 1:instruction 2:run 3:values 4:at 5:slots 6:cell 7:value
abbrev N__touching_step : List Str := ["cells", "instruction", "run", "values", "at", "slots", "cell", "value"]
theorem sc__touching_step : FnScope N__touching_step ["cells", "instruction", "run", "values"] (defScope s__touching_step) := ⟨rfl, rfl, rfl, by decide +kernel, rfl, by decide +kernel, by decide +kernel⟩
abbrev s__touched_cell : Stmt := top 14
-- 0:cells 1:instruction 2:slots 3:word 4:place
abbrev N__touched_cell : List Str := ["cells", "instruction", "slots", "word", "place"]
theorem sc__touched_cell : FnScope N__touched_cell ["cells", "instruction", "slots"] (defScope s__touched_cell) := ⟨rfl, rfl, rfl, by decide +kernel, rfl, by decide +kernel, by decide +kernel⟩
abbrev s__index_behind : Stmt := top 15
-- 0:instruction 1:at 2:slots
abbrev N__index_behind : List Str := ["instruction", "at", "slots"]
theorem sc__index_behind : FnScope N__index_behind ["instruction", "at", "slots"] (defScope s__index_behind) := ⟨rfl, rfl, rfl, by decide +kernel, rfl, by decide +kernel, by decide +kernel⟩
abbrev s__slot_of : Stmt := top 16
-- 0:instruction
abbrev N__slot_of : List Str := ["instruction"]
theorem sc__slot_of : FnScope N__slot_of ["instruction"] (defScope s__slot_of) := ⟨rfl, rfl, rfl, by decide +kernel, rfl, by decide +kernel, by decide +kernel⟩
abbrev s__value_of : Stmt := top 17
-- 0:instruction 1:slots 2:_ 3:op 4:one 5:other
abbrev N__value_of : List Str := ["instruction", "slots", "_", "op", "one", "other"]
theorem sc__value_of : FnScope N__value_of ["instruction", "slots"] (defScope s__value_of) := ⟨rfl, rfl, rfl, by decide +kernel, rfl, by decide +kernel, by decide +kernel⟩
abbrev s__replaced : Stmt := top 18
-- 0:values 1:index 2:value
abbrev N__replaced : List Str := ["values", "index", "value"]
theorem sc__replaced : FnScope N__replaced ["values", "index", "value"] (defScope s__replaced) := ⟨rfl, rfl, rfl, by decide +kernel, rfl, by decide +kernel, by decide +kernel⟩
abbrev s_schedules_of : Stmt := top 20
-- 0:cells 1:state 2:codes 3:begun 4:schedule 5:runs 6:values 7:longer 8:k 9:others 10:after 11:_
abbrev N_schedules_of : List Str := ["cells", "state", "codes", "begun", "schedule", "runs", "values", "longer", "k", "others", "after", "_"]
abbrev s__longer_by_one : Stmt := top 21
-- 0:cells 1:codes 2:runs 3:values 4:found 5:k 6:code 7:word 8:_ 9:run 10:after
abbrev N__longer_by_one : List Str := ["cells", "codes", "runs", "values", "found", "k", "code", "word", "_", "run", "after"]
theorem sc__longer_by_one : FnScope N__longer_by_one ["cells", "codes", "runs", "values"] (defScope s__longer_by_one) := ⟨rfl, rfl, rfl, by decide +kernel, rfl, by decide +kernel, by decide +kernel⟩
abbrev s_all_states : Stmt := top 23
-- 0:program 1:state
abbrev N_all_states : List Str := ["program", "state"]
abbrev s_state_list : Stmt := top 24
-- 0:program
abbrev N_state_list : List Str := ["program"]
theorem sc_state_list : FnScope N_state_list ["program"] (defScope s_state_list) := ⟨rfl, rfl, rfl, by decide +kernel, rfl, by decide +kernel, by decide +kernel⟩
abbrev s__combined : Stmt := top 25
-- 0:ranges 1:states 2:low 3:high 4:state 5:value
abbrev N__combined : List Str := ["ranges", "states", "low", "high", "state", "value"]
theorem sc__combined : FnScope N__combined ["ranges"] (defScope s__combined) := ⟨rfl, rfl, rfl, by decide +kernel, rfl, by decide +kernel, by decide +kernel⟩
abbrev s__law_source : Stmt := top 27
-- 0:_law_script
abbrev N__law_source : List Str := ["_law_script"]
theorem sc__law_source : FnScope N__law_source ["_law_script"] (defScope s__law_source) := ⟨rfl, rfl, rfl, by decide +kernel, rfl, by decide +kernel, by decide +kernel⟩
abbrev s__law_next : Stmt := top 28
-- 0:_law_source_here 1:_law_limit 2:_law_draws 3:_law_digit 4:_law_used 5:_law_cell 6:_law_mixed
abbrev N__law_next : List Str := ["_law_source_here", "_law_limit", "_law_draws", "_law_digit", "_law_used", "_law_cell", "_law_mixed"]
theorem sc__law_next : FnScope N__law_next ["_law_source_here", "_law_limit"] (defScope s__law_next) := ⟨rfl, rfl, rfl, by decide +kernel, rfl, by decide +kernel, by decide +kernel⟩
abbrev s__law_rows : Stmt := top 29
-- 0:_law_source_here 1:_law_some
abbrev N__law_rows : List Str := ["_law_source_here", "_law_some"]
theorem sc__law_rows : FnScope N__law_rows ["_law_source_here"] (defScope s__law_rows) := ⟨rfl, rfl, rfl, by decide +kernel, rfl, by decide +kernel, by decide +kernel⟩
abbrev s__law_places : Stmt := top 30
-- 0:_law_rows_here 1:_law_found 2:_law_k 3:_law_row 4:_law_key
abbrev N__law_places : List Str := ["_law_rows_here", "_law_found", "_law_k", "_law_row", "_law_key"]
theorem sc__law_places : FnScope N__law_places ["_law_rows_here"] (defScope s__law_places) := ⟨rfl, rfl, rfl, by decide +kernel, rfl, by decide +kernel, by decide +kernel⟩
abbrev s__law_result_of : Stmt := top 31
-- 0:_law_op 1:_law_one 2:_law_other 3:_law_truths 4:_law_found
abbrev N__law_result_of : List Str := ["_law_op", "_law_one", "_law_other", "_law_truths", "_law_found"]
theorem sc__law_result_of : FnScope N__law_result_of ["_law_op", "_law_one", "_law_other"] (defScope s__law_result_of) := ⟨rfl, rfl, rfl, by decide +kernel, rfl, by decide +kernel, by decide +kernel⟩
abbrev s__law_fresh : Stmt := top 32
-- 
abbrev N__law_fresh : List Str := []
theorem sc__law_fresh : FnScope N__law_fresh [] (defScope s__law_fresh) := ⟨rfl, rfl, rfl, by decide +kernel, rfl, by decide +kernel, by decide +kernel⟩
abbrev s__law_spot : Stmt := top 33
-- 0:_law_places_here 1:_law_own 2:_law_part_here 3:_law_table 4:_law_slot
abbrev N__law_spot : List Str := ["_law_places_here", "_law_own", "_law_part_here", "_law_table", "_law_slot"]
theorem sc__law_spot : FnScope N__law_spot ["_law_places_here", "_law_own", "_law_part_here"] (defScope s__law_spot) := ⟨rfl, rfl, rfl, by decide +kernel, rfl, by decide +kernel, by decide +kernel⟩
abbrev s__law_touch : Stmt := top 34
-- 0:_law_places_here 1:_law_own 2:_law_part_here 3:_law_values 4:_law_spot_here 5:_law_slots
abbrev N__law_touch : List Str := ["_law_places_here", "_law_own", "_law_part_here", "_law_values", "_law_spot_here", "_law_slots"]
theorem sc__law_touch : FnScope N__law_touch ["_law_places_here", "_law_own", "_law_part_here", "_law_values"] (defScope s__law_touch) := ⟨rfl, rfl, rfl, by decide +kernel, rfl, by decide +kernel, by decide +kernel⟩
abbrev s__law_do : Stmt := top 35
-- 0:_law_places_here 1:_law_lines 2:_law_own 3:_law_values 4:_law_part_here 5:_law_slots 6:_law_found
abbrev N__law_do : List Str := ["_law_places_here", "_law_lines", "_law_own", "_law_values", "_law_part_here", "_law_slots", "_law_found"]
theorem sc__law_do : FnScope N__law_do ["_law_places_here", "_law_lines", "_law_own", "_law_values"] (defScope s__law_do) := ⟨rfl, rfl, rfl, by decide +kernel, rfl, by decide +kernel, by decide +kernel⟩
abbrev s__law_event : Stmt := top 36
-- 0:_law_places_here 1:_law_lines 2:_law_own 3:_law_values 4:_law_found
abbrev N__law_event : List Str := ["_law_places_here", "_law_lines", "_law_own", "_law_values", "_law_found"]
theorem sc__law_event : FnScope N__law_event ["_law_places_here", "_law_lines", "_law_own", "_law_values"] (defScope s__law_event) := ⟨rfl, rfl, rfl, by decide +kernel, rfl, by decide +kernel, by decide +kernel⟩
abbrev s__law_table_places : Stmt := top 37
-- 0:_law_rows_here 1:_law_found 2:_law_row 3:_law_k
abbrev N__law_table_places : List Str := ["_law_rows_here", "_law_found", "_law_row", "_law_k"]
theorem sc__law_table_places : FnScope N__law_table_places ["_law_rows_here"] (defScope s__law_table_places) := ⟨rfl, rfl, rfl, by decide +kernel, rfl, by decide +kernel, by decide +kernel⟩
abbrev s__law_part : Stmt := top 38
-- 0:_law_source_here 1:_law_rows_here 2:_law_at 3:_law_many 4:_law_names 5:_law_tables 6:_law_way 7:_law_r 8:_law_s 9:_law_op 10:_law_later 11:_law_row
abbrev N__law_part : List Str := ["_law_source_here", "_law_rows_here", "_law_at", "_law_many", "_law_names", "_law_tables", "_law_way", "_law_r", "_law_s", "_law_op", "_law_later", "_law_row"]
theorem sc__law_part : FnScope N__law_part ["_law_source_here", "_law_rows_here", "_law_at", "_law_many"] (defScope s__law_part) := ⟨rfl, rfl, rfl, by decide +kernel, rfl, by decide +kernel, by decide +kernel⟩
abbrev s__law_code : Stmt := top 39
-- 0:_law_source_here 1:_law_rows_here 2:_law_most 3:_law_many 4:_law_at
abbrev N__law_code : List Str := ["_law_source_here", "_law_rows_here", "_law_most", "_law_many", "_law_at"]
theorem sc__law_code : FnScope N__law_code ["_law_source_here", "_law_rows_here", "_law_most"] (defScope s__law_code) := ⟨rfl, rfl, rfl, by decide +kernel, rfl, by decide +kernel, by decide +kernel⟩
abbrev s__law_copied : Stmt := top 40
-- 0:_law_own
abbrev N__law_copied : List Str := ["_law_own"]
theorem sc__law_copied : FnScope N__law_copied ["_law_own"] (defScope s__law_copied) := ⟨rfl, rfl, rfl, by decide +kernel, rfl, by decide +kernel, by decide +kernel⟩
abbrev s__law_all : Stmt := top 41
-- 0:_law_places_here 1:_law_sheets 2:_law_machines 3:_law_values 4:_law_found 5:_law_k 6:_law_later 7:_law_cells_now 8:_law_own 9:_law_rest
abbrev N__law_all : List Str := ["_law_places_here", "_law_sheets", "_law_machines", "_law_values", "_law_found", "_law_k", "_law_later", "_law_cells_now", "_law_own", "_law_rest"]
theorem sc__law_all : FnScope N__law_all ["_law_places_here", "_law_sheets", "_law_machines", "_law_values"] (defScope s__law_all) := ⟨rfl, rfl, rfl, by decide +kernel, rfl, by decide +kernel, by decide +kernel⟩
abbrev s__law_is_right : Stmt := top 42
-- 0:_law_rows_here 1:_law_stand 2:_law_sheets 3:_law_is_named 4:_law_before 5:_law_expected 6:_law_lines
abbrev N__law_is_right : List Str := ["_law_rows_here", "_law_stand", "_law_sheets", "_law_is_named", "_law_before", "_law_expected", "_law_lines"]
theorem sc__law_is_right : FnScope N__law_is_right ["_law_rows_here", "_law_stand", "_law_sheets", "_law_is_named"] (defScope s__law_is_right) := ⟨rfl, rfl, rfl, by decide +kernel, rfl, by decide +kernel, by decide +kernel⟩
abbrev s_law : Stmt := top 43
-- 0:_law_script 1:_law_source_here 2:_law_lap 3:_law_rows_here 4:_law_states 5:_law_sheets 6:_law_turn 7:_law_one 8:_law_fault 9:_law_test 10:_law_k
abbrev N_law : List Str := ["_law_script", "_law_source_here", "_law_lap", "_law_rows_here", "_law_states", "_law_sheets", "_law_turn", "_law_one", "_law_fault", "_law_test", "_law_k"]
theorem sc_law : FnScope N_law ["_law_script"] (defScope s_law) := ⟨rfl, rfl, rfl, by decide +kernel, rfl, by decide +kernel, by decide +kernel⟩
end K

namespace K
open PySem PySem.Spec PyProof.Rows L2
def fns : List He.DefD := [
  ⟨("row_width", none), "row_width", "row_width", defArgs s_row_width, defBody s_row_width, defScope s_row_width, [], []⟩,
  ⟨("cell_ranges", none), "cell_ranges", "cell_ranges", defArgs s_cell_ranges, defBody s_cell_ranges, defScope s_cell_ranges, [], []⟩,
  ⟨("found_index", none), "found_index", "found_index", defArgs s_found_index, defBody s_found_index, defScope s_found_index, [], []⟩,
  ⟨("touched_place", none), "touched_place", "touched_place", defArgs s_touched_place, defBody s_touched_place, defScope s_touched_place, [], []⟩,
  ⟨("value_of_two", none), "value_of_two", "value_of_two", defArgs s_value_of_two, defBody s_value_of_two, defScope s_value_of_two, [], []⟩,
  ⟨("_compared", none), "_compared", "_compared", defArgs s__compared, defBody s__compared, defScope s__compared, [], []⟩,
  ⟨("first_run", none), "first_run", "first_run", defArgs s_first_run, defBody s_first_run, defScope s_first_run, [], []⟩,
  ⟨("step_of", none), "step_of", "step_of", defArgs s_step_of, defBody s_step_of, defScope s_step_of, [], []⟩,
  ⟨("_touching_step", none), "_touching_step", "_touching_step", defArgs s__touching_step, defBody s__touching_step, defScope s__touching_step, [], []⟩,
  ⟨("_touched_cell", none), "_touched_cell", "_touched_cell", defArgs s__touched_cell, defBody s__touched_cell, defScope s__touched_cell, [], []⟩,
  ⟨("_index_behind", none), "_index_behind", "_index_behind", defArgs s__index_behind, defBody s__index_behind, defScope s__index_behind, [], []⟩,
  ⟨("_slot_of", none), "_slot_of", "_slot_of", defArgs s__slot_of, defBody s__slot_of, defScope s__slot_of, [], []⟩,
  ⟨("_value_of", none), "_value_of", "_value_of", defArgs s__value_of, defBody s__value_of, defScope s__value_of, [], []⟩,
  ⟨("_replaced", none), "_replaced", "_replaced", defArgs s__replaced, defBody s__replaced, defScope s__replaced, [], []⟩,
  ⟨("schedules_of", none), "schedules_of", "schedules_of", defArgs s_schedules_of, defBody s_schedules_of, defScope s_schedules_of, [], []⟩,
  ⟨("_longer_by_one", none), "_longer_by_one", "_longer_by_one", defArgs s__longer_by_one, defBody s__longer_by_one, defScope s__longer_by_one, [], []⟩,
  ⟨("all_states", none), "all_states", "all_states", defArgs s_all_states, defBody s_all_states, defScope s_all_states, [], []⟩,
  ⟨("state_list", none), "state_list", "state_list", defArgs s_state_list, defBody s_state_list, defScope s_state_list, [], []⟩,
  ⟨("_combined", none), "_combined", "_combined", defArgs s__combined, defBody s__combined, defScope s__combined, [], []⟩,
  ⟨("_law_source", none), "_law_source", "_law_source", defArgs s__law_source, defBody s__law_source, defScope s__law_source, [], []⟩,
  ⟨("_law_next", none), "_law_next", "_law_next", defArgs s__law_next, defBody s__law_next, defScope s__law_next, [], []⟩,
  ⟨("_law_rows", none), "_law_rows", "_law_rows", defArgs s__law_rows, defBody s__law_rows, defScope s__law_rows, [], []⟩,
  ⟨("_law_places", none), "_law_places", "_law_places", defArgs s__law_places, defBody s__law_places, defScope s__law_places, [], []⟩,
  ⟨("_law_result_of", none), "_law_result_of", "_law_result_of", defArgs s__law_result_of, defBody s__law_result_of, defScope s__law_result_of, [], []⟩,
  ⟨("_law_fresh", none), "_law_fresh", "_law_fresh", defArgs s__law_fresh, defBody s__law_fresh, defScope s__law_fresh, [], []⟩,
  ⟨("_law_spot", none), "_law_spot", "_law_spot", defArgs s__law_spot, defBody s__law_spot, defScope s__law_spot, [], []⟩,
  ⟨("_law_touch", none), "_law_touch", "_law_touch", defArgs s__law_touch, defBody s__law_touch, defScope s__law_touch, [], []⟩,
  ⟨("_law_do", none), "_law_do", "_law_do", defArgs s__law_do, defBody s__law_do, defScope s__law_do, [], []⟩,
  ⟨("_law_event", none), "_law_event", "_law_event", defArgs s__law_event, defBody s__law_event, defScope s__law_event, [], []⟩,
  ⟨("_law_table_places", none), "_law_table_places", "_law_table_places", defArgs s__law_table_places, defBody s__law_table_places, defScope s__law_table_places, [], []⟩,
  ⟨("_law_part", none), "_law_part", "_law_part", defArgs s__law_part, defBody s__law_part, defScope s__law_part, [], []⟩,
  ⟨("_law_code", none), "_law_code", "_law_code", defArgs s__law_code, defBody s__law_code, defScope s__law_code, [], []⟩,
  ⟨("_law_copied", none), "_law_copied", "_law_copied", defArgs s__law_copied, defBody s__law_copied, defScope s__law_copied, [], []⟩,
  ⟨("_law_all", none), "_law_all", "_law_all", defArgs s__law_all, defBody s__law_all, defScope s__law_all, [], []⟩,
  ⟨("_law_is_right", none), "_law_is_right", "_law_is_right", defArgs s__law_is_right, defBody s__law_is_right, defScope s__law_is_right, [], []⟩,
  ⟨("law", none), "law", "law", defArgs s_law, defBody s_law, defScope s_law, [], []⟩]
def fas : List He.Fa := [.glo "row_width", .glo "cell_ranges", .glo "found_index", .glo "touched_place", .glo "value_of_two", .glo "_compared", .glo "first_run", .glo "step_of", .glo "_touching_step", .glo "_touched_cell", .glo "_index_behind", .glo "_slot_of", .glo "_value_of", .glo "_replaced", .glo "schedules_of", .glo "_longer_by_one", .glo "all_states", .glo "state_list", .glo "_combined", .glo "_law_source", .glo "_law_next", .glo "_law_rows", .glo "_law_places", .glo "_law_result_of", .glo "_law_fresh", .glo "_law_spot", .glo "_law_touch", .glo "_law_do", .glo "_law_event", .glo "_law_table_places", .glo "_law_part", .glo "_law_code", .glo "_law_copied", .glo "_law_all", .glo "_law_is_right", .glo "law",
  .free "len", .free "int", .free "max", .free "min", .free "range", .free "tuple", .free "list", .free "isinstance", .free "str", .free "bool", .free "set", .free "dict", .free "sorted", .free "enumerate", .free "repr", .int "SLOTS" 32]
def loose0 : List PySem.Str := ["row_width", "cell_ranges", "found_index", "SLOTS", "touched_place", "value_of_two", "_compared", "first_run", "step_of", "_touching_step", "_touched_cell", "_index_behind", "_slot_of", "_value_of", "_replaced", "schedules_of", "_longer_by_one", "all_states", "state_list", "_combined", "_law_source", "_law_next", "_law_rows", "_law_places", "_law_result_of", "_law_fresh", "_law_spot", "_law_touch", "_law_do", "_law_event"]
def loose1 : List PySem.Str := ["_law_table_places", "_law_part", "_law_code", "_law_copied", "_law_all", "_law_is_right"]
def loose : List PySem.Str := loose0 ++ loose1
abbrev lawAt : Nat := 43
abbrev Rw : PySem.W.OpenRow := PySem.W.OpenLaw.row PySem.Challenge.rw_orderless_k51_whole_schedules
-- INDEX 0:row_width 1:cell_ranges 2:found_index 3:touched_place 4:value_of_two 5:_compared 6:first_run 7:step_of 8:_touching_step 9:_touched_cell 10:_index_behind 11:_slot_of 12:_value_of 13:_replaced 14:schedules_of 15:_longer_by_one 16:all_states 17:state_list 18:_combined 19:_law_source 20:_law_next 21:_law_rows 22:_law_places 23:_law_result_of 24:_law_fresh 25:_law_spot 26:_law_touch 27:_law_do 28:_law_event 29:_law_table_places 30:_law_part 31:_law_code 32:_law_copied 33:_law_all 34:_law_is_right 35:law
def ruleB (_ : PySem.W.Frag) : Bool := true
abbrev ownHook : PySem.W.Hook := He.hookX 4 fas fns [] [] ruleB
abbrev ObT : Type := He.AlX
def obT (s : PySem.W.SharedT) : ObT := He.obsX 4 fas fns [] [] ruleB (HandSHeadRun.getT s)
theorem obT_eq (s : PySem.W.SharedT) : obT s = ownHook.obs s.abs := He.obsX_eq (HandSHeadRun.getT_eq s)
set_option maxHeartbeats 0 in
theorem topRun (w : World) : HandSHeadRun.RunEq Rw (PySem.W.view Rw.prog [lawAt]) ownHook obT 9000 loose w := by
  intro os
  kernel_rfl
end K

namespace G
open PySem PySem.Spec PyProof.Rows L2

/-! ### contexts by what is asked of them; the weakest reading of a piece of syntax -/
structure Md where
  prog : Program
  w : World
  K : PySem.W.Frag
  mg : Str → Option Value
  base : Heap
structure Cd extends Md where
  N : List Str
  sc : Scope
  k : Nat
  top : Bool
  g : Bool
  ev : Option (Str × Addr)
structure Is (c : Cd) (X : Cx) : Prop where
  prog : X.prog = c.prog
  w : X.w = c.w
  K : X.K = c.K
  mg : X.mg = c.mg
  base : X.base = c.base
  N : X.N = c.N
  sc : X.env.scope = c.sc
  calm : X.calm = true
  room : Room c.k X.A
  top : c.top = true → ∀ x, X.fn x = true
  own : PassesOwn (model X.prog X.w) X.A X.env X.xe
  nd : c.N.Nodup
  gd : c.g = true → X.A.guards = some []
  evh : ∀ q a, c.ev = some (q, a) → X.env.qual = q ∧ X.env.code = .ref a

structure DLe (D D' : Ends) : Prop where
  nx : ∀ σ H, D.nx σ H → D'.nx σ H
  rt : ∀ v H, D.rt v H → D'.rt v H
  bk : ∀ σ H, D.bk σ H → D'.bk σ H
  ct : ∀ σ H, D.ct σ H → D'.ct σ H
theorem DLe.refl (D : Ends) : DLe D D := ⟨fun _ _ h => h, fun _ _ h => h, fun _ _ h => h, fun _ _ h => h⟩
theorem DLe.trans {D D1 D2 : Ends} (a : DLe D D1) (b : DLe D1 D2) : DLe D D2 := ⟨fun _ _ h => b.nx _ _ (a.nx _ _ h), fun _ _ h => b.rt _ _ (a.rt _ _ h), fun _ _ h => b.bk _ _ (a.bk _ _ h), fun _ _ h => b.ct _ _ (a.ct _ _ h)⟩

structure RE (c : Cd) (e : Expr) (σ : L2.St) (H : Hp) (Q : VK) : Prop where
  ex : ∃ t Q', (∀ X, Is c X → PE X e t) ∧ t σ H Q' ∧ ∀ v H', Q' v H' → Q v H'
structure RT (c : Cd) (e : Expr) (σ : L2.St) (H : Hp) (Q : Bool → Hp → Prop) : Prop where
  ex : ∃ t Q', (∀ X, Is c X → PT X e t) ∧ t σ H Q' ∧ ∀ v H', Q' v H' → Q v H'
structure RW (c : Cd) (e : Expr) (σ : L2.St) (H : Hp) (Q : Bool → Hp → Prop) : Prop where
  ex : ∃ t Q', (∀ X, Is c X → PW X e t) ∧ t σ H Q' ∧ ∀ v H', Q' v H' → Q v H'
structure RTs (c : Cd) (es : List Expr) (σ : L2.St) (H : Hp) (Q : Bool → Hp → Prop) : Prop where
  ex : ∃ t Q', (∀ X, Is c X → PTs X es t) ∧ t σ H Q' ∧ ∀ v H', Q' v H' → Q v H'
structure RA (c : Cd) (es : List Expr) (σ : L2.St) (H : Hp) (Q : List V → Hp → Prop) : Prop where
  ex : ∃ t Q', (∀ X, Is c X → PA X es t) ∧ t σ H Q' ∧ ∀ v H', Q' v H' → Q v H'
structure RPK (c : Cd) (es : List Keyword) (σ : L2.St) (H : Hp) (Q : List V → Hp → Prop) : Prop where
  ex : ∃ t Q', (∀ X, Is c X → PK X es t) ∧ t σ H Q' ∧ ∀ v H', Q' v H' → Q v H'
structure RS (c : Cd) (st : Stmt) (D : Ends) (σ : L2.St) (H : Hp) : Prop where
  ex : ∃ t D', (∀ X, Is c X → PS X st t) ∧ t D' σ H ∧ DLe D' D
structure RB (c : Cd) (sts : List Stmt) (D : Ends) (σ : L2.St) (H : Hp) : Prop where
  ex : ∃ t D', (∀ X, Is c X → PSs X sts t) ∧ t D' σ H ∧ DLe D' D
structure RG (c : Cd) (tg : Expr) (v : V) (σ : L2.St) (H : Hp) (Q : L2.St → Hp → Prop) : Prop where
  ex : ∃ t Q', (∀ X, Is c X → PG X tg t) ∧ t v σ H Q' ∧ ∀ v H', Q' v H' → Q v H'
structure RGs (c : Cd) (ts : List Expr) (vs : List V) (σ : L2.St) (H : Hp) (Q : L2.St → Hp → Prop) : Prop where
  ex : ∃ t Q', (∀ X, Is c X → PGs X ts t) ∧ t vs σ H Q' ∧ ∀ v H', Q' v H' → Q v H'
structure RI (c : Cd) (tg it : Expr) (σ : L2.St) (H : Hp) (R : It → Hp → Prop) : Prop where
  ex : ∃ t R', (∀ X, Is c X → PI X tg it t) ∧ t σ H R' ∧ ∀ J H', R' J H' → R J H'
structure RO (c : Cd) (op : Operator) (x y : V) (H : Hp) (Q : VK) : Prop where
  ex : ∃ r Q', (∀ X, Is c X → OpR X (binaryOp op) r) ∧ r x y H Q' ∧ ∀ v H', Q' v H' → Q v H'
structure RQ (c : Cd) (op : CmpOp) (x y : V) (H : Hp) (Q : VK) : Prop where
  ex : ∃ r Q', (∀ X, Is c X → OpR X (compareOp op) r) ∧ r x y H Q' ∧ ∀ v H', Q' v H' → Q v H'
structure RU (c : Cd) (f : UnaryOp) (x : V) (H : Hp) (Q : VK) : Prop where
  ex : ∃ r Q', (∀ X, Is c X → UnR X (unaryOp f) r) ∧ r x H Q' ∧ ∀ v H', Q' v H' → Q v H'
structure RC (c : Cd) (f : Value) (xs : List V) (H : Hp) (Q : VK) : Prop where
  ex : ∃ r Q', (∀ X, Is c X → CallR X f r) ∧ r xs H Q' ∧ ∀ v H', Q' v H' → Q v H'
structure RX (c : Cd) (x y : V) (H : Hp) (Q : VK) : Prop where
  ex : ∃ r Q', (∀ X, Is c X → IxR X r) ∧ r x y H Q' ∧ ∀ v H', Q' v H' → Q v H'
structure RSl (c : Cd) (x : V) (l u : Option Int) (H : Hp) (Q : VK) : Prop where
  ex : ∃ r Q', (∀ X, Is c X → SlR X r) ∧ r x l u H Q' ∧ ∀ v H', Q' v H' → Q v H'
structure RM (c : Cd) (id : String) (x : V) (xs : List V) (H : Hp) (Q : VK) : Prop where
  ex : ∃ r Q', (∀ X, Is c X → MtR X id r) ∧ r x xs H Q' ∧ ∀ v H', Q' v H' → Q v H'
structure RP (c : Cd) (o i v : V) (H : Hp) (Q : Hp → Prop) : Prop where
  ex : ∃ r Q', (∀ X, Is c X → PSet X r) ∧ r o i v H Q' ∧ ∀ H', Q' H' → Q H'
structure RPo (c : Cd) (e : Option Expr) (σ : L2.St) (H : Hp) (Q : Option Int → Hp → Prop) : Prop where
  ex : ∃ t Q', (∀ X, Is c X → PO X e t) ∧ t σ H Q' ∧ ∀ v H', Q' v H' → Q v H'

section
variable {c : Cd} {X : Cx} (h : Is c X)
include h
theorem pe_re {e : Expr} : PE X e (RE c e) := ⟨fun pins s σ H Q I ⟨⟨_, _, a, q, w⟩⟩ => thn ((a X h).run pins s σ H _ I q) fun _ _ ⟨v, H', I', r, q'⟩ => ⟨v, H', I', r, w _ _ q'⟩⟩
theorem pt_rt {e : Expr} : PT X e (RT c e) := ⟨fun pins s σ H Q I ⟨⟨_, _, a, q, w⟩⟩ => thn ((a X h).run pins s σ H _ I q) fun _ _ ⟨H', I', q'⟩ => ⟨H', I', w _ _ q'⟩⟩
theorem pw_rw {e : Expr} : PW X e (RW c e) := ⟨fun wh pins s σ H Q I ⟨⟨_, _, a, q, w⟩⟩ => thn ((a X h).run wh pins s σ H _ I q) fun _ _ ⟨H', I', q'⟩ => ⟨H', I', w _ _ q'⟩⟩
theorem pts_rts {es : List Expr} : PTs X es (RTs c es) := ⟨fun pins s σ H Q I ⟨⟨_, _, a, q, w⟩⟩ => thn ((a X h).run pins s σ H _ I q) fun _ _ ⟨H', I', q'⟩ => ⟨H', I', w _ _ q'⟩⟩
theorem pa_ra {es : List Expr} : PA X es (RA c es) := ⟨fun pos pins s σ H Q I ⟨⟨_, _, a, q, w⟩⟩ => thn ((a X h).run pos pins s σ H _ I q) fun _ _ ⟨v, H', I', r, q'⟩ => ⟨v, H', I', r, w _ _ q'⟩⟩
theorem pk_rk {es : List Keyword} : PK X es (RPK c es) := ⟨fun pos pins s σ H Q I ⟨⟨_, _, a, q, w⟩⟩ => thn ((a X h).run pos pins s σ H _ I q) fun _ _ ⟨v, H', I', r, q'⟩ => ⟨v, H', I', r, w _ _ q'⟩⟩
theorem SP.le {pins : List (Addr × Obj)} {D' D : Ends} (w : DLe D' D) : ∀ {f : Flow} {s' : Shared}, SP X pins D' f s' → SP X pins D f s'
  | .next, _, ⟨σ', H', I, q⟩ => ⟨σ', H', I, w.nx _ _ q⟩
  | .brk, _, ⟨σ', H', I, q⟩ => ⟨σ', H', I, w.bk _ _ q⟩
  | .cont, _, ⟨σ', H', I, q⟩ => ⟨σ', H', I, w.ct _ _ q⟩
  | .ret _, _, ⟨v, σ', H', I, r, q⟩ => ⟨v, σ', H', I, r, w.rt _ _ q⟩
theorem ps_rs {st : Stmt} : PS X st (RS c st) := ⟨fun pins s σ H D I ⟨⟨_, _, a, q, w⟩⟩ => thn ((a X h).run pins s σ H _ I q) fun _ _ q' => SP.le h w q'⟩
theorem ps_rb {sts : List Stmt} : PSs X sts (RB c sts) := ⟨fun pins s σ H D I ⟨⟨_, _, a, q, w⟩⟩ => thn ((a X h).run pins s σ H _ I q) fun _ _ q' => SP.le h w q'⟩
theorem pg_rg {tg : Expr} : PG X tg (RG c tg) := ⟨fun pins s σ H v u Q I r ⟨⟨_, _, a, q, w⟩⟩ => thn ((a X h).run pins s σ H v u _ I r q) fun _ _ ⟨σ', H', I', q'⟩ => ⟨σ', H', I', w _ _ q'⟩⟩
theorem pg_rgs {ts : List Expr} : PGs X ts (RGs c ts) := ⟨fun pins s σ H vs us Q I r ⟨⟨_, _, a, q, w⟩⟩ => thn ((a X h).run pins s σ H vs us _ I r q) fun _ _ ⟨σ', H', I', q'⟩ => ⟨σ', H', I', w _ _ q'⟩⟩
theorem pi_ri {tg it : Expr} : PI X tg it (RI c tg it) := ⟨fun pins s σ H R I ⟨⟨_, _, a, q, w⟩⟩ => thn ((a X h).run pins s σ H _ I q) fun _ _ z => thn z fun _ _ ⟨it, fp, tn, J, H', e, I', T, t0, f, q'⟩ => ⟨it, fp, tn, J, H', e, I', T, t0, f, w _ _ q'⟩⟩
theorem EP.le {pins : List (Addr × Obj)} {σ : L2.St} {Q' Q : VK} {u : Value} {s' : Shared} (w : ∀ v H', Q' v H' → Q v H') : EP X pins σ Q' u s' → EP X pins σ Q u s' := fun ⟨v, H', I', r, q'⟩ => ⟨v, H', I', r, w _ _ q'⟩
theorem op_ro {op : Operator} : OpR X (binaryOp op) (RO c op) := fun pins s σ H x y v u Q I r1 r2 ⟨⟨_, _, a, q, w⟩⟩ => thn (a X h pins s σ H x y v u _ I r1 r2 q) fun _ _ z => EP.le h w z
theorem op_rq {op : CmpOp} : OpR X (compareOp op) (RQ c op) := fun pins s σ H x y v u Q I r1 r2 ⟨⟨_, _, a, q, w⟩⟩ => thn (a X h pins s σ H x y v u _ I r1 r2 q) fun _ _ z => EP.le h w z
theorem un_ru {f : UnaryOp} : UnR X (unaryOp f) (RU c f) := fun pins s σ H x v Q I r ⟨⟨_, _, a, q, w⟩⟩ => thn (a X h pins s σ H x v _ I r q) fun _ _ z => EP.le h w z
theorem call_rc {f : Value} : CallR X f (RC c f) := fun pins s σ H xs us Q I r ⟨⟨_, _, a, q, w⟩⟩ => thn (a X h pins s σ H xs us _ I r q) fun _ _ z => EP.le h w z
theorem ix_rx : IxR X (RX c) := by
  intro value slice pins s σ H x y v u Q I r1 r2 q0 hs
  obtain ⟨⟨_, _, a, q, w⟩⟩ := q0
  exact thn (a X h value slice pins s σ H x y v u _ I r1 r2 q hs) fun _ _ z => EP.le h w z
theorem sl_rs : SlR X (RSl c) := by
  intro pins s σ H x v vl vu lo hi sl Q I rx hs pl pu ⟨⟨_, _, a, q, w⟩⟩
  obtain ⟨T, id, h1, h2, h3⟩ := a X h pins s σ H x v vl vu lo hi sl _ I rx hs pl pu q
  exact ⟨T, id, h1, h2, thn h3 fun _ _ z => EP.le h w z⟩
theorem mt_rm {id : String} : MtR X id (RM c id) := by
  intro pins s σ H x xs v us Q I r1 r2 ⟨⟨_, _, a, q, w⟩⟩
  exact thn (a X h pins s σ H x xs v us _ I r1 r2 q) fun _ _ z => EP.le h w z
theorem set_rp : PSet X (RP c) := by
  intro pins s σ H o i v ov iv u Q I r1 r2 r3 ⟨⟨_, _, a, q, w⟩⟩
  exact thn (a X h pins s σ H o i v ov iv u _ I r1 r2 r3 q) fun _ _ ⟨H', I', q'⟩ => ⟨H', I', w _ q'⟩
theorem po_rp {e : Option Expr} : PO X e (RPo c e) := ⟨fun pins s σ H Q I ⟨⟨_, _, a, q, w⟩⟩ => thn ((a X h).run pins s σ H _ I q) fun _ _ ⟨o, H', I', p, q'⟩ => ⟨o, H', I', p, w _ _ q'⟩⟩
end
section
variable {c : Cd} {σ : L2.St} {H : Hp} {Q Q' : VK} {B B' : Bool → Hp → Prop} {D D' : Ends}
theorem re_of {e : Expr} {t : TE} (h : ∀ X, Is c X → PE X e t) (q : t σ H Q) : RE c e σ H Q := ⟨⟨t, Q, h, q, fun _ _ z => z⟩⟩
theorem rt_of {e : Expr} {t : TT} (h : ∀ X, Is c X → PT X e t) (q : t σ H B) : RT c e σ H B := ⟨⟨t, B, h, q, fun _ _ z => z⟩⟩
theorem rw_of {e : Expr} {t : TT} (h : ∀ X, Is c X → PW X e t) (q : t σ H B) : RW c e σ H B := ⟨⟨t, B, h, q, fun _ _ z => z⟩⟩
theorem rts_of {es : List Expr} {t : TT} (h : ∀ X, Is c X → PTs X es t) (q : t σ H B) : RTs c es σ H B := ⟨⟨t, B, h, q, fun _ _ z => z⟩⟩
theorem ra_of {es : List Expr} {t : TA} {Q : List V → Hp → Prop} (h : ∀ X, Is c X → PA X es t) (q : t σ H Q) : RA c es σ H Q := ⟨⟨t, Q, h, q, fun _ _ z => z⟩⟩
theorem rk_of {es : List Keyword} {t : TA} {Q : List V → Hp → Prop} (h : ∀ X, Is c X → PK X es t) (q : t σ H Q) : RPK c es σ H Q := ⟨⟨t, Q, h, q, fun _ _ z => z⟩⟩
theorem rs_of {st : Stmt} {t : TS} (h : ∀ X, Is c X → PS X st t) (q : t D σ H) : RS c st D σ H := ⟨⟨t, D, h, q, DLe.refl D⟩⟩
theorem rb_of {st : List Stmt} {t : TS} (h : ∀ X, Is c X → PSs X st t) (q : t D σ H) : RB c st D σ H := ⟨⟨t, D, h, q, DLe.refl D⟩⟩
theorem rg_of {tg : Expr} {t : TG} {v : V} {Q : L2.St → Hp → Prop} (h : ∀ X, Is c X → PG X tg t) (q : t v σ H Q) : RG c tg v σ H Q := ⟨⟨t, Q, h, q, fun _ _ z => z⟩⟩
theorem rgs_of {tg : List Expr} {t : TGs} {v : List V} {Q : L2.St → Hp → Prop} (h : ∀ X, Is c X → PGs X tg t) (q : t v σ H Q) : RGs c tg v σ H Q := ⟨⟨t, Q, h, q, fun _ _ z => z⟩⟩
theorem ri_of {tg it : Expr} {t : TI} {R : It → Hp → Prop} (h : ∀ X, Is c X → PI X tg it t) (q : t σ H R) : RI c tg it σ H R := ⟨⟨t, R, h, q, fun _ _ z => z⟩⟩
theorem ro_of {op : Operator} {r : R2} {x y : V} (h : ∀ X, Is c X → OpR X (binaryOp op) r) (q : r x y H Q) : RO c op x y H Q := ⟨⟨r, Q, h, q, fun _ _ z => z⟩⟩
theorem rq_of {op : CmpOp} {r : R2} {x y : V} (h : ∀ X, Is c X → OpR X (compareOp op) r) (q : r x y H Q) : RQ c op x y H Q := ⟨⟨r, Q, h, q, fun _ _ z => z⟩⟩
theorem ru_of {f : UnaryOp} {r : V → Hp → VK → Prop} {x : V} (h : ∀ X, Is c X → UnR X (unaryOp f) r) (q : r x H Q) : RU c f x H Q := ⟨⟨r, Q, h, q, fun _ _ z => z⟩⟩
theorem rc_of {f : Value} {r : List V → Hp → VK → Prop} {xs : List V} (h : ∀ X, Is c X → CallR X f r) (q : r xs H Q) : RC c f xs H Q := ⟨⟨r, Q, h, q, fun _ _ z => z⟩⟩
theorem rx_of {r : R2} {x y : V} (h : ∀ X, Is c X → IxR X r) (q : r x y H Q) : RX c x y H Q := ⟨⟨r, Q, h, q, fun _ _ z => z⟩⟩
theorem rsl_of {r : V → Option Int → Option Int → Hp → VK → Prop} {x : V} {l u : Option Int} (h : ∀ X, Is c X → SlR X r) (q : r x l u H Q) : RSl c x l u H Q := ⟨⟨r, Q, h, q, fun _ _ z => z⟩⟩
theorem rm_of {id : String} {r : V → List V → Hp → VK → Prop} {x : V} {xs : List V} (h : ∀ X, Is c X → MtR X id r) (q : r x xs H Q) : RM c id x xs H Q := ⟨⟨r, Q, h, q, fun _ _ z => z⟩⟩
theorem rp_of {r : TSet} {o i v : V} {Q : Hp → Prop} (h : ∀ X, Is c X → PSet X r) (q : r o i v H Q) : RP c o i v H Q := ⟨⟨r, Q, h, q, fun _ z => z⟩⟩
theorem rpo_of {e : Option Expr} {t : TO} {Q : Option Int → Hp → Prop} (h : ∀ X, Is c X → PO X e t) (q : t σ H Q) : RPo c e σ H Q := ⟨⟨t, Q, h, q, fun _ _ z => z⟩⟩
theorem RE.mono {e : Expr} (w : ∀ v H', Q v H' → Q' v H') : RE c e σ H Q → RE c e σ H Q' := fun ⟨⟨t, Q1, h, q, z⟩⟩ => ⟨⟨t, Q1, h, q, fun _ _ y => w _ _ (z _ _ y)⟩⟩
theorem RT.mono {e : Expr} (w : ∀ v H', B v H' → B' v H') : RT c e σ H B → RT c e σ H B' := fun ⟨⟨t, Q1, h, q, z⟩⟩ => ⟨⟨t, Q1, h, q, fun _ _ y => w _ _ (z _ _ y)⟩⟩
theorem RTs.mono {e : List Expr} (w : ∀ v H', B v H' → B' v H') : RTs c e σ H B → RTs c e σ H B' := fun ⟨⟨t, Q1, h, q, z⟩⟩ => ⟨⟨t, Q1, h, q, fun _ _ y => w _ _ (z _ _ y)⟩⟩
theorem RA.mono {e : List Expr} {Q Q' : List V → Hp → Prop} (w : ∀ v H', Q v H' → Q' v H') : RA c e σ H Q → RA c e σ H Q' := fun ⟨⟨t, Q1, h, q, z⟩⟩ => ⟨⟨t, Q1, h, q, fun _ _ y => w _ _ (z _ _ y)⟩⟩
theorem RG.mono {e : Expr} {v : V} {Q Q' : L2.St → Hp → Prop} (w : ∀ v H', Q v H' → Q' v H') : RG c e v σ H Q → RG c e v σ H Q' := fun ⟨⟨t, Q1, h, q, z⟩⟩ => ⟨⟨t, Q1, h, q, fun _ _ y => w _ _ (z _ _ y)⟩⟩
theorem RI.mono {tg it : Expr} {R R' : It → Hp → Prop} (w : ∀ v H', R v H' → R' v H') : RI c tg it σ H R → RI c tg it σ H R' := fun ⟨⟨t, Q1, h, q, z⟩⟩ => ⟨⟨t, Q1, h, q, fun _ _ y => w _ _ (z _ _ y)⟩⟩
theorem RO.mono {f : Operator} {x y : V} (w : ∀ v H', Q v H' → Q' v H') : RO c f x y H Q → RO c f x y H Q' := fun ⟨⟨t, Q1, h, q, z⟩⟩ => ⟨⟨t, Q1, h, q, fun _ _ y => w _ _ (z _ _ y)⟩⟩
theorem RS.mono {st : Stmt} (w : DLe D D') : RS c st D σ H → RS c st D' σ H := fun ⟨⟨t, Q1, h, q, z⟩⟩ => ⟨⟨t, Q1, h, q, z.trans w⟩⟩
theorem RB.mono {st : List Stmt} (w : DLe D D') : RB c st D σ H → RB c st D' σ H := fun ⟨⟨t, Q1, h, q, z⟩⟩ => ⟨⟨t, Q1, h, q, z.trans w⟩⟩
end
theorem kEq {c : Cd} {X : Cx} (h : Is c X) {p : PySem.W.Frag → Prop} (a : p X.K) : p c.K := h.K ▸ a

/-- the place of a name -/
inductive At : List Str → Nat → Str → Prop
  | z {x : Str} {l : List Str} : At (x :: l) 0 x
  | s {x y : Str} {l : List Str} {i : Nat} (h : At l i x) : At (y :: l) (i + 1) x
theorem At.get {x : Str} : ∀ {l : List Str} {i : Nat}, At l i x → l[i]? = some x
  | _, _, .z => rfl
  | _, _, .s h => by simpa using At.get h
/-! ### expressions -/
section
variable {c : Cd} {σ : L2.St} {H : Hp} {Q : VK} {pos : Pos}
theorem e_int {i : Int} {j} (q : Q (.int i) H) : RE c (.Constant (.int i) j pos) σ H Q := re_of (fun _ _ => pe_int) q
theorem e_bl {b : Bool} {j} (q : Q (.bl b) H) : RE c (.Constant (.bool b) j pos) σ H Q := re_of (fun _ _ => pe_bl) q
theorem e_non {j} (q : Q .non H) : RE c (.Constant .none j pos) σ H Q := re_of (fun _ _ => pe_non) q
theorem e_str {x : Str} {j} (q : Q (.str x) H) : RE c (.Constant (.str x) j pos) σ H Q := re_of (fun _ _ => pe_str) q
theorem e_var {i : Nat} {x : Str} {v : V} (hA : At c.N i x) (q : Q v H) (hσ : σ[i]? = some (some v) := by rfl)
    (hv : Vis c.sc x := by first | exact Or.inl rfl | exact Or.inr (Or.inl rfl) | exact Or.inr (Or.inr rfl)) (hd : (x == ("__debug__" : Str)) = false := by decide) (hcd : (x == ("__classdict__" : Str)) = false := by decide) :
    RE c (.Name x pos) σ H Q := re_of (fun X h => pe_var (i := i) (by rw [h.N]; exact hA.get) (by rw [h.sc]; exact hv) hd hcd) ⟨v, hσ, q⟩
theorem gl_of {X : Cx} (h : Is c X) {x : Str} (hg : c.sc.names.lookup x = some .globalImplicit) : Gl X x := by
  show X.env.scope.names.lookup x = _
  rw [h.sc]; exact hg
/-- a module's constant -/
theorem e_glob {x : Str} {v : V} {u : Value} (hm : c.mg x = some u) (r : RelV v u) (q : Q v H) (hg : c.sc.names.lookup x = some .globalImplicit := by rfl) (hd : (x == ("__debug__" : Str)) = false := by decide) : RE c (.Name x pos) σ H Q :=
  re_of (fun X h => pe_glob (gl_of h hg) (by rw [h.mg]; exact hm) r hd) q
theorem e_bltn {x : Str} {v : V} {u : Value} (hm : c.mg x = none) (hv : bootBuiltins x = some u) (r : RelV v u) (q : Q v H) (hg : c.sc.names.lookup x = some .globalImplicit := by rfl) (hn : x ≠ "__name__" := by decide) (hd : (x == ("__debug__" : Str)) = false := by decide) :
    RE c (.Name x pos) σ H Q := re_of (fun X h => pe_bltn (gl_of h hg) (by rw [h.mg]; exact hm) hv r hn hd) q
theorem e_bin {a b : Expr} {op : Operator} (q : RE c a σ H fun x H1 => RE c b σ H1 fun y H2 => RO c op x y H2 Q) : RE c (.BinOp a op b pos) σ H Q :=
  re_of (fun X h => pe_op (op_ro h) (pe_re h) (pe_re h)) q
theorem e_un {a : Expr} {op : UnaryOp} (q : RE c a σ H fun x H1 => RU c op x H1 Q) : RE c (.UnaryOp op a pos) σ H Q :=
  re_of (fun X h => pe_un (un_ru h) (pe_re h)) q
theorem e_cmp {a b : Expr} {op : CmpOp} (q : RE c a σ H fun x H1 => RE c b σ H1 fun y H2 => RQ c op x y H2 Q) (hm : behindInMarks op b = false := by first | rfl | exact nomark _) : RE c (.Compare a [op] [b] pos) σ H Q :=
  re_of (fun X h => pe_cmpR (op_rq h) (pe_re h) (pe_re h) hm) q
theorem e_chain {a b d : Expr} {op op' : CmpOp} (q : RE c a σ H fun x H1 => RE c b σ H1 fun y H2 => RQ c op x y H2 fun z H3 => ∃ k, z = .bl k ∧ (if k = true then RE c d σ H3 fun w' H4 => RQ c op' y w' H4 Q else Q (.bl false) H3))
    (hm : lastMarks [op, op'] [b, d] = false := by with_unfolding_all rfl) : RE c (.Compare a [op, op'] [b, d] pos) σ H Q :=
  re_of (t := tChain (RQ c op) (RQ c op') (RE c a) (RE c b) (RE c d)) (fun X h => pe_chain (op_rq h) (op_rq h) (pe_re h) (pe_re h) (pe_re h) hm) q
theorem e_one {a : Expr} {op} (q : RE c a σ H Q) : RE c (.BoolOp op [a] pos) σ H Q := re_of (fun X h => pe_one (pe_re h)) q
theorem e_and {a b : Expr} {rest : List Expr} (q : RE c a σ H fun x H1 => ∃ k, x = .bl k ∧ if k = true then RE c (.BoolOp .And (b :: rest) pos) σ H1 Q else Q (.bl false) H1) : RE c (.BoolOp .And (a :: b :: rest) pos) σ H Q :=
  re_of (fun X h => pe_and (pe_re h) (pe_re h)) q
theorem e_or {a b : Expr} {rest : List Expr} (q : RE c a σ H fun x H1 => ∃ k, x = .bl k ∧ if k = true then Q (.bl true) H1 else RE c (.BoolOp .Or (b :: rest) pos) σ H1 Q) : RE c (.BoolOp .Or (a :: b :: rest) pos) σ H Q :=
  re_of (fun X h => pe_or (pe_re h) (pe_re h)) q
theorem e_not {a : Expr} (q : RE c a σ H fun x H1 => ∃ k, x = .bl k ∧ Q (.bl (!k)) H1) : RE c (.UnaryOp .Not a pos) σ H Q :=
  re_of (fun X h => pe_not (pe_re h)) q
theorem e_if {a b d : Expr} (q : RT c d σ H fun k H1 => if k = true then RE c a σ H1 Q else RE c b σ H1 Q) : RE c (.IfExp d a b pos) σ H Q :=
  re_of (fun X h => pe_ifExp (pt_rt h) (pe_re h) (pe_re h)) q
theorem a_nil {Q : List V → Hp → Prop} (q : Q [] H) : RA c [] σ H Q := ra_of (fun _ _ => pa_nil) q
theorem a_cons {Q : List V → Hp → Prop} {e : Expr} {es : List Expr} (q : RE c e σ H fun x H1 => RA c es σ H1 fun xs H2 => Q (x :: xs) H2) (hs : ∀ env, starEach (e :: es) env = (false, eval e env) :: starEach es env := by intro _; rfl) : RA c (e :: es) σ H Q :=
  ra_of (fun X h => pa_cons (pe_re h) (pa_ra h) (hs _)) q
theorem e_tup {es : List Expr} {x1} (q : RA c es σ H fun xs H1 => xs.length ≤ sizeLine ∧ ∀ p, H1 p = none → Q (.ref p) (upd H1 p (.tup xs))) : RE c (.Tuple es x1 pos) σ H Q :=
  re_of (fun X h => pe_tup (pa_ra h)) q
theorem e_lst {es : List Expr} (q : RA c es σ H fun xs H1 => xs.length ≤ sizeLine ∧ ∀ p, H1 p = none → Q (.ref p) (upd H1 p (.lst xs))) : RE c (.List es pos) σ H Q :=
  re_of (fun X h => pe_lst (pa_ra h)) q
theorem e_ix {a b : Expr} (q : RE c a σ H fun x H1 => RE c b σ H1 fun y H2 => RX c x y H2 Q) (hs : PlainIx b := by intro _ _; rfl) : RE c (.Subscript a b pos) σ H Q :=
  re_of (fun X h => pe_ix (ix_rx h) (pe_re h) (pe_re h) hs) q
theorem e_dget {a b : Expr} (q : RE c a σ H fun x H1 => RE c b σ H1 fun y H2 => ∃ a v, x = .ref a ∧ DGet H2 a y (some v) ∧ Q v H2) (hs : NoSl b := by intro _ _; rfl) : RE c (.Subscript a b pos) σ H Q :=
  re_of (fun X h => pe_dget (by have := h.room.units; omega) (pe_re h) (pe_re h) hs) q
theorem p_none {Q : Option Int → Hp → Prop} (q : Q none H) : RPo c none σ H Q := rpo_of (fun _ _ => po_none) q
theorem p_some {e : Expr} {Q : Option Int → Hp → Prop} (q : RE c e σ H fun x H1 => ∃ i, x = .int i ∧ Q (some i) H1) : RPo c (some e) σ H Q := rpo_of (fun _ h => po_some (pe_re h)) q
theorem e_slice {e : Expr} {lo hi : Option Expr} {p2 : Pos} (q : RE c e σ H fun x H1 => RPo c lo σ H1 fun l H2 => RPo c hi σ H2 fun u H3 => RSl c x l u H3 Q) : RE c (.Subscript e (.Slice lo hi none p2) pos) σ H Q :=
  re_of (fun _ h => pe_slice (sl_rs h) (pe_re h) (po_rp h) (po_rp h)) q
/-! ### defs, where no text of an object is being written (what repr asks for) -/
structure FnQ (P : Program) (w : World) (K : PySem.W.Frag) (mg : Str → Option Value) (base : Heap) (CX : CXT) (k : Nat) (f : Addr) (fd : FuncData) (ps : List Str) (sp : Sp) : Prop where
  len : ∀ vs H Q E, sp vs H Q E → vs.length = ps.length
  run : ∀ (A : Around) (up : List Env) (st : Shared) (H : Hp) (ag : Args) (us : List Value) (vs : List V) (Q : VK) (E : XK), A.guards = some [] → Room k A → Env0 P w K mg base A up st H → BindsTo st fd ag (ps.zip us) → Vals vs us → sp vs H Q E →
    codeAny (model P w) A (.call (.ref f) ag) (CR CX up P w H st Q E) st
theorem fnQ_of {CX : CXT} {P : Program} {w : World} {K : PySem.W.Frag} {mg : Str → Option Value} {base : Heap} {k : Nat} {f : Addr} {x qual : Str} {pas : Arguments} {bd : List Stmt} {sco : Scope} {dV kV doc pm cdv ct oc : Value} {an od : Option Addr} {osl : Array (Option Value)} {N ps : List Str} {sp : Sp}
    (at_ : K.lookup f = some ⟨oc, od, .func (PySem.W.fnOf x qual pas bd sco dV kV doc pm an cdv ct), osl⟩) (cod : PySem.W.codeIn K cdv qual = true) (S : FnScope N ps sco) (len : ∀ vs H Q E, sp vs H Q E → vs.length = ps.length)
    (walk : ∀ (A : Around) (up : List Env) (st : Shared) (H : Hp) (vs : List V) (Q : VK) (E : XK), A.guards = some [] → Room k (A.deeper (envOfC qual sco st.heap.objs.size f cdv)) → sp vs H Q E →
      ∃ t, PSs (cxOf CX P w K mg base N qual sco f cdv A up st H E) bd t ∧ t { nx := fun _ H' => Q .non H', rt := Q } (start N vs) H) : FnQ P w K mg base CX (k + 1) f (PySem.W.fnOf x qual pas bd sco dV kV doc pm an cdv ct) ps sp := by
  refine ⟨len, fun A up st H ag us vs Q E quiet room en bt vv want => ?_⟩
  have many := len vs H Q E want
  have here : ∀ b o, base.get? b = some o → st.heap.get? b = some o := fun b o e => (en.bs b o e).1
  have inK : K.In st.heap := en.mod.kin.keeps here
  have free : st.heap.NoLimit := en.mod.nolimit.keeps here
  have kinds : ∀ z ∈ ps.zip us, sco.names.lookup z.1 = some .local ∨ (sco.names.lookup z.1 = some .cell ∧ ((cellsFrom (st.heap.objs.size + 1) sco.names []).lookup z.1).isSome = true) := by
    rintro ⟨n, v⟩ hz
    exact (S.par n (List.of_mem_zip hz).1).imp id fun q => ⟨q, PySem.W.cellsFrom_some _ _ _ (.inl q)⟩
  refine codeAny_call_function room.depth (inK _ _ at_) rfl S.co S.gen rfl (PySem.W.codeRec_of inK cod) (bt _ _ _ _ (wpAny_newFunctionEnv_cells S.kind kinds fun env same s1 made => ?_))
  subst same
  refine ⟨free.keeps made.toInCall.keep, codeAny_func ?_⟩
  obtain ⟨t, runs, goal⟩ := walk A up st H vs Q E quiet (room.deeper _) want
  have J : Inv (cxOf CX P w K mg base N qual sco f cdv A up st H E) [] (start N vs) H s1 := inv_start S room.hd en many vv made
  refine wpAny_mono (runs.run [] s1 (start N vs) H _ J goal) (fun fl s2 e => ?_) fun _ _ e => e
  cases fl with
  | ret u => exact let ⟨v, _, H2, J2, rv, q⟩ := e; ⟨v, H2, J2.os, J2.bare, J2.base, J2.hok, rv, q⟩
  | next => exact let ⟨_, H2, J2, q⟩ := e; ⟨V.non, H2, J2.os, J2.bare, J2.base, J2.hok, (rfl : Value.none = Value.none), q⟩
  | brk => exact (let ⟨_, _, _, q⟩ := e; False.elim q)
  | cont => exact (let ⟨_, _, _, q⟩ := e; False.elim q)
section
variable {X : Cx} {k : Nat} {f : Addr} {fd : FuncData} {ps : List Str} {sp : Sp} {dvs : List V} {ds : List Value} {x : Str} {p pos : Pos} {e : Expr} {es : List Expr} {t : TA}
abbrev noX : CXT := fun _ _ _ _ _ _ => False
theorem runQ {pins : List (Addr × Obj)} {σ : L2.St} {H : Hp} {st : Shared} {Q : VK} {us : List Value} {vs : List V} (F : FnQ X.prog X.w X.K X.mg X.base noX k f fd ps sp) (quiet : X.A.guards = some []) (room : Room k X.A) (bn : Binds X.K fd ps ds) (dv : Vals dvs ds)
    (J : Inv X pins σ H st) (vv : Vals vs us) (want : sp (vs ++ dvs) H Q fun _ _ _ => False) : wpAny (model X.prog X.w) X.A (call (.ref f) us) (EP X pins σ Q) X.xe st := by
  have all := vv.append dv
  have many : (us ++ ds).length = ps.length := all.length.symm.trans (F.len _ _ _ _ want)
  refine wpAny_call (codeAny_mono (F.run X.A X.stack st H ⟨us, []⟩ _ _ Q _ quiet room J.env0 (bn st us J.kIn many) all want) fun r s2 z => ?_)
  match r, z with
  | .ok (.ret u), z => exact J.after z
theorem peQ_call (F : FnQ X.prog X.w X.K X.mg X.base noX k f fd ps sp) (quiet : X.A.guards = some []) (room : Room k X.A) (gl : Gl X x) (hm : X.mg x = some (.ref f)) (kp : PySem.W.keepIn X.K (.ref f) = true) (bn : Binds X.K fd ps ds) (dv : Vals dvs ds)
    (ha : PA X (e :: es) t) (hdb : (x == ("__debug__" : Str)) = false) (he : starEach (e :: es) X.env = (false, eval e X.env) :: starEach es X.env) (hpl : (backTo pos (starEach es X.env)).any (·.1) = false) : PE X (.Call (.Name x p) (e :: es) [] pos) (tCall sp dvs (fun _ _ _ => False) t) := by
  constructor
  intro pins st σ H Q J z
  apply wpAny_Call_Name_kw
  apply ld_glob J gl hm _ hdb
  exact PySem.W.callWith_K (h₀ := X.base) J.ok.mod.kin kp (thn (ha.run pos pins st σ H _ J z) fun us s1 ⟨vs, H1, J1, vv, q⟩ => ⟨J1.kIn, runQ F quiet room bn dv J1 vv q⟩) he hpl
theorem peQ_call0 (F : FnQ X.prog X.w X.K X.mg X.base noX k f fd ps sp) (quiet : X.A.guards = some []) (room : Room k X.A) (gl : Gl X x) (hm : X.mg x = some (.ref f)) (kp : PySem.W.keepIn X.K (.ref f) = true) (bn : Binds X.K fd ps ds) (dv : Vals dvs ds)
    (hdb : (x == ("__debug__" : Str)) = false) : PE X (.Call (.Name x p) [] [] pos) (tCall sp dvs (fun _ _ _ => False) tNil) := by
  constructor
  intro pins st σ H Q J z
  apply wpAny_Call_Name_kw
  apply ld_glob J gl hm _ hdb
  exact PySem.W.callWith_K0 J.kIn kp (runQ (us := []) F quiet room bn dv J .nil z)
end
abbrev FnG := @FnOk
/-! ### calls -/
/-- a def at the module's name x -/
structure Dc (c : Md) (x : Str) (ps : List Str) (k : Nat) (sp : Sp) : Prop where
  ex : ∃ (f : Addr) (fd : FuncData), FnG c.prog c.w c.K c.mg c.base noX k f fd ps sp ∧ c.mg x = some (.ref f) ∧ PySem.W.keepIn c.K (.ref f) = true ∧ Binds c.K fd ps []
theorem e_call {x : Str} {p : Pos} {e : Expr} {es : List Expr} {ps : List Str} {k : Nat} {sp : Sp} (D : Dc c.toMd x ps k sp) (q : RA c (e :: es) σ H fun vs H1 => sp vs H1 Q fun _ _ _ => False) (hk : k ≤ c.k := by exact Nat.le_of_ble_eq_true rfl) (hg : c.sc.names.lookup x = some .globalImplicit := by rfl)
    (hdb : (x == ("__debug__" : Str)) = false := by decide) (he : ∀ env, starEach (e :: es) env = (false, eval e env) :: starEach es env := by intro _; rfl) (hpl : ∀ env, (backTo pos (starEach es env)).any (·.1) = false := by intro _; rfl) :
    RE c (.Call (.Name x p) (e :: es) [] pos) σ H Q := by
  obtain ⟨f, fd, F, hm, hkp, hb⟩ := D.ex
  refine re_of (t := tCall sp [] (fun _ _ _ => False) (RA c (e :: es))) (fun X h => ?_) ?_
  · refine pe_call (CX := fun _ _ _ _ _ _ => False) (k := k) (f := f) (fd := fd) (ps := ps) (ds := []) ?_ (h.room.mono hk) (gl_of h hg) (by rw [h.mg]; exact hm) (by rw [h.K]; exact hkp) (by rw [h.K]; exact hb) .nil (fun _ _ _ _ _ _ _ z => z.elim) (pa_ra h) hdb (he _) (hpl _)
    rw [h.prog, h.w, h.K, h.mg, h.base]; exact F
  · show RA c (e :: es) σ H fun vs H1 => sp (vs ++ []) H1 Q fun _ _ _ => False
    simpa only [List.append_nil] using q
theorem e_call0 {x : Str} {p : Pos} {ps : List Str} {k : Nat} {sp : Sp} (D : Dc c.toMd x ps k sp) (q : sp [] H Q fun _ _ _ => False) (hk : k ≤ c.k := by exact Nat.le_of_ble_eq_true rfl) (hg : c.sc.names.lookup x = some .globalImplicit := by rfl)
    (hdb : (x == ("__debug__" : Str)) = false := by decide) : RE c (.Call (.Name x p) [] [] pos) σ H Q := by
  obtain ⟨f, fd, F, hm, hkp, hb⟩ := D.ex
  refine re_of (t := tCall sp [] (fun _ _ _ => False) tNil) (fun X h => ?_) q
  refine pe_call0 (CX := fun _ _ _ _ _ _ => False) (k := k) (f := f) (fd := fd) (ps := ps) (ds := []) ?_ (h.room.mono hk) (gl_of h hg) (by rw [h.mg]; exact hm) (by rw [h.K]; exact hkp) (by rw [h.K]; exact hb) .nil (fun _ _ _ _ _ _ _ z => z.elim) hdb
  rw [h.prog, h.w, h.K, h.mg, h.base]; exact F
/-- a def at the module's name x -/
structure DcQ (c : Md) (x : Str) (ps : List Str) (k : Nat) (sp : Sp) : Prop where
  ex : ∃ (f : Addr) (fd : FuncData), FnQ c.prog c.w c.K c.mg c.base noX k f fd ps sp ∧ c.mg x = some (.ref f) ∧ PySem.W.keepIn c.K (.ref f) = true ∧ Binds c.K fd ps []
theorem e_callQ {x : Str} {p : Pos} {e : Expr} {es : List Expr} {ps : List Str} {k : Nat} {sp : Sp} (D : DcQ c.toMd x ps k sp) (q : RA c (e :: es) σ H fun vs H1 => sp vs H1 Q fun _ _ _ => False) (hq : c.g = true := by rfl) (hk : k ≤ c.k := by exact Nat.le_of_ble_eq_true rfl) (hg : c.sc.names.lookup x = some .globalImplicit := by rfl)
    (hdb : (x == ("__debug__" : Str)) = false := by decide) (he : ∀ env, starEach (e :: es) env = (false, eval e env) :: starEach es env := by intro _; rfl) (hpl : ∀ env, (backTo pos (starEach es env)).any (·.1) = false := by intro _; rfl) :
    RE c (.Call (.Name x p) (e :: es) [] pos) σ H Q := by
  obtain ⟨f, fd, F, hm, hkp, hb⟩ := D.ex
  refine re_of (t := tCall sp [] (fun _ _ _ => False) (RA c (e :: es))) (fun X h => ?_) ?_
  · refine peQ_call (k := k) (f := f) (fd := fd) (ps := ps) (ds := []) ?_ (h.gd hq) (h.room.mono hk) (gl_of h hg) (by rw [h.mg]; exact hm) (by rw [h.K]; exact hkp) (by rw [h.K]; exact hb) .nil (pa_ra h) hdb (he _) (hpl _)
    rw [h.prog, h.w, h.K, h.mg, h.base]; exact F
  · show RA c (e :: es) σ H fun vs H1 => sp (vs ++ []) H1 Q fun _ _ _ => False
    simpa only [List.append_nil] using q
theorem e_callQ0 {x : Str} {p : Pos} {ps : List Str} {k : Nat} {sp : Sp} (D : DcQ c.toMd x ps k sp) (q : sp [] H Q fun _ _ _ => False) (hq : c.g = true := by rfl) (hk : k ≤ c.k := by exact Nat.le_of_ble_eq_true rfl) (hg : c.sc.names.lookup x = some .globalImplicit := by rfl)
    (hdb : (x == ("__debug__" : Str)) = false := by decide) : RE c (.Call (.Name x p) [] [] pos) σ H Q := by
  obtain ⟨f, fd, F, hm, hkp, hb⟩ := D.ex
  refine re_of (t := tCall sp [] (fun _ _ _ => False) tNil) (fun X h => ?_) q
  refine peQ_call0 (k := k) (f := f) (fd := fd) (ps := ps) (ds := []) ?_ (h.gd hq) (h.room.mono hk) (gl_of h hg) (by rw [h.mg]; exact hm) (by rw [h.K]; exact hkp) (by rw [h.K]; exact hb) .nil hdb
  rw [h.prog, h.w, h.K, h.mg, h.base]; exact F
theorem e_callB {x : Str} {id : String} {p : Pos} {e : Expr} {es : List Expr} (hm : c.mg x = none) (hv : bootBuiltins x = some (.builtin id)) (q : RA c (e :: es) σ H fun vs H1 => RC c (.builtin id) vs H1 Q) (hg : c.sc.names.lookup x = some .globalImplicit := by rfl) (hn : x ≠ "__name__" := by decide) (hdb : (x == ("__debug__" : Str)) = false := by decide)
    (he : ∀ env, starEach (e :: es) env = (false, eval e env) :: starEach es env := by intro _; rfl) (hpl : ∀ env, (backTo pos (starEach es env)).any (·.1) = false := by intro _; rfl) : RE c (.Call (.Name x p) (e :: es) [] pos) σ H Q :=
  re_of (fun X h => pe_callB (call_rc h) (gl_of h hg) (by rw [h.mg]; exact hm) hv (pa_ra h) hn hdb (he _) (hpl _)) q
theorem e_callT {x : Str} {T : String} {p : Pos} {e : Expr} {es : List Expr} (hm : c.mg x = none) (hv : bootBuiltins x = some (.type T)) (q : RA c (e :: es) σ H fun vs H1 => RC c (.type T) vs H1 Q) (hg : c.sc.names.lookup x = some .globalImplicit := by rfl) (hn : x ≠ "__name__" := by decide) (hdb : (x == ("__debug__" : Str)) = false := by decide)
    (he : ∀ env, starEach (e :: es) env = (false, eval e env) :: starEach es env := by intro _; rfl) (hpl : ∀ env, (backTo pos (starEach es env)).any (·.1) = false := by intro _; rfl) : RE c (.Call (.Name x p) (e :: es) [] pos) σ H Q :=
  re_of (fun X h => pe_callTy (call_rc h) (gl_of h hg) (by rw [h.mg]; exact hm) hv (pa_ra h) hn hdb (he _) (hpl _)) q
/-- o.name(e, ..), a builtin's method -/
theorem e_bm {T id : String} {o e : Expr} {es : List Expr} {name : Str} {apos : Pos} (pa : PlainAttrs T) (slot : Slot T name id) (hty : typeOf (.builtin id) = pure (.type "method_descriptor")) (q : RE c o σ H fun x H1 => tyV c.K T x H1 ∧ RA c (e :: es) σ H1 fun xs H2 => RM c id x xs H2 Q)
    (hbase : ∀ env, attributeBase o name env (eval o env) = eval o env := by intro _; rfl)
    (hfew : ∀ env, ((backTo pos (starEach (e :: es) env)).all (fun x => !x.1) && (backToKw pos (keywordEach [] env)).all (fun x => x.1.isSome)
      && decide ((e :: es).length + ([] : List Keyword).length + (if ([] : List Keyword).isEmpty then 0 else 1) < 30)) = true := by intro _; rfl)
    (hline : (apos.endLine == pos.line) = true := by rfl) (hs : ∀ env, starEach (e :: es) env = (false, eval e env) :: starEach es env := by intro _; rfl) (hplain : ∀ env, (backTo pos (starEach es env)).any (·.1) = false := by intro _; rfl) :
    RE c (.Call (.Attribute o name apos) (e :: es) [] pos) σ H Q := by
  refine re_of (t := tBM c.K T (RM c id) (RE c o) (RA c (e :: es))) (fun X h => ?_) q
  rw [← h.K]
  exact pe_bm pa slot hty (mt_rm h) (pe_re h) (pa_ra h) (hbase _) (hfew _) hline (hs _) (hplain _)
theorem e_bm0 {T id : String} {o : Expr} {name : Str} {apos : Pos} (pa : PlainAttrs T) (slot : Slot T name id) (hty : typeOf (.builtin id) = pure (.type "method_descriptor")) (q : RE c o σ H fun x H1 => tyV c.K T x H1 ∧ RM c id x [] H1 Q)
    (hbase : ∀ env, attributeBase o name env (eval o env) = eval o env := by intro _; rfl) (hline : (apos.endLine == pos.line) = true := by rfl) : RE c (.Call (.Attribute o name apos) [] [] pos) σ H Q := by
  refine re_of (t := tBM0 c.K T (RM c id) (RE c o)) (fun X h => ?_) q
  rw [← h.K]
  exact pe_bm0 pa slot hty (mt_rm h) (pe_re h) (hbase _) hline

/-! ### tests -/
variable {R : Bool → Hp → Prop}
theorem t_val {e : Expr} (q : RE c e σ H fun x H1 => ∃ k, x = .bl k ∧ R k H1) (he : ∀ env whole, isTrue e env whole = (do let v ← whole; standAt e.pos; holding [v] (truthy v)) := by intro _ _; rfl) : RT c e σ H R :=
  rt_of (fun X h => pt_val (pe_re h) (he _)) q
theorem t_tru {e : Expr} (q : RE c e σ H fun x H1 => ∃ k, TruV c.K x H1 k ∧ R k H1) (he : ∀ env whole, isTrue e env whole = (do let v ← whole; standAt e.pos; holding [v] (truthy v)) := by intro _ _; rfl) : RT c e σ H R :=
  rt_of (t := fun σ H Q => RE c e σ H fun x H' => ∃ k, TruV c.K x H' k ∧ Q k H') (fun X h => by rw [← h.K]; exact pt_truth (pe_re h) (he _)) q
theorem t_cmp {a b : Expr} {op : CmpOp} (q : RE c a σ H fun x H1 => RE c b σ H1 fun y H2 => RQ c op x y H2 fun z H3 => ∃ k, z = .bl k ∧ R k H3) (hm : behindInMarks op b = false := by first | rfl | exact nomark _) : RT c (.Compare a [op] [b] pos) σ H R :=
  rt_of (fun X h => pt_cmpR (op_rq h) (pe_re h) (pe_re h) hm) q
theorem t_chain {a b d : Expr} {op op' : CmpOp} (q : RE c a σ H fun x H1 => RE c b σ H1 fun y H2 => RQ c op x y H2 fun z H3 => ∃ k, z = .bl k ∧ (if k = true then RE c d σ H3 fun w' H4 => RQ c op' y w' H4 (fun z H5 => ∃ k, z = .bl k ∧ R k H5) else (∃ k, V.bl false = .bl k ∧ R k H3)))
    (hm : lastMarks [op, op'] [b, d] = false := by with_unfolding_all rfl) : RT c (.Compare a [op, op'] [b, d] pos) σ H R :=
  rt_of (t := tTest (tChain (RQ c op) (RQ c op') (RE c a) (RE c b) (RE c d))) (fun X h => pt_chain (op_rq h) (op_rq h) (pe_re h) (pe_re h) (pe_re h) hm) q
theorem t_not {a : Expr} (q : RT c a σ H fun k H1 => R (!k) H1) : RT c (.UnaryOp .Not a pos) σ H R := rt_of (fun X h => pt_not (pt_rt h)) q
theorem t_w {e : Expr} (q : RW c e σ H R) : RT c e σ H R := rt_of (fun X h => (pw_rw h).pt) q
theorem w_and1 {a : Expr} (q : RT c a σ H R) : RW c (.BoolOp .And [a] pos) σ H R := rw_of (fun X h => pw_and1 (pt_rt h)) q
theorem w_or1 {a : Expr} (q : RT c a σ H R) : RW c (.BoolOp .Or [a] pos) σ H R := rw_of (fun X h => pw_or1 (pt_rt h)) q
theorem w_and {a b : Expr} {rest : List Expr} (q : RT c a σ H fun k H1 => if k = true then RW c (.BoolOp .And (b :: rest) pos) σ H1 R else R false H1) : RW c (.BoolOp .And (a :: b :: rest) pos) σ H R :=
  rw_of (fun X h => pw_and (pt_rt h) (pw_rw h)) q
theorem w_or {a b : Expr} {rest : List Expr} (q : RT c a σ H fun k H1 => if k = true then R true H1 else RW c (.BoolOp .Or (b :: rest) pos) σ H1 R) : RW c (.BoolOp .Or (a :: b :: rest) pos) σ H R :=
  rw_of (fun X h => pw_or (pt_rt h) (pw_rw h)) q
/-! ### statements -/
variable {D : Ends} {nx : L2.St → Hp → Prop} {rt : VK} {bk ct : L2.St → Hp → Prop}
theorem b_nil (q : D.nx σ H) : RB c [] D σ H := rb_of (fun _ _ => pss_nil) q
theorem b_cons {st : Stmt} {rest : List Stmt} (q : RS c st ⟨fun σ1 H1 => RB c rest ⟨nx, rt, bk, ct⟩ σ1 H1, rt, bk, ct⟩ σ H) : RB c (st :: rest) ⟨nx, rt, bk, ct⟩ σ H := rb_of (t := tSeq (RS c st) (RB c rest)) (fun X h => pss_cons (ps_rs h) (ps_rb h)) q
/-- a statement, then the rest, with a word between them -/
theorem b_cut {st : Stmt} {rest : List Stmt} (Mid : L2.St → Hp → Prop) (q : RS c st ⟨Mid, rt, bk, ct⟩ σ H) (q2 : ∀ σ1 H1, Mid σ1 H1 → RB c rest ⟨nx, rt, bk, ct⟩ σ1 H1) : RB c (st :: rest) ⟨nx, rt, bk, ct⟩ σ H :=
  b_cons (RS.mono (D := ⟨Mid, rt, bk, ct⟩) (D' := ⟨fun σ1 H1 => RB c rest ⟨nx, rt, bk, ct⟩ σ1 H1, rt, bk, ct⟩) ⟨q2, fun _ _ h => h, fun _ _ h => h, fun _ _ h => h⟩ q)
theorem b_one {st : Stmt} (q : RS c st D σ H) : RB c [st] D σ H := rb_of (fun X h => pss_one (ps_rs h)) q
theorem s_pass (q : D.nx σ H) : RS c (.Pass pos) D σ H := rs_of (fun _ _ => ps_pass) q
theorem s_break (q : D.bk σ H) : RS c (.Break pos) D σ H := rs_of (fun _ _ => ps_break) q
theorem s_cont (q : D.ct σ H) : RS c (.Continue pos) D σ H := rs_of (fun _ _ => ps_continue) q
theorem s_ret {e : Expr} (q : RE c e σ H D.rt) : RS c (.Return (some e) pos) D σ H := rs_of (fun X h => ps_ret (pe_re h)) q
theorem s_retN (q : D.rt .non H) : RS c (.Return none pos) D σ H := rs_of (fun X h => ps_retN) q
theorem s_expr {e : Expr} (q : RE c e σ H fun _ H1 => D.nx σ H1) (hs : ∀ env, swapsWith e none pos.line env = pure false := by intro _; rfl) : RS c (.Expr e pos) D σ H := rs_of (fun X h => ps_expr (pe_re h) (hs _)) q
theorem s_if {d : Expr} {a b : List Stmt} (q : RT c d σ H fun k H1 => if k = true then RB c a D σ H1 else RB c b D σ H1) : RS c (.If d a b pos) D σ H := rs_of (fun X h => ps_if (pt_rt h) (ps_rb h) (ps_rb h)) q
theorem s_asg {tg e : Expr} (q : RE c e σ H fun x H1 => RG c tg x σ H1 D.nx) (hs : ∀ env, swapsWithSole [tg] e pos.line env = pure false := by intro _; rfl) (hw : ∀ env, swappedStores [tg] e env = pure none := by intro _; rfl)
    (h1 : ∀ env, (assignEach [tg] env).map (·.2) = [assign tg env] := by intro _; rfl) : RS c (.Assign [tg] e pos) D σ H := rs_of (fun X h => ps_asg (pe_re h) (pg_rg h) (hs _) (hw _) (h1 _)) q
theorem s_set {i : Nat} {x : Str} {e : Expr} {pos' : Pos} (hA : At c.N i x) (q : RE c e σ H fun v H1 => D.nx (σ.set i (some v)) H1) (hx : c.sc.names.lookup x = some .local ∨ (c.sc.names.lookup x = some .cell ∧ c.top = true) := by first | exact Or.inl rfl | exact Or.inr ⟨rfl, rfl⟩)
    (hs : ∀ env, swapsWith e (some (.Name x pos')) pos.line env = pure false := by intro _; rfl) : RS c (.Assign [.Name x pos'] e pos) D σ H := by
  refine rs_of (t := tAsg (RE c e) (gName i)) (fun X h => ?_) q
  refine ps_set (by rw [h.N]; exact h.nd) (by rw [h.N]; exact hA.get) ?_ (pe_re h) (hs _) ?_
  · rcases hx with z | z
    · exact .inl (by rw [h.sc]; exact z)
    · exact .inr (by rw [h.sc]; exact z.1)
  · rcases hx with z | z
    · exact .inr (by rw [h.sc]; exact z)
    · exact .inl (h.top z.2 _)
theorem g_name {i : Nat} {x : Str} {v : V} {R : L2.St → Hp → Prop} (hA : At c.N i x) (q : R (σ.set i (some v)) H) (hx : c.sc.names.lookup x = some .local ∨ (c.sc.names.lookup x = some .cell ∧ c.top = true) := by first | exact Or.inl rfl | exact Or.inr ⟨rfl, rfl⟩) : RG c (.Name x pos) v σ H R := by
  refine rg_of (t := gName i) (fun X h => ?_) q
  refine pg_name (by rw [h.N]; exact h.nd) (by rw [h.N]; exact hA.get) ?_ ?_
  · rcases hx with z | z
    · exact .inl (by rw [h.sc]; exact z)
    · exact .inr (by rw [h.sc]; exact z.1)
  · rcases hx with z | z
    · exact .inr (by rw [h.sc]; exact z)
    · exact .inl (h.top z.2 _)
theorem gs_nil {R : L2.St → Hp → Prop} (q : R σ H) : RGs c [] [] σ H R := rgs_of (fun _ _ => pgs_nil) ⟨rfl, q⟩
theorem gs_cons {e : Expr} {es : List Expr} {v : V} {vs : List V} {R : L2.St → Hp → Prop} (q : RG c e v σ H fun σ1 H1 => RGs c es vs σ1 H1 R) (hs : ∀ env, (assignEach (e :: es) env).map (·.2) = assign e env :: (assignEach es env).map (·.2) := by intro _; rfl) : RGs c (e :: es) (v :: vs) σ H R :=
  rgs_of (t := gCons (RG c e) (RGs c es)) (fun X h => pgs_cons (pg_rg h) (pg_rgs h) (hs _)) ⟨v, vs, rfl, q⟩
theorem g_tup {es : List Expr} {k : Nat} {a : Addr} {xs : List V} {n : Nat} {R : L2.St → Hp → Prop} (ht : SqT c.K H a xs) (q : RGs c es xs σ H R) (hl : xs.length = n := by rfl) (hn : ∀ env, (assignEach es env).length = n := by intro _; rfl) (hst : ∀ env, (assignEach es env).findIdx? (·.1) = none := by intro _; rfl) :
    RG c (.Tuple es k pos) (.ref a) σ H R := rg_of (t := gTup c.K n (RGs c es)) (fun X h => by rw [← h.K]; exact pg_tup h.calm (pg_rgs h) (hn _) (hst _)) ⟨a, xs, rfl, ht, hl, q⟩
theorem g_sub {o i : Expr} {v : V} {R : L2.St → Hp → Prop} (q : RE c o σ H fun x H1 => RE c i σ H1 fun y H2 => RP c x y v H2 fun H3 => R σ H3)
    (ha : ∀ env v, assign (.Subscript o i pos) env v = (do
      let ov ← holding [v] (eval o env)
      let iv ← holding [v, ov] (eval i env)
      standAt pos
      holding [v, ov, iv] (setItem ov iv v)
      release [v, ov, iv] []) := by intro _ _; rfl) : RG c (.Subscript o i pos) v σ H R := rg_of (fun X h => pg_sub (pe_re h) (pe_re h) (set_rp h) (ha _)) q
/-- d[k] = v -/
theorem s_dput {o i e : Expr} {pos' : Pos} (q : RE c e σ H fun v H1 => RE c o σ H1 fun x H2 => RE c i σ H2 fun y H3 => ∃ a H4, x = .ref a ∧ DPut H3 a y v H4 ∧ D.nx σ H4)
    (hs : ∀ env, swapsWith e (some (.Subscript o i pos')) pos.line env = pure false := by intro _; rfl) : RS c (.Assign [.Subscript o i pos'] e pos) D σ H :=
  rs_of (fun X h => ps_dput (by have := h.room.units; omega) (pe_re h) (pe_re h) (pe_re h) (hs _)) q
/-- a, b = x, y -/
theorem s_par {i j : Nat} {x y : Str} {a b : Expr} {px py pt : Pos} {kt k2 pt2} (hi : At c.N i x) (hj : At c.N j y) (q : RE c a σ H fun v H1 => RE c b σ H1 fun w H2 => D.nx ((σ.set i (some v)).set j (some w)) H2) (hij : i ≠ j := by decide)
    (hx : c.sc.names.lookup x = some .local := by rfl) (hy : c.sc.names.lookup y = some .local := by rfl)
    (hw : ∀ env : Env, env.scope = c.sc → swappedStores [.Tuple [.Name x px, .Name y py] kt pt] (.Tuple [a, b] k2 pt2) env = pure (some [x, y]))
    (hs : ∀ env, swapsWithSole [.Tuple [.Name x px, .Name y py] kt pt] (.Tuple [a, b] k2 pt2) pos.line env = pure false := by intro _; rfl)
    (h1 : ∀ env, starEach [a, b] env = (false, eval a env) :: starEach [b] env := by intro _; rfl) (h2 : ∀ env, starEach [b] env = (false, eval b env) :: starEach [] env := by intro _; rfl) :
    RS c (.Assign [.Tuple [.Name x px, .Name y py] kt pt] (.Tuple [a, b] k2 pt2) pos) D σ H := by
  refine rs_of (t := tPar i j (RA c [a, b])) (fun X h => ps_par h.calm (by rw [h.N]; exact h.nd) (by rw [h.N]; exact hi.get) (by rw [h.N]; exact hj.get) hij (by rw [h.sc]; exact hx) (by rw [h.sc]; exact hy) (pa_ra h) (hw _ h.sc) (hs _)) ?_
  refine a_cons (RE.mono (fun v H1 z => a_cons (RE.mono (fun w H2 z => a_nil ⟨v, w, rfl, z⟩) z) h2) q) h1

/-! ### what is walked -/
theorem i_list {tg l : Expr} {R : It → Hp → Prop} (q : RE c l σ H fun x H1 => ∃ a, x = .ref a ∧ (∃ xs, SqL c.K H1 a xs) ∧ R (Itl c.K a) H1) : RI c tg l σ H R :=
  ri_of (t := iList c.K (RE c l)) (fun X h => by rw [← h.K]; exact pi_list (pe_re h)) q
theorem i_tup {tg l : Expr} {R : It → Hp → Prop} (q : RE c l σ H fun x H1 => ∃ a, x = .ref a ∧ (∃ xs, SqT c.K H1 a xs) ∧ R (Itt c.K a) H1) : RI c tg l σ H R :=
  ri_of (t := iTup c.K (RE c l)) (fun X h => by rw [← h.K]; exact pi_tup (pe_re h)) q
theorem i_range1 {tg a : Expr} {p : Pos} {R : It → Hp → Prop} (hm : c.mg "range" = none) (q : RA c [a] σ H fun vs H1 => ∃ j : Int, vs = [.int j] ∧ -(2 ^ 62) ≤ j ∧ j < 2 ^ 62 ∧ R (Itr 0 j.toNat) H1) (hg : c.sc.names.lookup ("range" : Str) = some .globalImplicit := by rfl) (hs : ∀ env, starEach [a] env = [(false, eval a env)] := by intro _; rfl) :
    RI c tg (.Call (.Name "range" p) [a] [] pos) σ H R := ri_of (t := iRng1 (RA c [a])) (fun X h => pi_range1 (gl_of h hg) (by rw [h.mg]; exact hm) (pa_ra h) (hs _)) q
theorem i_range2 {tg a b : Expr} {p : Pos} {R : It → Hp → Prop} (hm : c.mg "range" = none) (q : RA c [a, b] σ H fun vs H1 => ∃ i j : Int, vs = [.int i, .int j] ∧ (-(2 ^ 62) ≤ i ∧ i < 2 ^ 62 ∧ -(2 ^ 62) ≤ j ∧ j < 2 ^ 62) ∧ R (Itr i (j - i).toNat) H1) (hg : c.sc.names.lookup ("range" : Str) = some .globalImplicit := by rfl)
    (hs : ∀ env, starEach [a, b] env = [(false, eval a env), (false, eval b env)] := by intro _; rfl) (hs2 : ∀ env, starEach [b] env = [(false, eval b env)] := by intro _; rfl) :
    RI c tg (.Call (.Name "range" p) [a, b] [] pos) σ H R := ri_of (t := iRng2 (RA c [a, b])) (fun X h => pi_range2 (gl_of h hg) (by rw [h.mg]; exact hm) (pa_ra h) (hs _) (hs2 _)) q

/-! ### loops -/
theorem s_for {tg iter : Expr} {body : List Stmt} (q : RI c tg iter σ H fun J H1 => ∃ W : Nat → Nat → L2.St → Hp → Prop, (∃ m, W 0 m σ H1) ∧ ∀ i m σ H, W i m σ H →
      (J.stop i H ∧ nx σ H) ∨ (J.go i H ∧ ∃ N : L2.St → Hp → Prop, (∀ σ' H', N σ' H' → ∃ m', m' < m ∧ W (i + 1) m' σ' H') ∧ ∀ x H', J.yld i H x H' → RG c tg x σ H' fun σ2 H2 => RB c body ⟨N, rt, nx, N⟩ σ2 H2))
    (hs : ∀ env x, foldedSetIterable iter env x = pure x := by intro _ _; rfl) : RS c (.For tg iter body [] pos) ⟨nx, rt, bk, ct⟩ σ H :=
  rs_of (t := tFor (RI c tg iter) (RG c tg) (RB c body)) (fun X h => ps_for h.own h.calm (pi_ri h) (pg_rg h) (ps_rb h) (hs _)) q
theorem s_forT {tg iter : Expr} {body : List Stmt} (q : RE c iter σ H fun x H1 => ∃ a xs, x = .ref a ∧ SqT c.K H1 a xs ∧ ∃ Pv : Nat → L2.St → Hp → Prop, Pv 0 σ H1 ∧ (∀ i σ' H', i ≤ xs.length → Pv i σ' H' → SqT c.K H' a xs) ∧
      (∀ i x σ' H', xs[i]? = some x → Pv i σ' H' → RG c tg x σ' H' fun σ2 H2 => RB c body ⟨Pv (i + 1), rt, nx, Pv (i + 1)⟩ σ2 H2) ∧ ∀ σ' H', Pv xs.length σ' H' → nx σ' H')
    (hs : ∀ env x, foldedSetIterable iter env x = pure x := by intro _ _; rfl) : RS c (.For tg iter body [] pos) ⟨nx, rt, bk, ct⟩ σ H := by
  refine s_for (i_tup (RE.mono (fun x H1 z => ?_) q)) hs
  obtain ⟨a, xs, rfl, ht, Pv, h0, hl, hs, hd⟩ := z
  exact ⟨a, rfl, ⟨xs, ht⟩, for_tup (tb := RB c body) (D := ⟨nx, rt, bk, ct⟩) Pv h0 hl hs hd⟩
theorem s_forL {tg iter : Expr} {body : List Stmt} (q : RE c iter σ H fun x H1 => ∃ a xs, x = .ref a ∧ SqL c.K H1 a xs ∧ ∃ Pv : Nat → L2.St → Hp → Prop, Pv 0 σ H1 ∧ (∀ i σ' H', i ≤ xs.length → Pv i σ' H' → SqL c.K H' a xs) ∧
      (∀ i x σ' H', xs[i]? = some x → Pv i σ' H' → RG c tg x σ' H' fun σ2 H2 => RB c body ⟨Pv (i + 1), rt, nx, Pv (i + 1)⟩ σ2 H2) ∧ ∀ σ' H', Pv xs.length σ' H' → nx σ' H')
    (hs : ∀ env x, foldedSetIterable iter env x = pure x := by intro _ _; rfl) : RS c (.For tg iter body [] pos) ⟨nx, rt, bk, ct⟩ σ H := by
  refine s_for (i_list (RE.mono (fun x H1 z => ?_) q)) hs
  obtain ⟨a, xs, rfl, ht, Pv, h0, hl, hs, hd⟩ := z
  exact ⟨a, rfl, ⟨xs, ht⟩, for_list (tb := RB c body) (D := ⟨nx, rt, bk, ct⟩) Pv h0 hl hs hd⟩
theorem s_forR1 {tg a : Expr} {p ppos : Pos} {body : List Stmt} (hm : c.mg "range" = none) (q : RE c a σ H fun x H1 => ∃ n : Int, x = .int n ∧ -(2 ^ 62) ≤ n ∧ n < 2 ^ 62 ∧ ∃ Pv : Nat → L2.St → Hp → Prop, Pv 0 σ H1 ∧
      (∀ i σ' H', i < n.toNat → Pv i σ' H' → RG c tg (.int (i : Int)) σ' H' fun σ2 H2 => RB c body ⟨Pv (i + 1), rt, nx, Pv (i + 1)⟩ σ2 H2) ∧ ∀ σ' H', Pv n.toNat σ' H' → nx σ' H')
    (hg : c.sc.names.lookup ("range" : Str) = some .globalImplicit := by rfl) (h1 : ∀ env, starEach [a] env = [(false, eval a env)] := by intro _; rfl) (hs : ∀ env x, foldedSetIterable (.Call (.Name "range" p) [a] [] ppos) env x = pure x := by intro _ _; rfl) :
    RS c (.For tg (.Call (.Name "range" p) [a] [] ppos) body [] pos) ⟨nx, rt, bk, ct⟩ σ H := by
  refine s_for (i_range1 hm (a_cons (RE.mono (fun x H1 z => ?_) q) (fun env => by rw [h1]; rfl)) hg h1) hs
  obtain ⟨n, rfl, n1, n2, Pv, h0, hs, hd⟩ := z
  refine a_nil ⟨n, rfl, n1, n2, for_range (tb := RB c body) (D := ⟨nx, rt, bk, ct⟩) (lo := 0) (n := n.toNat) Pv h0 (fun i σ' H' hi p => ?_) hd⟩
  rw [Int.zero_add]
  exact hs i σ' H' hi p
theorem s_while {d : Expr} {body : List Stmt} (Pv : Nat → L2.St → Hp → Prop) (m : Nat) (h0 : Pv m σ H)
    (q : ∀ m σ H, Pv m σ H → RT c d σ H fun b H1 => if b = true then RB c body ⟨fun σ' H' => ∃ m', m' < m ∧ Pv m' σ' H', rt, nx, fun σ' H' => ∃ m', m' < m ∧ Pv m' σ' H'⟩ σ H1 else nx σ H1) : RS c (.While d body [] pos) ⟨nx, rt, bk, ct⟩ σ H := by
  refine rs_of (t := tWhile (RT c d) (RB c body)) (fun X h => ps_while h.own (pt_rt h) (ps_rb h)) ⟨Pv, ⟨m, h0⟩, fun m σ H p => RT.mono (fun b H1 z => ?_) (q m σ H p)⟩
  cases b with
  | true => exact ⟨_, fun _ _ z => z, z⟩
  | false => exact z
end
/-! ### what a goal asks of, told by its head -/
section
variable {c : Cd} {σ : L2.St} {H : Hp}
theorem gRE {e : Expr} {Q : VK} (q : RE c e σ H Q) : RE c e σ H Q := q
theorem gRT {e : Expr} {Q : Bool → Hp → Prop} (q : RT c e σ H Q) : RT c e σ H Q := q
theorem gRW {e : Expr} {Q : Bool → Hp → Prop} (q : RW c e σ H Q) : RW c e σ H Q := q
theorem gRA {e : List Expr} {Q : List V → Hp → Prop} (q : RA c e σ H Q) : RA c e σ H Q := q
theorem gRS {e : Stmt} {D : Ends} (q : RS c e D σ H) : RS c e D σ H := q
theorem gRB {e : List Stmt} {D : Ends} (q : RB c e D σ H) : RB c e D σ H := q
theorem gRG {e : Expr} {v : V} {Q : L2.St → Hp → Prop} (q : RG c e v σ H Q) : RG c e v σ H Q := q
theorem gRO {f : Operator} {x y : V} {Q : VK} (q : RO c f x y H Q) : RO c f x y H Q := q
theorem gRQ {f : CmpOp} {x y : V} {Q : VK} (q : RQ c f x y H Q) : RQ c f x y H Q := q
theorem gRU {f : UnaryOp} {x : V} {Q : VK} (q : RU c f x H Q) : RU c f x H Q := q
theorem gRC {f : Value} {xs : List V} {Q : VK} (q : RC c f xs H Q) : RC c f xs H Q := q
theorem gRX {x y : V} {Q : VK} (q : RX c x y H Q) : RX c x y H Q := q
theorem gRPo {e : Option Expr} {Q : Option Int → Hp → Prop} (q : RPo c e σ H Q) : RPo c e σ H Q := q
end
end G

namespace G
open PySem PySem.Spec PyProof.Rows L2

/-! ### heaps: what stays -/
structure Tp (H H' : Hp) : Prop where
  t : ∀ a xs, H a = some (.tup xs) → H' a = some (.tup xs)
  f : ∀ a o u, H a = some (.frz o u) → H' a = some (.frz o u)
theorem Tp.refl (H : Hp) : Tp H H := ⟨fun _ _ h => h, fun _ _ _ h => h⟩
theorem Tp.trans {H H1 H2 : Hp} (a : Tp H H1) (b : Tp H1 H2) : Tp H H2 := ⟨fun _ _ h => b.t _ _ (a.t _ _ h), fun _ _ _ h => b.f _ _ _ (a.f _ _ _ h)⟩
theorem tp_same {H H' : Hp} (s : Same H H') : Tp H H' := ⟨fun _ _ h => s _ _ h, fun _ _ _ h => s _ _ h⟩
theorem Tp.sqt {K : PySem.W.Frag} {H H' : Hp} {a : Addr} {xs : List V} (e : Tp H H') (h : SqT K H a xs) : SqT K H' a xs := by
  rcases h with (h | ⟨o, h⟩) | h
  · exact .inl (.inl (e.t _ _ h))
  · exact .inl (.inr ⟨o, e.f _ _ _ h⟩)
  · exact .inr h
theorem same_new {H : Hp} {p : Addr} {o : HO} (h : H p = none) : Same H (upd H p o) := fun b u q => by rw [upd_ne (ne_of_none q h)]; exact q
/-- all but the thing at m stays; m is no tuple and not locked -/
structure Kp (m : Addr) (H H' : Hp) : Prop where
  k : ∀ a o, a ≠ m → H a = some o → H' a = some o
  t : Tp H H'
theorem kp_same {m : Addr} {H H' : Hp} (s : Same H H') : Kp m H H' := ⟨fun _ _ _ h => s _ _ h, tp_same s⟩
theorem Kp.refl (m : Addr) (H : Hp) : Kp m H H := kp_same (Same.refl H)
theorem Kp.trans {m : Addr} {H H1 H2 : Hp} (a : Kp m H H1) (b : Kp m H1 H2) : Kp m H H2 := ⟨fun _ _ n h => b.k _ _ n (a.k _ _ n h), a.t.trans b.t⟩
/-- a list (of ours) is written -/
theorem kp_upd {H : Hp} {p : Addr} {o o' : HO} (h : H p = some o) (h1 : ∀ xs, o ≠ .tup xs) (h2 : ∀ b u, o ≠ .frz b u) : Kp p H (upd H p o') :=
  ⟨fun a u n q => by rw [upd_ne n]; exact q, fun a xs q => by rw [upd_ne (ne_of q h fun e => h1 _ e.symm)]; exact q, fun a b u q => by rw [upd_ne (ne_of q h fun e => h2 _ _ e.symm)]; exact q⟩
/-- a thing that the older heap does not know is written: for it nothing has changed -/
theorem same_mut {H H1 : Hp} {p : Addr} {o : HO} (s : Same H H1) (h : H p = none) : Same H (upd H1 p o) := fun b u q => by rw [upd_ne (ne_of_none q h)]; exact s _ _ q
theorem kp_mut {m : Addr} {H H1 : Hp} {p : Addr} {o : HO} (s : Kp m H H1) (h : H p = none) : Kp m H (upd H1 p o) :=
  ⟨fun b u n q => by rw [upd_ne (ne_of_none q h)]; exact s.k _ _ n q, fun b u q => by rw [upd_ne (ne_of_none q h)]; exact s.t.t _ _ q, fun b u v q => by rw [upd_ne (ne_of_none q h)]; exact s.t.f _ _ _ q⟩

/-! ### data that never changes: none, bools, ints, texts, tuples of these -/
mutual
inductive Dt (K : PySem.W.Frag) (H : Hp) : V → PyData → Prop
  | non : Dt K H .non .none
  | bl (b : Bool) : Dt K H (.bl b) (.bool b)
  | int (i : Int) : Dt K H (.int i) (.int i)
  | str (x : Str) : Dt K H (.str x) (.str x)
  | tup {a : Addr} {xs : List V} {ds : List PyData} : SqT K H a xs → DtAll K H xs ds → Dt K H (.ref a) (.tuple ds)
  | lst {a : Addr} {o : Obj} {xs : List V} {ds : List PyData} : H a = some (.frz o (.lst xs)) → DtAll K H xs ds → Dt K H (.ref a) (.list ds)
inductive DtAll (K : PySem.W.Frag) (H : Hp) : List V → List PyData → Prop
  | nil : DtAll K H [] []
  | cons {v : V} {vs : List V} {d : PyData} {ds : List PyData} : Dt K H v d → DtAll K H vs ds → DtAll K H (v :: vs) (d :: ds)
end
section
variable {K : PySem.W.Frag} {H H' : Hp}
mutual
theorem Dt.mono (e : Tp H H') : ∀ {d : PyData} {v : V}, Dt K H v d → Dt K H' v d
  | .none, _, h => by cases h; exact .non
  | .bool _, _, h => by cases h; exact .bl _
  | .int _, _, h => by cases h; exact .int _
  | .str _, _, h => by cases h; exact .str _
  | .tuple ds, _, h => by
    cases h with
    | tup hs ha => exact .tup (e.sqt hs) (DtAll.mono e ha)
  | .list ds, _, h => by
    cases h with
    | lst hs ha => exact .lst (e.f _ _ _ hs) (DtAll.mono e ha)
  | .dict _, _, h => by cases h
theorem DtAll.mono (e : Tp H H') : ∀ {ds : List PyData} {vs : List V}, DtAll K H vs ds → DtAll K H' vs ds
  | [], _, h => by cases h; exact .nil
  | d :: ds, _, h => by
    cases h with
    | cons h1 h2 => exact .cons (Dt.mono e h1) (DtAll.mono e h2)
end
mutual
theorem Dt.dp : ∀ {d : PyData} {v : V}, Dt K H v d → Dp K H v d
  | .none, _, h => by cases h; exact .non
  | .bool _, _, h => by cases h; exact .bl _
  | .int _, _, h => by cases h; exact .int _
  | .str _, _, h => by cases h; exact .str _
  | .tuple ds, _, h => by
    cases h with
    | tup hs ha => exact .tup hs (DtAll.dp ha)
  | .list ds, _, h => by
    cases h with
    | lst hs ha => exact .lst (.inl (.inr ⟨_, hs⟩)) (DtAll.dp ha)
  | .dict _, _, h => by cases h
theorem DtAll.dp : ∀ {ds : List PyData} {vs : List V}, DtAll K H vs ds → DpAll K H vs ds
  | [], _, h => by cases h; exact .nil
  | d :: ds, _, h => by
    cases h with
    | cons h1 h2 => exact .cons (Dt.dp h1) (DtAll.dp h2)
end
theorem DtAll.len : ∀ {ds : List PyData} {vs : List V}, DtAll K H vs ds → vs.length = ds.length
  | [], _, h => by cases h; rfl
  | d :: ds, _, h => by
    cases h with
    | cons _ h2 => exact congrArg Nat.succ (DtAll.len h2)
theorem DtAll.get : ∀ {ds : List PyData} {vs : List V} {i : Nat} {d : PyData}, DtAll K H vs ds → ds[i]? = some d → ∃ v, vs[i]? = some v ∧ Dt K H v d
  | [], _, _, _, _, e => by simp at e
  | d :: ds, _, 0, _, h, e => by
    cases h with
    | cons h1 _ =>
      simp at e
      subst e
      exact ⟨_, rfl, h1⟩
  | d :: ds, _, i + 1, _, h, e => by
    cases h with
    | cons _ h2 =>
      obtain ⟨v, e1, h3⟩ := DtAll.get (i := i) h2 (by simpa using e)
      exact ⟨v, by simpa using e1, h3⟩
theorem DtAll.getV : ∀ {ds : List PyData} {vs : List V} {i : Nat} {v : V}, DtAll K H vs ds → vs[i]? = some v → ∃ d, ds[i]? = some d ∧ Dt K H v d
  | [], _, _, _, h, e => by cases h; simp at e
  | d :: ds, _, 0, _, h, e => by
    cases h with
    | cons h1 _ =>
      simp at e
      subst e
      exact ⟨_, rfl, h1⟩
  | d :: ds, _, i + 1, _, h, e => by
    cases h with
    | cons _ h2 =>
      obtain ⟨v, e1, h3⟩ := DtAll.getV (i := i) h2 (by simpa using e)
      exact ⟨v, by simpa using e1, h3⟩
theorem DtAll.app : ∀ {ds es : List PyData} {vs us : List V}, DtAll K H vs ds → DtAll K H us es → DtAll K H (vs ++ us) (ds ++ es)
  | [], _, _, _, h, k => by cases h; exact k
  | d :: ds, _, _, _, h, k => by
    cases h with
    | cons h1 h2 => exact .cons h1 (DtAll.app h2 k)
theorem DtAll.drop : ∀ {ds : List PyData} {vs : List V} (n : Nat), DtAll K H vs ds → DtAll K H (vs.drop n) (ds.drop n)
  | _, _, 0, h => h
  | [], _, _ + 1, h => by cases h; exact .nil
  | d :: ds, _, n + 1, h => by
    cases h with
    | cons _ h2 => exact DtAll.drop n h2
theorem DtAll.take : ∀ {ds : List PyData} {vs : List V} (n : Nat), DtAll K H vs ds → DtAll K H (vs.take n) (ds.take n)
  | _, _, 0, h => .nil
  | [], _, _ + 1, h => by cases h; exact .nil
  | d :: ds, _, n + 1, h => by
    cases h with
    | cons h1 h2 => exact .cons h1 (DtAll.take n h2)
theorem Dt.intE {v : V} {i : Int} (h : Dt K H v (.int i)) : v = .int i := by cases h; rfl
theorem Dt.strE {v : V} {i : Str} (h : Dt K H v (.str i)) : v = .str i := by cases h; rfl
theorem Dt.blE {v : V} {i : Bool} (h : Dt K H v (.bool i)) : v = .bl i := by cases h; rfl
theorem Dt.nonE {v : V} (h : Dt K H v .none) : v = .non := by cases h; rfl
theorem Dt.tupE {v : V} {ds : List PyData} (h : Dt K H v (.tuple ds)) : ∃ a xs, v = .ref a ∧ SqT K H a xs ∧ DtAll K H xs ds := by
  cases h with
  | tup h1 h2 => exact ⟨_, _, rfl, h1, h2⟩
end
theorem atI_map {α β : Type} {R : α → β → Prop} {xs : List α} {ys : List β} (hl : xs.length = ys.length) {i : Int} {y : β} (h : atI ys i = some y) (g : ∀ (j : Nat) y, ys[j]? = some y → ∃ x, xs[j]? = some x ∧ R x y) : ∃ x, atI xs i = some x ∧ R x y := by
  unfold atI at h ⊢
  rw [hl]
  cases e : ixN ys.length i with
  | none => rw [e] at h; cases h
  | some j =>
    rw [e] at h
    obtain ⟨x, h1, h2⟩ := g j y h
    exact ⟨x, h1, h2⟩

/-! ### steps over data -/
section
variable {c : Cd} {σ : L2.St} {H : Hp} {Q : VK} {pos : Pos} {x y : V}
theorem ro_add {i j : Int} (q : Q (.int (i + j)) H) : RO c .Add (.int i) (.int j) H Q := ro_of (fun _ _ => op_add) ⟨i, j, rfl, rfl, q⟩
theorem ro_sub {i j : Int} (q : Q (.int (i - j)) H) : RO c .Sub (.int i) (.int j) H Q := ro_of (fun _ _ => op_sub) ⟨i, j, rfl, rfl, q⟩
theorem ro_mul {i j : Int} (hc : CMul i j) (q : Q (.int (i * j)) H) : RO c .Mult (.int i) (.int j) H Q := ro_of (fun _ _ => op_mul) ⟨i, j, rfl, rfl, hc, q⟩
theorem ro_mod {i j : Int} (hc : 0 < j) (q : Q (.int (i % j)) H) : RO c .Mod (.int i) (.int j) H Q := ro_of (fun _ _ => op_mod) ⟨i, j, rfl, rfl, hc, q⟩
theorem ro_div {i j : Int} (hc : 0 < j) (h2 : j < 1073741824) (q : Q (.int (i / j)) H) : RO c .FloorDiv (.int i) (.int j) H Q := ro_of (fun _ _ => op_fdiv) ⟨i, j, rfl, rfl, ⟨hc, h2⟩, q⟩
theorem ro_pow {i j : Int} (hc : CPow i j) (q : Q (.int (i ^ j.toNat)) H) : RO c .Pow (.int i) (.int j) H Q := ro_of (fun _ _ => op_pow) ⟨i, j, rfl, rfl, hc, q⟩
theorem ro_eq (hs : scal x y = true) (q : Q (.bl (decide (x = y))) H) : RQ c .Eq x y H Q := rq_of (fun _ _ => op_eq) ⟨hs, q⟩
theorem ro_ne (hs : scal x y = true) (q : Q (.bl (!decide (x = y))) H) : RQ c .NotEq x y H Q := rq_of (fun _ _ => op_ne) ⟨hs, q⟩
theorem ro_eqI {i j : Int} (q : Q (.bl (decide (i = j))) H) : RQ c .Eq (.int i) (.int j) H Q := ro_eq rfl (by
  have e : decide (V.int i = V.int j) = decide (i = j) := decide_eq_decide.mpr ⟨fun h => V.int.inj h, fun h => by rw [h]⟩
  rw [e]; exact q)
theorem ro_neI {i j : Int} (q : Q (.bl (!decide (i = j))) H) : RQ c .NotEq (.int i) (.int j) H Q := ro_ne rfl (by
  have e : decide (V.int i = V.int j) = decide (i = j) := decide_eq_decide.mpr ⟨fun h => V.int.inj h, fun h => by rw [h]⟩
  rw [e]; exact q)
theorem ro_eqS {i j : Str} (q : Q (.bl (decide (i = j))) H) : RQ c .Eq (.str i) (.str j) H Q := ro_eq rfl (by
  have e : decide (V.str i = V.str j) = decide (i = j) := decide_eq_decide.mpr ⟨fun h => V.str.inj h, fun h => by rw [h]⟩
  rw [e]; exact q)
theorem ro_eqB {i j : Bool} (q : Q (.bl (decide (i = j))) H) : RQ c .Eq (.bl i) (.bl j) H Q := ro_eq rfl (by
  have e : decide (V.bl i = V.bl j) = decide (i = j) := decide_eq_decide.mpr ⟨fun h => V.bl.inj h, fun h => by rw [h]⟩
  rw [e]; exact q)
theorem ro_lt {i j : Int} (q : Q (.bl (decide (i < j))) H) : RQ c .Lt (.int i) (.int j) H Q := rq_of (fun _ _ => op_lt) ⟨i, j, rfl, rfl, q⟩
theorem ro_le {i j : Int} (q : Q (.bl (decide (i ≤ j))) H) : RQ c .LtE (.int i) (.int j) H Q := rq_of (fun _ _ => op_le) ⟨i, j, rfl, rfl, q⟩
theorem ro_gt {i j : Int} (q : Q (.bl (decide (j < i))) H) : RQ c .Gt (.int i) (.int j) H Q := rq_of (fun _ _ => op_gt) ⟨i, j, rfl, rfl, q⟩
theorem ro_ge {i j : Int} (q : Q (.bl (decide (j ≤ i))) H) : RQ c .GtE (.int i) (.int j) H Q := rq_of (fun _ _ => op_ge) ⟨i, j, rfl, rfl, q⟩
theorem ro_isN (q : Q (.bl (decide (x = .non))) H) : RQ c .Is x .non H Q := rq_of (fun _ _ => op_isN) ⟨rfl, q⟩
theorem ro_notN (q : Q (.bl (!decide (x = .non))) H) : RQ c .IsNot x .non H Q := rq_of (fun _ _ => op_notN) ⟨rfl, q⟩
theorem ru_neg {i : Int} (q : Q (.int (-i)) H) : RU c .USub (.int i) H Q := ru_of (fun _ _ => un_neg) ⟨i, rfl, q⟩
/-- == of data -/
theorem ro_eqD {d e : PyData} (hx : Dp c.K H x d) (hy : Dp c.K H y e) (s1 : SeqAt.shaped d = true) (s2 : SeqAt.shaped e = true) (q : Q (.bl (PyData.eqv d e)) H) : RQ c .Eq x y H Q :=
  rq_of (r := rEqD c.K) (fun X h => by rw [← h.K]; exact op_eqD h.room.units) ⟨d, e, hx, hy, s1, s2, q⟩
theorem ro_neD {d e : PyData} (hx : Dp c.K H x d) (hy : Dp c.K H y e) (s1 : SeqAt.shaped d = true) (s2 : SeqAt.shaped e = true) (q : Q (.bl (!PyData.eqv d e)) H) : RQ c .NotEq x y H Q :=
  rq_of (r := rNeD c.K) (fun X h => by rw [← h.K]; exact op_neD h.room.units) ⟨d, e, hx, hy, s1, s2, q⟩
/-- x[i] of a tuple of data -/
theorem rx_tup {ds : List PyData} {i : Int} {d : PyData} (hx : Dt c.K H x (.tuple ds)) (hi : atI ds i = some d) (q : ∀ v, Dt c.K H v d → Q v H) : RX c x (.int i) H Q := by
  obtain ⟨a, xs, rfl, ht, ha⟩ := hx.tupE
  obtain ⟨v, h1, h2⟩ := atI_map (R := fun v d => Dt c.K H v d) ha.len hi fun j y hj => ha.get hj
  exact rx_of (r := rIxT c.K) (fun X h => by rw [← h.K]; exact ix_tup) ⟨a, xs, i, v, rfl, rfl, ht, h1, q v h2⟩
theorem rx_int {ds : List PyData} {i n : Int} (hx : Dt c.K H x (.tuple ds)) (hi : atI ds i = some (.int n)) (q : Q (.int n) H) : RX c x (.int i) H Q := rx_tup hx hi fun v h => by rw [h.intE]; exact q
theorem rx_str {ds : List PyData} {i : Int} {n : Str} (hx : Dt c.K H x (.tuple ds)) (hi : atI ds i = some (.str n)) (q : Q (.str n) H) : RX c x (.int i) H Q := rx_tup hx hi fun v h => by rw [h.strE]; exact q
theorem rx_bl {ds : List PyData} {i : Int} {n : Bool} (hx : Dt c.K H x (.tuple ds)) (hi : atI ds i = some (.bool n)) (q : Q (.bl n) H) : RX c x (.int i) H Q := rx_tup hx hi fun v h => by rw [h.blE]; exact q
/-- xs[i] of a list -/
theorem rx_list {p : Addr} {xs : List V} {i : Int} {v : V} (hx : SqL c.K H p xs) (hi : atI xs i = some v) (q : Q v H) : RX c (.ref p) (.int i) H Q :=
  rx_of (r := rIxL c.K) (fun X h => by rw [← h.K]; exact ix_list) ⟨p, xs, i, v, rfl, rfl, hx, hi, q⟩
/-- (a, b, ..), data -/
theorem e_tupD {es : List Expr} {x1} (q : RA c es σ H fun xs H1 => ∃ ds, DtAll c.K H1 xs ds ∧ xs.length ≤ 1000 ∧ ∀ v H2, Same H1 H2 → Dt c.K H2 v (.tuple ds) → Q v H2) : RE c (.Tuple es x1 pos) σ H Q :=
  e_tup (RA.mono (fun xs H1 z => by
    obtain ⟨ds, h1, h2, h3⟩ := z
    exact ⟨Nat.le_trans h2 (by decide), fun p hp => h3 _ _ (same_new hp) (.tup (.of upd_same) (h1.mono (tp_same (same_new hp))))⟩) q)
/-! calls -/
/-- a def that changes nothing: R tells what it answers -/
def spF (R : List PyData → PyData → Prop) (K : PySem.W.Frag) : Sp := fun vs H Q _ => ∃ ds d, DtAll K H vs ds ∧ R ds d ∧ ∀ v H', Same H H' → Dt K H' v d → Q v H'
theorem e_callF {x : Str} {p : Pos} {e : Expr} {es : List Expr} {ps : List Str} {k : Nat} {R : List PyData → PyData → Prop} (D : Dc c.toMd x ps k (spF R c.K)) (q : RA c (e :: es) σ H fun vs H1 => ∃ ds d, DtAll c.K H1 vs ds ∧ R ds d ∧ ∀ v H', Same H1 H' → Dt c.K H' v d → Q v H') (hk : k ≤ c.k := by exact Nat.le_of_ble_eq_true rfl) (hg : c.sc.names.lookup x = some .globalImplicit := by rfl)
    (hdb : (x == ("__debug__" : Str)) = false := by decide) (he : ∀ env, starEach (e :: es) env = (false, eval e env) :: starEach es env := by intro _; rfl) (hpl : ∀ env, (backTo pos (starEach es env)).any (·.1) = false := by intro _; rfl) :
    RE c (.Call (.Name x p) (e :: es) [] pos) σ H Q := e_call D q hk hg hdb he hpl
theorem rc_max2 {i j : Int} (q : Q (.int (if j > i then j else i)) H) : RC c (.builtin "max") [.int i, .int j] H Q := rc_of (fun X h => call_max2 h.calm) ⟨i, j, rfl, q⟩
theorem rc_min2 {i j : Int} (q : Q (.int (if j < i then j else i)) H) : RC c (.builtin "min") [.int i, .int j] H Q := rc_of (fun X h => call_min2 h.calm) ⟨i, j, rfl, q⟩
theorem rc_intI {i : Int} (q : Q (.int i) H) : RC c (.type "int") [.int i] H Q := rc_of (fun X h => call_int1) (.inl ⟨i, rfl, q⟩)
theorem rc_intB {k : Bool} (q : Q (.int (if k then 1 else 0)) H) : RC c (.type "int") [.bl k] H Q := rc_of (fun X h => call_int1) (.inr ⟨k, rfl, q⟩)
theorem rc_lenL {p : Addr} {xs : List V} (h : SqL c.K H p xs) (q : Q (.int xs.length) H) : RC c (.builtin "len") [.ref p] H Q := rc_of (r := fun xs H Q => ∃ p ys, xs = [.ref p] ∧ (SqL c.K H p ys ∨ SqT c.K H p ys) ∧ Q (.int ys.length) H) (fun X h => by rw [← h.K]; exact call_len_seq) ⟨p, xs, rfl, .inl h, q⟩
theorem rc_lenT {ds : List PyData} (h : Dt c.K H x (.tuple ds)) (q : Q (.int ds.length) H) : RC c (.builtin "len") [x] H Q := by
  obtain ⟨a, xs, rfl, ht, ha⟩ := h.tupE
  refine rc_of (r := fun xs H Q => ∃ p ys, xs = [.ref p] ∧ (SqL c.K H p ys ∨ SqT c.K H p ys) ∧ Q (.int ys.length) H) (fun X h => by rw [← h.K]; exact call_len_seq) ⟨a, xs, rfl, .inr ht, ?_⟩
  rw [ha.len]; exact q
end

/-! ### a def -/
section
variable {P : Program} {w : World} {K : PySem.W.Frag} {mg : Str → Option Value} {base : Heap}
theorem is_cx {M : Md} {N : List Str} {qual : Str} {sc : Scope} {f : Addr} {cdv : Value} {A : Around} {outer : List Env} {s : Shared} {H : Hp} {E : XK} {k : Nat} {g : Bool} (hn : N.Nodup) (hg : g = true → A.guards = some []) (hr : Room k (A.deeper (envOfC qual sc s.heap.objs.size f cdv))) :
    Is ⟨M, N, sc, k, true, g, none⟩ (cxOf CX0 M.prog M.w M.K M.mg M.base N qual sc f cdv A outer s H E).nox :=
  ⟨rfl, rfl, rfl, rfl, rfl, rfl, rfl, rfl, hr, fun _ _ => rfl, PassesOwn.never, hn, hg, fun _ _ z => nomatch z⟩
theorem fn_ok {M : Md} {x qual : Str} {st : Stmt} {f : Addr} {fd : FuncData} {N ps : List Str} {k : Nat} {sp : Sp} (F : Fun M.K x qual st f fd) (S : FnScope N ps (defScope st)) (len : ∀ vs H Q E, sp vs H Q E → vs.length = ps.length)
    (body : ∀ (H : Hp) (vs : List V) (Q : VK) (E : XK), sp vs H Q E → RB ⟨M, N, defScope st, k, true, false, none⟩ (defBody st) { nx := fun _ H' => Q .non H', rt := Q } (start N vs) H) : FnG M.prog M.w M.K M.mg M.base CX0 (k + 1) f fd ps sp :=
  F.ok S len fun cdv A outer s H vs Q E hr h => ⟨RB ⟨M, N, defScope st, k, true, false, none⟩ (defBody st), ps_rb (is_cx S.nd (fun z => Bool.noConfusion z) hr), body H vs Q E h⟩
theorem fn_okQ {M : Md} {x qual : Str} {st : Stmt} {f : Addr} {fd : FuncData} {N ps : List Str} {k : Nat} {sp : Sp} (F : Fun M.K x qual st f fd) (S : FnScope N ps (defScope st)) (len : ∀ vs H Q E, sp vs H Q E → vs.length = ps.length)
    (body : ∀ (H : Hp) (vs : List V) (Q : VK) (E : XK), sp vs H Q E → RB ⟨M, N, defScope st, k, true, true, none⟩ (defBody st) { nx := fun _ H' => Q .non H', rt := Q } (start N vs) H) : FnQ M.prog M.w M.K M.mg M.base CX0 (k + 1) f fd ps sp := by
  obtain ⟨oc, od, kV, doc, pm, an, cdv, ct, osl, rfl, at_, cod⟩ := F.ex
  exact fnQ_of at_ cod S len fun A up s H vs Q E hg hr h => ⟨RB ⟨M, N, defScope st, k, true, true, none⟩ (defBody st), (ps_rb (is_cx S.nd (fun _ => hg) hr)).nox, body H vs Q E h⟩
end
end G
namespace G
open PySem PySem.Spec PyProof.Rows L2
theorem ifd {p A B : Prop} [Decidable p] (h1 : p → A) (h2 : ¬ p → B) : if decide p = true then A else B := by
  by_cases h : p
  · rw [if_pos (decide_eq_true h)]; exact h1 h
  · rw [if_neg (by simp [h])]; exact h2 h
theorem ifnd {p A B : Prop} [Decidable p] (h1 : ¬ p → A) (h2 : p → B) : if (!decide p) = true then A else B := by
  by_cases h : p
  · rw [if_neg (by simp [h])]; exact h2 h
  · rw [if_pos (by simp [h])]; exact h1 h
theorem ifT {p A B : Prop} [Decidable p] (h : p) (a : A) : if decide p = true then A else B := by rw [if_pos (decide_eq_true h)]; exact a
theorem ifF {p A B : Prop} [Decidable p] (h : ¬ p) (b : B) : if decide p = true then A else B := by rw [if_neg (by simp [h])]; exact b
theorem ifnT {p A B : Prop} [Decidable p] (h : ¬ p) (a : A) : if (!decide p) = true then A else B := by rw [if_pos (by simp [h])]; exact a
theorem ifnF {p A B : Prop} [Decidable p] (h : p) (b : B) : if (!decide p) = true then A else B := by rw [if_neg (by simp [h])]; exact b
theorem ifb {k : Bool} {A B : Prop} (h1 : k = true → A) (h2 : k = false → B) : if k = true then A else B := by
  cases k with
  | true => exact h1 rfl
  | false => exact h2 rfl
end G
namespace G
open PySem PySem.Spec PyProof.Rows L2
section
variable {c : Cd} {σ : L2.St} {H : Hp} {Q : VK} {pos : Pos} {x y : V}
/-- d[k] with a written text -/
theorem e_dgetS {a : Expr} {s : Str} {j : Nat} {p2 : Pos} (q : RE c a σ H fun x H1 => ∃ p kvs v, x = .ref p ∧ H1 p = some (.dK kvs) ∧ valV kvs (Sum.inr s) = some v ∧ Q v H1) (hs : NoSl (.Constant (.str s) j p2) := by intro _ _; rfl) : RE c (.Subscript a (.Constant (.str s) j p2) pos) σ H Q :=
  e_dget (RE.mono (fun x H1 z => e_str (by
    obtain ⟨p, kvs, v, rfl, h, e, q⟩ := z
    refine ⟨p, v, rfl, ?_, q⟩
    rw [← e]; exact DGet.k (k := Sum.inr s) h)) q) hs
theorem e_dgetK {a b : Expr} (q : RE c a σ H fun x H1 => RE c b σ H1 fun y H2 => ∃ p kvs k v, x = .ref p ∧ H2 p = some (.dK kvs) ∧ y = kV k ∧ valV kvs k = some v ∧ Q v H2) (hs : NoSl b := by intro _ _; rfl) : RE c (.Subscript a b pos) σ H Q :=
  e_dget (RE.mono (fun x H1 z => RE.mono (fun y H2 z => by
    obtain ⟨p, kvs, k, v, rfl, h, rfl, e, q⟩ := z
    refine ⟨p, v, rfl, ?_, q⟩
    rw [← e]; exact DGet.k h) z) q) hs
variable {nx : L2.St → Hp → Prop} {rt : VK} {bk ct : L2.St → Hp → Prop}
theorem s_dputS {a e : Expr} {s : Str} {j : Nat} {p2 p3 : Pos} (q : RE c e σ H fun v H1 => RE c a σ H1 fun x H2 => ∃ p kvs, x = .ref p ∧ H2 p = some (.dK kvs) ∧ kvs.length < 1000 ∧ nx σ (upd H2 p (.dK (putK kvs (Sum.inr s) v))))
    (hs : ∀ env, swapsWith e (some (.Subscript a (.Constant (.str s) j p2) p3)) pos.line env = pure false := by intro _; rfl) : RS c (.Assign [.Subscript a (.Constant (.str s) j p2) p3] e pos) ⟨nx, rt, bk, ct⟩ σ H :=
  s_dput (RE.mono (fun v H1 z => RE.mono (fun x H2 z => e_str (by
    obtain ⟨p, kvs, rfl, h, l, q⟩ := z
    exact ⟨p, _, rfl, DPut.k (k := Sum.inr s) h (Nat.lt_trans l (by decide)), q⟩)) z) q) hs
end

/-! ### the law's source of draws: a dict of four things -/
def fkv (a : V) (b d e : Int) : List (Key × V) := [(Sum.inr "cells", a), (Sum.inr "rest", .int b), (Sum.inr "used", .int d), (Sum.inr "draws", .int e)]
theorem fkv_len (a : V) (b d e : Int) : (fkv a b d e).length = 4 := rfl
theorem n01 : ¬ (Sum.inr ("cells" : Str) : Key) = Sum.inr ("rest" : Str) := by decide +kernel
theorem n02 : ¬ (Sum.inr ("cells" : Str) : Key) = Sum.inr ("used" : Str) := by decide +kernel
theorem n03 : ¬ (Sum.inr ("cells" : Str) : Key) = Sum.inr ("draws" : Str) := by decide +kernel
theorem n12 : ¬ (Sum.inr ("rest" : Str) : Key) = Sum.inr ("used" : Str) := by decide +kernel
theorem n13 : ¬ (Sum.inr ("rest" : Str) : Key) = Sum.inr ("draws" : Str) := by decide +kernel
theorem n23 : ¬ (Sum.inr ("used" : Str) : Key) = Sum.inr ("draws" : Str) := by decide +kernel
theorem fkv_0 {a : V} {b d e : Int} : valV (fkv a b d e) (Sum.inr "cells") = some a := valV_pos rfl
theorem fkv_1 {a : V} {b d e : Int} : valV (fkv a b d e) (Sum.inr "rest") = some (.int b) := by rw [fkv, valV_neg n01]; exact valV_pos rfl
theorem fkv_2 {a : V} {b d e : Int} : valV (fkv a b d e) (Sum.inr "used") = some (.int d) := by rw [fkv, valV_neg n02, valV_neg n12]; exact valV_pos rfl
theorem fkv_3 {a : V} {b d e : Int} : valV (fkv a b d e) (Sum.inr "draws") = some (.int e) := by rw [fkv, valV_neg n03, valV_neg n13, valV_neg n23]; exact valV_pos rfl
theorem fput_1 {a : V} {b d e x : Int} : putK (fkv a b d e) (Sum.inr "rest") (.int x) = fkv a x d e := by
  unfold putK
  rw [valV_any, fkv_1, Option.isSome_some, if_pos rfl]
  simp only [fkv, List.map_cons, List.map_nil, if_neg n01, if_pos, if_neg (fun h => n12 (Eq.symm h)), if_neg (fun h => n13 (Eq.symm h))]
theorem fput_2 {a : V} {b d e x : Int} : putK (fkv a b d e) (Sum.inr "used") (.int x) = fkv a b x e := by
  unfold putK
  rw [valV_any, fkv_2, Option.isSome_some, if_pos rfl]
  simp only [fkv, List.map_cons, List.map_nil, if_neg n02, if_neg n12, if_pos, if_neg (fun h => n23 (Eq.symm h))]
theorem fput_3 {a : V} {b d e x : Int} : putK (fkv a b d e) (Sum.inr "draws") (.int x) = fkv a b d x := by
  unfold putK
  rw [valV_any, fkv_3, Option.isSome_some, if_pos rfl]
  simp only [fkv, List.map_cons, List.map_nil, if_neg n03, if_neg n13, if_neg n23, if_pos]
def Feed (K : PySem.W.Frag) (H : Hp) (fd cl : Addr) (n : Nat) : Prop := ∃ (ns : List Int) (b d e : Int), H fd = some (.dK (fkv (.ref cl) b d e)) ∧ H cl = some (.lst (ns.map V.int)) ∧ ns.length ≤ 63 ∧ 0 ≤ e ∧ e ≤ n
theorem Feed.same {K : PySem.W.Frag} {H H' : Hp} {fd cl : Addr} {n : Nat} (h : Feed K H fd cl n) (s : Same H H') : Feed K H' fd cl n := by
  obtain ⟨ns, b, d, e, h1, h2, h3⟩ := h
  exact ⟨ns, b, d, e, s _ _ h1, s _ _ h2, h3⟩
theorem Feed.up {K : PySem.W.Frag} {H : Hp} {fd cl : Addr} {n m : Nat} (h : Feed K H fd cl n) (g : n ≤ m) : Feed K H fd cl m := by
  obtain ⟨ns, b, d, e, h1, h2, h3, h4, h5⟩ := h
  exact ⟨ns, b, d, e, h1, h2, h3, h4, by omega⟩
theorem Feed.upd {K : PySem.W.Frag} {H : Hp} {fd cl l : Addr} {o : HO} {n : Nat} (h : Feed K H fd cl n) (n1 : l ≠ fd) (n2 : l ≠ cl) : Feed K (upd H l o) fd cl n := by
  obtain ⟨ns, b, d, e, h1, h2, h3⟩ := h
  exact ⟨ns, b, d, e, by rw [upd_ne (fun e => n1 e.symm)]; exact h1, by rw [upd_ne (fun e => n2 e.symm)]; exact h2, h3⟩
theorem kp_fd {H : Hp} {p : Addr} {kvs : List (Key × V)} {o' : HO} (h : H p = some (.dK kvs)) : Kp p H (upd H p o') := kp_upd h (fun _ e => nomatch e) fun _ _ e => nomatch e
/-- a def that draws: what it asks of its other arguments, what it may answer -/
def spD (w : Nat) (Pre : List PyData → Prop) (R : List PyData → PyData → Prop) (K : PySem.W.Frag) : Sp := fun vs H Q _ => ∃ fd cl rest ds n, vs = .ref fd :: rest ∧ Feed K H fd cl n ∧ n + w ≤ 1000000 ∧ DtAll K H rest ds ∧ Pre ds ∧
  ∀ d v H', R ds d → Kp fd H H' → Feed K H' fd cl (n + w) → Dt K H' v d → Q v H'
theorem spD_len {w : Nat} {Pre : List PyData → Prop} {R : List PyData → PyData → Prop} {K : PySem.W.Frag} {n : Nat} (hp : ∀ ds, Pre ds → ds.length = n) : ∀ vs H Q E, spD w Pre R K vs H Q E → vs.length = n + 1 := by
  rintro vs H Q E ⟨fd, cl, rest, ds, m, rfl, _, _, h, p, _⟩
  rw [List.length_cons, h.len, hp ds p]
end G

namespace G
open PySem PySem.Spec PyProof.Rows L2
structure Bl (M : Md) : Prop where
  len : M.mg "len" = none
  int : M.mg "int" = none
  max : M.mg "max" = none
  min : M.mg "min" = none
  range : M.mg "range" = none
  tuple : M.mg "tuple" = none
  list : M.mg "list" = none
  isinst : M.mg "isinstance" = none
  str : M.mg "str" = none
  bool : M.mg "bool" = none
  set : M.mg "set" = none
  dict : M.mg "dict" = none
  sorted : M.mg "sorted" = none
theorem dpInts {K : PySem.W.Frag} {H : Hp} : ∀ ns : List Int, DpAll K H (ns.map V.int) (ns.map PyData.int)
  | [] => .nil
  | n :: ns => .cons (.int n) (dpInts ns)
theorem shInts (ns : List Int) : SeqAt.shaped (.list (ns.map PyData.int)) = true := by
  have h : ∀ ns : List Int, PyData.canLayAll0 (ns.map PyData.int) = true ∧ PyData.depthAll (ns.map PyData.int) ≤ 1 := by
    intro ns
    induction ns with
    | nil => exact ⟨by simp [PyData.canLayAll0], by simp [PyData.depthAll]⟩
    | cons n ns ih => exact ⟨by simp [PyData.canLayAll0, PyData.canLay0, ih.1], by simp only [List.map_cons, PyData.depthAll, PyData.depth]; omega⟩
  show (PyData.canLay0 (.list _) && decide (PyData.depth (.list _) ≤ 64)) = true
  rw [Bool.and_eq_true]
  refine ⟨by simp only [PyData.canLay0]; exact (h ns).1, decide_eq_true ?_⟩
  simp only [PyData.depth]
  have := (h ns).2
  omega
theorem pl_at {α : Type} {xs : List α} {z : Int} {j : Nat} {v : α} (e : z = (j : Int)) (h : xs[j]? = some v) : atI xs z = some v := by
  rw [e]
  exact atI_nat h
end G

namespace G
open PySem PySem.Spec PyProof.Rows L2
/-! ### comprehensions -/
abbrev blkCd (c : Cd) (scope : Scope) : Cd := ⟨c.toMd, c.N, relS scope c.sc, c.k, false, c.g, none⟩
theorem is_blk {c : Cd} {X : Cx} (h : Is c X) {scope : Scope} (s : Shared) (H : Hp) (C : Addr) (cl : List (Str × Addr)) (fp : List Addr) : Is (blkCd c scope) (X.blk s H scope (compEnvC scope cl C X.env) fp) := by
  refine ⟨h.prog, h.w, h.K, h.mg, h.base, h.N, ?_, h.calm, h.room, (fun z => Bool.noConfusion z), PassesOwn.never, h.nd, h.gd, fun _ _ z => nomatch z⟩
  show relS scope X.env.scope = relS scope c.sc
  rw [h.sc]
section
variable {c : Cd} {σ : L2.St} {H : Hp} {Q : VK} {pos : Pos} {x y : V}
theorem ts_nil {Q : Bool → Hp → Prop} (q : Q true H) : RTs c [] σ H Q := rts_of (fun _ _ => pts_nil) q
theorem ts_one {Q : Bool → Hp → Prop} {e : Expr} (q : RT c e σ H Q) : RTs c [e] σ H Q := rts_of (fun _ h => pts_one (pt_rt h)) q
/-- what is asked of a comprehension's block -/
structure Blk (c : Cd) (scope : Scope) (own : List (Str × Nat)) : Prop where
  ok : BlkOk c.N c.sc scope own
theorem Blk.of {c : Cd} {scope : Scope} {own : List (Str × Nat)} {N : List Str} {sc : Scope} (h1 : c.N = N) (h2 : c.sc = sc) (h : blkC N sc scope own = true) : Blk c scope own := ⟨by rw [h1, h2]; exact blkOk_by h⟩
theorem e_lc {elt tg iter : Expr} {ifs : List Expr} {scope : Scope} {own : List (Str × Nat)} (ok : Blk c scope own)
    (q : tLc (RI c tg iter) (RG (blkCd c scope) tg) (RTs (blkCd c scope) ifs) (RE (blkCd c scope) elt) (own.map (·.2)) σ H Q) (hs : ∀ env x, foldedSetIterable iter env x = pure x := by intro _ _; rfl) : RE c (.ListComp elt [⟨tg, iter, ifs, 0⟩] scope pos) σ H Q :=
  re_of (fun X h => pe_lc h.calm (by rw [h.N]; exact h.nd) (pi_ri h) (by rw [h.N, h.sc]; exact ok.ok) (fun s H C cl fp => pg_rg (is_blk h s H C cl fp)) (fun s H C cl fp => pts_rts (is_blk h s H C cl fp)) (fun s H C cl fp => pe_re (is_blk h s H C cl fp)) (hs _)) q
theorem s_setLc {nx : L2.St → Hp → Prop} {rt : VK} {bk ct : L2.St → Hp → Prop} {i : Nat} {y : Str} {py : Pos} {elt tg iter : Expr} {ifs : List Expr} {scope : Scope} {own : List (Str × Nat)} {spos : Pos} (hA : At c.N i y) (ok : Blk c scope own)
    (q : tLc (RI c tg iter) (RG (blkCd c scope) tg) (RTs (blkCd c scope) ifs) (RE (blkCd c scope) elt) (own.map (·.2)) σ H fun v H1 => nx (σ.set i (some v)) H1)
    (hy : c.sc.names.lookup y = some .local := by rfl) (hl : (py.line == pos.line) = true := by rfl) (ha : (scope.names.any fun (n, k) => n == y && (k == .local || k == .cell)) = false := by rfl) (hf : c.sc.kind = .function := by rfl) (hs : ∀ env x, foldedSetIterable iter env x = pure x := by intro _ _; rfl) :
    RS c (.Assign [.Name y py] (.ListComp elt [⟨tg, iter, ifs, 0⟩] scope pos) spos) ⟨nx, rt, bk, ct⟩ σ H :=
  rs_of (c := c) (σ := σ) (H := H) (D := ⟨nx, rt, bk, ct⟩) (t := tAsg (tLc (RI c tg iter) (RG (blkCd c scope) tg) (RTs (blkCd c scope) ifs) (RE (blkCd c scope) elt) (own.map (fun p : Str × Nat => p.2))) (gName i)) (fun X h => ps_setLc h.calm (by rw [h.N]; exact h.nd) (by rw [h.N]; exact hA.get) (by rw [h.sc]; exact hy)
    (sw_true (by rw [h.sc]; exact hf) (by rw [h.sc]; exact hy) hl ha) (pi_ri h) (by rw [h.N, h.sc]; exact ok.ok) (fun s H C cl fp => pg_rg (is_blk h s H C cl fp)) (fun s H C cl fp => pts_rts (is_blk h s H C cl fp)) (fun s H C cl fp => pe_re (is_blk h s H C cl fp)) (hs _)) q

/-- a turn of a comprehension, with a word Pv: what the turn, the collected values and the heap are -/
def Turn1 (cB : Cd) (tg : Expr) (ifs : List Expr) (elt : Expr) (vs : List Nat) (σ : L2.St) (D : Addr) (x : V) (H' : Hp) (acc : List V) (Nx : List V → Hp → Prop) : Prop :=
  RG cB tg x (wipe σ vs) H' fun σ2 H2 => wipe σ2 vs = wipe σ vs ∧ RTs cB ifs σ2 H2 fun b H3 => if b = true then RE cB elt σ2 H3 fun y H4 => H4 D = some (.lst acc) ∧ Nx (acc ++ [y]) (upd H4 D (.lst (acc ++ [y]))) else Nx acc H3
section
variable {elt tg iter : Expr} {ifs : List Expr} {scope : Scope} {vs : List Nat}
/-- over a tuple -/
theorem lc_T (q : RE c iter σ H fun x H1 => ∃ a xs, x = .ref a ∧ SqT c.K H1 a xs ∧ xs.length ≤ 1000 ∧ ∀ D, H1 D = none → ∃ Pv : Nat → List V → Hp → Prop, Pv 0 [] (upd H1 D (.lst [])) ∧ (∀ i acc H', i ≤ xs.length → Pv i acc H' → SqT c.K H' a xs ∧ acc.length ≤ i) ∧
      (∀ i x acc H', xs[i]? = some x → Pv i acc H' → Turn1 (blkCd c scope) tg ifs elt vs σ D x H' acc (Pv (i + 1))) ∧ ∀ acc H', Pv xs.length acc H' → Q (.ref D) H') :
    tLc (RI c tg iter) (RG (blkCd c scope) tg) (RTs (blkCd c scope) ifs) (RE (blkCd c scope) elt) vs σ H Q := by
  refine i_tup (RE.mono (fun x H1 z => ?_) q)
  obtain ⟨a, xs, rfl, ht, hl, z⟩ := z
  refine ⟨a, rfl, ⟨xs, ht⟩, fun D hD => ?_⟩
  obtain ⟨Pv, p0, pk, pt, pe⟩ := z D hD
  refine lc_tup (xs := xs) (fun i H' => ∃ acc, Pv i acc H') ⟨_, p0⟩ (fun i H' hi ⟨acc, p⟩ => (pk i acc H' hi p).1) (fun i x H' hx ⟨acc, p⟩ => ?_) fun H' ⟨acc, p⟩ => pe acc H' p
  have hi : i < xs.length := (List.getElem?_eq_some_iff.mp hx).1
  have la := (pk i acc H' (Nat.le_of_lt hi) p).2
  refine RG.mono (fun σ2 H2 z => ?_) (pt i x acc H' hx p)
  refine ⟨z.1, RTs.mono (fun b H3 z => ?_) z.2⟩
  cases b with
  | true => exact RE.mono (fun y H4 z => ⟨acc, z.1, Nat.lt_of_le_of_lt la (Nat.lt_of_lt_of_le hi (Nat.le_trans hl (by decide))), _, z.2⟩) z
  | false => exact ⟨_, z⟩
/-- over a list -/
theorem lc_L (q : RE c iter σ H fun x H1 => ∃ a xs, x = .ref a ∧ SqL c.K H1 a xs ∧ xs.length ≤ 1000 ∧ ∀ D, H1 D = none → ∃ Pv : Nat → List V → Hp → Prop, Pv 0 [] (upd H1 D (.lst [])) ∧ (∀ i acc H', i ≤ xs.length → Pv i acc H' → SqL c.K H' a xs ∧ acc.length ≤ i) ∧
      (∀ i x acc H', xs[i]? = some x → Pv i acc H' → Turn1 (blkCd c scope) tg ifs elt vs σ D x H' acc (Pv (i + 1))) ∧ ∀ acc H', Pv xs.length acc H' → Q (.ref D) H') :
    tLc (RI c tg iter) (RG (blkCd c scope) tg) (RTs (blkCd c scope) ifs) (RE (blkCd c scope) elt) vs σ H Q := by
  refine i_list (RE.mono (fun x H1 z => ?_) q)
  obtain ⟨a, xs, rfl, ht, hl, z⟩ := z
  refine ⟨a, rfl, ⟨xs, ht⟩, fun D hD => ?_⟩
  obtain ⟨Pv, p0, pk, pt, pe⟩ := z D hD
  refine lc_list (xs := xs) (fun i H' => ∃ acc, Pv i acc H') ⟨_, p0⟩ (fun i H' hi ⟨acc, p⟩ => (pk i acc H' hi p).1) (fun i x H' hx ⟨acc, p⟩ => ?_) fun H' ⟨acc, p⟩ => pe acc H' p
  have hi : i < xs.length := (List.getElem?_eq_some_iff.mp hx).1
  have la := (pk i acc H' (Nat.le_of_lt hi) p).2
  refine RG.mono (fun σ2 H2 z => ?_) (pt i x acc H' hx p)
  refine ⟨z.1, RTs.mono (fun b H3 z => ?_) z.2⟩
  cases b with
  | true => exact RE.mono (fun y H4 z => ⟨acc, z.1, Nat.lt_of_le_of_lt la (Nat.lt_of_lt_of_le hi (Nat.le_trans hl (by decide))), _, z.2⟩) z
  | false => exact ⟨_, z⟩
/-- over range(a, b) -/
theorem lc_R2 {a b : Expr} {p ppos : Pos} (hm : c.mg "range" = none) (q : RE c a σ H fun x H1 => RE c b σ H1 fun y H2 => ∃ i j : Int, x = .int i ∧ y = .int j ∧ (-1000 ≤ i ∧ i ≤ 1000) ∧ (-1000 ≤ j ∧ j ≤ 1000) ∧ ∀ D, H2 D = none → ∃ Pv : Nat → List V → Hp → Prop, Pv 0 [] (upd H2 D (.lst [])) ∧ (∀ t acc H', Pv t acc H' → acc.length ≤ t) ∧
      (∀ t acc H', t < (j - i).toNat → Pv t acc H' → Turn1 (blkCd c scope) tg ifs elt vs σ D (.int (i + t)) H' acc (Pv (t + 1))) ∧ ∀ acc H', Pv (j - i).toNat acc H' → Q (.ref D) H')
    (hg : c.sc.names.lookup ("range" : Str) = some .globalImplicit := by rfl) (hs : ∀ env, starEach [a, b] env = [(false, eval a env), (false, eval b env)] := by intro _; rfl) (hs2 : ∀ env, starEach [b] env = [(false, eval b env)] := by intro _; rfl) :
    tLc (RI c tg (.Call (.Name "range" p) [a, b] [] ppos)) (RG (blkCd c scope) tg) (RTs (blkCd c scope) ifs) (RE (blkCd c scope) elt) vs σ H Q := by
  refine i_range2 hm (a_cons (RE.mono (fun x H1 z => a_cons (RE.mono (fun y H2 z => a_nil ?_) z) (fun env => by rw [hs2]; rfl)) q) (fun env => by rw [hs, hs2])) hg hs hs2
  obtain ⟨i, j, rfl, rfl, h1, h2, z⟩ := z
  refine ⟨i, j, rfl, ⟨by omega, by omega, by omega, by omega⟩, fun D hD => ?_⟩
  obtain ⟨Pv, p0, pk, pt, pe⟩ := z D hD
  refine lc_range (lo := i) (n := (j - i).toNat) (fun t H' => ∃ acc, Pv t acc H') ⟨_, p0⟩ (fun t H' ht ⟨acc, p⟩ => ?_) fun H' ⟨acc, p⟩ => pe acc H' p
  have la := pk t acc H' p
  refine RG.mono (fun σ2 H2 z => ?_) (pt t acc H' ht p)
  refine ⟨z.1, RTs.mono (fun b H3 z => ?_) z.2⟩
  cases b with
  | true => exact RE.mono (fun y H4 z => ⟨acc, z.1, Nat.lt_of_le_of_lt la (Nat.lt_of_lt_of_le ht (Nat.le_trans (show (j - i).toNat ≤ 2000 by omega) (by decide))), _, z.2⟩) z
  | false => exact ⟨_, z⟩
/-- over range(n) -/
theorem lc_R1 {a : Expr} {p ppos : Pos} (hm : c.mg "range" = none) (q : RE c a σ H fun y H2 => ∃ j : Int, y = .int j ∧ (-1000 ≤ j ∧ j ≤ 1000) ∧ ∀ D, H2 D = none → ∃ Pv : Nat → List V → Hp → Prop, Pv 0 [] (upd H2 D (.lst [])) ∧ (∀ t acc H', Pv t acc H' → acc.length ≤ t) ∧
      (∀ t acc H', t < j.toNat → Pv t acc H' → Turn1 (blkCd c scope) tg ifs elt vs σ D (.int t) H' acc (Pv (t + 1))) ∧ ∀ acc H', Pv j.toNat acc H' → Q (.ref D) H')
    (hg : c.sc.names.lookup ("range" : Str) = some .globalImplicit := by rfl) (hs : ∀ env, starEach [a] env = [(false, eval a env)] := by intro _; rfl) :
    tLc (RI c tg (.Call (.Name "range" p) [a] [] ppos)) (RG (blkCd c scope) tg) (RTs (blkCd c scope) ifs) (RE (blkCd c scope) elt) vs σ H Q := by
  refine i_range1 hm (a_cons (RE.mono (fun x H1 z => a_nil ?_) q) (fun env => by rw [hs]; rfl)) hg hs
  obtain ⟨j, rfl, h2, z⟩ := z
  refine ⟨j, rfl, by omega, by omega, fun D hD => ?_⟩
  obtain ⟨Pv, p0, pk, pt, pe⟩ := z D hD
  refine lc_range (lo := 0) (n := j.toNat) (fun t H' => ∃ acc, Pv t acc H') ⟨_, p0⟩ (fun t H' ht ⟨acc, p⟩ => ?_) fun H' ⟨acc, p⟩ => pe acc H' p
  have la := pk t acc H' p
  rw [Int.zero_add]
  refine RG.mono (fun σ2 H2 z => ?_) (pt t acc H' ht p)
  refine ⟨z.1, RTs.mono (fun b H3 z => ?_) z.2⟩
  cases b with
  | true => exact RE.mono (fun y H4 z => ⟨acc, z.1, Nat.lt_of_le_of_lt la (Nat.lt_of_lt_of_le ht (Nat.le_trans (show j.toNat ≤ 1000 by omega) (by decide))), _, z.2⟩) z
  | false => exact ⟨_, z⟩
/-- over a text's signs -/
theorem lc_S (q : RE c iter σ H fun x H1 => ∃ z : Str, x = .str z ∧ z.cps.size ≤ 1000 ∧ ∀ D, H1 D = none → ∃ Pv : Nat → List V → Hp → Prop, Pv 0 [] (upd H1 D (.lst [])) ∧ (∀ i acc H', Pv i acc H' → acc.length ≤ i) ∧
      (∀ i ch acc H', i < z.cps.size → Pv i acc H' → Turn1 (blkCd c scope) tg ifs elt vs σ D (.str ⟨#[ch]⟩) H' acc (Pv (i + 1))) ∧ ∀ acc H', Pv z.cps.size acc H' → Q (.ref D) H') :
    tLc (RI c tg iter) (RG (blkCd c scope) tg) (RTs (blkCd c scope) ifs) (RE (blkCd c scope) elt) vs σ H Q := by
  refine ri_of (t := iStr (RE c iter)) (fun X h => pi_str (pe_re h)) (RE.mono (fun x H1 z => ?_) q)
  obtain ⟨z, rfl, hl, w⟩ := z
  refine ⟨z, rfl, fun D hD => ?_⟩
  obtain ⟨Pv, p0, pk, pt, pe⟩ := w D hD
  refine ⟨fun i m H' => m = z.cps.size - i ∧ i ≤ z.cps.size ∧ ∃ acc, Pv i acc H', ⟨z.cps.size, by simp, Nat.zero_le _, _, p0⟩, ?_⟩
  rintro i m H' ⟨rfl, hi, acc, p⟩
  by_cases hlt : i < z.cps.size
  · refine .inr ⟨hlt, fun H' => ∃ acc, Pv (i + 1) acc H', fun H' p' => ⟨z.cps.size - (i + 1), by omega, rfl, hlt, p'⟩, fun x H2 yy => ?_⟩
    obtain ⟨e, ch, hc, rfl⟩ := yy
    subst e
    have la := pk i acc _ p
    refine RG.mono (fun σ2 H2 z => ?_) (pt i ch acc _ hlt p)
    refine ⟨z.1, RTs.mono (fun b H3 z => ?_) z.2⟩
    cases b with
    | true => exact RE.mono (fun y H4 z => ⟨acc, z.1, Nat.lt_of_le_of_lt la (Nat.lt_of_lt_of_le hlt (Nat.le_trans hl (by decide))), _, z.2⟩) z
    | false => exact ⟨_, z⟩
  · have e : i = z.cps.size := by omega
    subst e
    exact .inl ⟨Nat.le_refl _, pe acc H' p⟩
end
end

/-! ### comprehensions that change nothing: a function on data -/
section
variable {c : Cd} {σ : L2.St} {H : Hp} {Q : VK} {pos : Pos} {x y : V} {elt tg iter : Expr} {ifs : List Expr} {scope : Scope} {vs : List Nat}
/-- the pure turn -/
def TurnF (cB : Cd) (tg : Expr) (ifs : List Expr) (elt : Expr) (vs : List Nat) (σ : L2.St) (K : PySem.W.Frag) (x : V) (H' : Hp) (o : Option PyData) : Prop :=
  RG cB tg x (wipe σ vs) H' fun σ2 H2 => H2 = H' ∧ wipe σ2 vs = wipe σ vs ∧ RTs cB ifs σ2 H2 fun b H3 => Same H' H3 ∧ if b = true then RE cB elt σ2 H3 fun y H4 => Same H3 H4 ∧ ∃ e, o = some e ∧ Dt K H4 y e else o = none
theorem TurnF.one {cB : Cd} {σ : L2.St} {K : PySem.W.Frag} {x : V} {H1 H' : Hp} {o : Option PyData} {D : Addr} {acc : List V} {es : List PyData} (hD : H1 D = none) (s : Same H1 H') (ha : H' D = some (.lst acc)) (hd : DtAll K H' acc es) (t : TurnF cB tg ifs elt vs σ K x H' o) :
    Turn1 cB tg ifs elt vs σ D x H' acc fun acc' H2 => H2 D = some (.lst acc') ∧ Same H1 H2 ∧ DtAll K H2 acc' (es ++ o.toList) := by
  refine RG.mono (fun σ2 H2 z => ?_) t
  obtain ⟨rfl, z1, z2⟩ := z
  refine ⟨z1, RTs.mono (fun b H3 z => ?_) z2⟩
  obtain ⟨s3, z⟩ := z
  cases b with
  | true =>
    refine RE.mono (fun y H4 z => ?_) z
    obtain ⟨s4, e, rfl, he⟩ := z
    have aD := s4 _ _ (s3 _ _ ha)
    have k := kp_upd (o' := .lst (acc ++ [y])) aD (fun _ e => nomatch e) (fun _ _ e => nomatch e)
    exact ⟨aD, upd_same, same_mut (s.trans (s3.trans s4)) hD, ((hd.mono (tp_same (s3.trans s4))).mono k.t).app (.cons (he.mono k.t) .nil)⟩
  | false =>
    have z : o = none := z
    subst z
    exact ⟨s3 _ _ ha, s.trans s3, by rw [Option.toList_none, List.append_nil]; exact hd.mono (tp_same s3)⟩
theorem outs_step {g : PyData → Option PyData} {ds : List PyData} {i : Nat} {d : PyData} (h : ds[i]? = some d) : (ds.take i).filterMap g ++ (g d).toList = (ds.take (i + 1)).filterMap g := by
  obtain ⟨h1, rfl⟩ := List.getElem?_eq_some_iff.mp h
  rw [List.take_succ_eq_append_getElem h1, List.filterMap_append]
  congr 1
theorem lcT_F (g : PyData → Option PyData) (q : RE c iter σ H fun x H1 => ∃ ds, Dt c.K H1 x (.tuple ds) ∧ ds.length ≤ 1000 ∧ (∀ d x H', d ∈ ds → Same H1 H' → Dt c.K H' x d → TurnF (blkCd c scope) tg ifs elt vs σ c.K x H' (g d)) ∧
      ∀ p us H2, Same H1 H2 → H1 p = none → H2 p = some (.lst us) → DtAll c.K H2 us (ds.filterMap g) → Q (.ref p) H2) :
    tLc (RI c tg iter) (RG (blkCd c scope) tg) (RTs (blkCd c scope) ifs) (RE (blkCd c scope) elt) vs σ H Q := by
  refine lc_T (RE.mono (fun x H1 z => ?_) q)
  obtain ⟨ds, hx, hl, t, k⟩ := z
  obtain ⟨a, xs, rfl, ht, ha⟩ := hx.tupE
  have hle := ha.len
  refine ⟨a, xs, rfl, ht, by omega, fun D hD => ⟨fun i acc H' => acc.length ≤ i ∧ H' D = some (.lst acc) ∧ Same H1 H' ∧ DtAll c.K H' acc ((ds.take i).filterMap g), ⟨Nat.le_refl _, upd_same, same_new hD, .nil⟩, ?_, ?_, ?_⟩⟩
  · rintro i acc H' _ ⟨l, _, s, _⟩
    exact ⟨(tp_same s).sqt ht, l⟩
  · rintro i x acc H' hx ⟨l, h1, s, h2⟩
    obtain ⟨d, hd, hx'⟩ := ha.getV hx
    have T := TurnF.one hD s h1 h2 (t d x H' (List.mem_of_getElem? hd) s (hx'.mono (tp_same s)))
    refine RG.mono (fun σ2 H2 z => ⟨z.1, RTs.mono (fun b H3 z => ?_) z.2⟩) T
    cases b with
    | true => exact RE.mono (fun y H4 z => ⟨z.1, by rw [List.length_append, List.length_singleton]; omega, z.2.1, z.2.2.1, by rw [← outs_step hd]; exact z.2.2.2⟩) z
    | false => exact ⟨by omega, z.1, z.2.1, by rw [← outs_step hd]; exact z.2.2⟩
  · rintro acc H' ⟨l, h1, s, h2⟩
    refine k D acc H' s hD h1 ?_
    rw [hle, List.take_length] at h2
    exact h2
theorem lcL_F (g : PyData → Option PyData) (q : RE c iter σ H fun x H1 => ∃ a xs ds, x = .ref a ∧ SqL c.K H1 a xs ∧ DtAll c.K H1 xs ds ∧ ds.length ≤ 1000 ∧ (∀ d x H', d ∈ ds → Same H1 H' → Dt c.K H' x d → TurnF (blkCd c scope) tg ifs elt vs σ c.K x H' (g d)) ∧
      ∀ p us H2, Same H1 H2 → H1 p = none → H2 p = some (.lst us) → DtAll c.K H2 us (ds.filterMap g) → Q (.ref p) H2) :
    tLc (RI c tg iter) (RG (blkCd c scope) tg) (RTs (blkCd c scope) ifs) (RE (blkCd c scope) elt) vs σ H Q := by
  refine lc_L (RE.mono (fun x H1 z => ?_) q)
  obtain ⟨a, xs, ds, rfl, ht, ha, hl, t, k⟩ := z
  have hle := ha.len
  refine ⟨a, xs, rfl, ht, by omega, fun D hD => ⟨fun i acc H' => acc.length ≤ i ∧ H' D = some (.lst acc) ∧ Same H1 H' ∧ DtAll c.K H' acc ((ds.take i).filterMap g), ⟨Nat.le_refl _, upd_same, same_new hD, .nil⟩, ?_, ?_, ?_⟩⟩
  · rintro i acc H' _ ⟨l, _, s, _⟩
    exact ⟨s.seq ht, l⟩
  · rintro i x acc H' hx ⟨l, h1, s, h2⟩
    obtain ⟨d, hd, hx'⟩ := ha.getV hx
    have T := TurnF.one hD s h1 h2 (t d x H' (List.mem_of_getElem? hd) s (hx'.mono (tp_same s)))
    refine RG.mono (fun σ2 H2 z => ⟨z.1, RTs.mono (fun b H3 z => ?_) z.2⟩) T
    cases b with
    | true => exact RE.mono (fun y H4 z => ⟨z.1, by rw [List.length_append, List.length_singleton]; omega, z.2.1, z.2.2.1, by rw [← outs_step hd]; exact z.2.2.2⟩) z
    | false => exact ⟨by omega, z.1, z.2.1, by rw [← outs_step hd]; exact z.2.2⟩
  · rintro acc H' ⟨l, h1, s, h2⟩
    refine k D acc H' s hD h1 ?_
    rw [hle, List.take_length] at h2
    exact h2

/-! ### lists that grow -/
theorem e_app {o e : Expr} {apos : Pos} (q : RE c o σ H fun x H1 => ∃ l zs, x = .ref l ∧ H1 l = some (.lst zs) ∧ RE c e σ H1 fun y H2 => ∃ ys, H2 l = some (.lst ys) ∧ ys.length < 100000 ∧ Q .non (upd H2 l (.lst (ys ++ [y]))))
    (hbase : ∀ env, attributeBase o "append" env (eval o env) = eval o env := by intro _; rfl)
    (hfew : ∀ env, ((backTo pos (starEach [e] env)).all (fun x => !x.1) && (backToKw pos (keywordEach [] env)).all (fun x => x.1.isSome)
      && decide (([e] : List Expr).length + ([] : List Keyword).length + (if ([] : List Keyword).isEmpty then 0 else 1) < 30)) = true := by intro _; rfl)
    (hline : (apos.endLine == pos.line) = true := by rfl) (hs : ∀ env, starEach [e] env = (false, eval e env) :: starEach [] env := by intro _; rfl) (hplain : ∀ env, (backTo pos (starEach [] env)).any (·.1) = false := by intro _; rfl) :
    RE c (.Call (.Attribute o "append" apos) [e] [] pos) σ H Q := by
  refine e_bm PySem.F.plainAttrs_list PySem.F.slot_list_append PySem.F.type_list_append (RE.mono (fun x H1 z => ?_) q) hbase hfew hline hs hplain
  obtain ⟨l, zs, rfl, hl, z⟩ := z
  refine ⟨Or.inl ⟨rfl, _, Or.inl (Or.inl hl)⟩, a_cons (RE.mono (fun y H2 z => a_nil ?_) z) hs⟩
  obtain ⟨ys, hl, hz, z⟩ := z
  exact rm_of (fun X h => mt_append) ⟨l, ys, y, rfl, rfl, hl, Nat.lt_of_lt_of_le hz (by decide), z⟩
theorem e_ext {o e : Expr} {apos : Pos} (q : RE c o σ H fun x H1 => ∃ l zs, x = .ref l ∧ H1 l = some (.lst zs) ∧ RE c e σ H1 fun y H2 => ∃ b ys ws, y = .ref b ∧ H2 l = some (.lst ys) ∧ H2 b = some (.lst ws) ∧ ys.length + ws.length ≤ 100000 ∧ Q .non (upd H2 l (.lst (ys ++ ws))))
    (hbase : ∀ env, attributeBase o "extend" env (eval o env) = eval o env := by intro _; rfl)
    (hfew : ∀ env, ((backTo pos (starEach [e] env)).all (fun x => !x.1) && (backToKw pos (keywordEach [] env)).all (fun x => x.1.isSome)
      && decide (([e] : List Expr).length + ([] : List Keyword).length + (if ([] : List Keyword).isEmpty then 0 else 1) < 30)) = true := by intro _; rfl)
    (hline : (apos.endLine == pos.line) = true := by rfl) (hs : ∀ env, starEach [e] env = (false, eval e env) :: starEach [] env := by intro _; rfl) (hplain : ∀ env, (backTo pos (starEach [] env)).any (·.1) = false := by intro _; rfl) :
    RE c (.Call (.Attribute o "extend" apos) [e] [] pos) σ H Q := by
  refine e_bm PySem.F.plainAttrs_list PySem.F.slot_list_extend PySem.F.type_list_extend (RE.mono (fun x H1 z => ?_) q) hbase hfew hline hs hplain
  obtain ⟨l, zs, rfl, hl, z⟩ := z
  refine ⟨Or.inl ⟨rfl, _, Or.inl (Or.inl hl)⟩, a_cons (RE.mono (fun y H2 z => a_nil ?_) z) hs⟩
  obtain ⟨b, ys, ws, rfl, hl, hb, hz, z⟩ := z
  exact rm_of (fun X h => mt_extend) ⟨l, b, ys, ws, rfl, rfl, hl, hb, Nat.le_trans hz (by decide), z⟩
theorem tupend {K : PySem.W.Frag} {H1 : Hp} {xs : List V} {ds : List PyData} {Q : VK} (h : DtAll K H1 xs ds) (hl : xs.length ≤ 1000) (q : ∀ v H2, Same H1 H2 → Dt K H2 v (.tuple ds) → Q v H2) : ∃ ds, DtAll K H1 xs ds ∧ xs.length ≤ 1000 ∧ ∀ v H2, Same H1 H2 → Dt K H2 v (.tuple ds) → Q v H2 := ⟨ds, h, hl, q⟩
/-- [a, b, ..] -/
theorem e_lstD {es : List Expr} (q : RA c es σ H fun xs H1 => xs.length ≤ 1000 ∧ ∀ p H2, Same H1 H2 → H1 p = none → H2 p = some (.lst xs) → Q (.ref p) H2) : RE c (.List es pos) σ H Q :=
  e_lst (RA.mono (fun xs H1 z => ⟨Nat.le_trans z.1 (by decide), fun p hp => z.2 p _ (same_new hp) hp upd_same⟩) q)
/-- tuple(xs) of a list -/
theorem rc_tupL {p : Addr} {ys : List V} {ds : List PyData} (hl : SqL c.K H p ys) (hd : DtAll c.K H ys ds) (q : ∀ v H2, Same H H2 → Dt c.K H2 v (.tuple ds) → Q v H2) : RC c (.type "tuple") [.ref p] H Q :=
  rc_of (r := fun xs H Q => ∃ p ys, xs = [.ref p] ∧ ((SqL c.K H p ys ∧ ∀ l, H l = none → Q (.ref l) (upd H l (.tup ys))) ∨ (SqT c.K H p ys ∧ Q (.ref p) H))) (fun X h => by rw [← h.K]; exact call_tuple_of) ⟨p, ys, rfl, .inl ⟨hl, fun l hn => q _ _ (same_new hn) (.tup (.of upd_same) (hd.mono (tp_same (same_new hn))))⟩⟩
/-- list(xs) -/
theorem rc_lstL {p : Addr} {ys : List V} (hl : SqL c.K H p ys) (q : ∀ l H2, Same H H2 → H l = none → H2 l = some (.lst ys) → Q (.ref l) H2) : RC c (.type "list") [.ref p] H Q :=
  rc_of (r := fun xs H Q => ∃ p ys, xs = [.ref p] ∧ (SqL c.K H p ys ∨ SqT c.K H p ys) ∧ ∀ l, H l = none → Q (.ref l) (upd H l (.lst ys))) (fun X h => by rw [← h.K]; exact call_list_of) ⟨p, ys, rfl, .inl hl, fun l hn => q _ _ (same_new hn) hn upd_same⟩
theorem rc_lstT {ds : List PyData} (hx : Dt c.K H x (.tuple ds)) (q : ∀ l ys H2, Same H H2 → H l = none → H2 l = some (.lst ys) → DtAll c.K H2 ys ds → Q (.ref l) H2) : RC c (.type "list") [x] H Q := by
  obtain ⟨a, ys, rfl, ht, hd⟩ := hx.tupE
  exact rc_of (r := fun xs H Q => ∃ p ys, xs = [.ref p] ∧ (SqL c.K H p ys ∨ SqT c.K H p ys) ∧ ∀ l, H l = none → Q (.ref l) (upd H l (.lst ys))) (fun X h => by rw [← h.K]; exact call_list_of) ⟨a, ys, rfl, .inr ht, fun l hn => q _ _ _ (same_new hn) hn upd_same (hd.mono (tp_same (same_new hn)))⟩
end
end G
namespace G
open PySem PySem.Spec PyProof.Rows L2
/-! ### xs[lo:hi:step] of a list: some of its items -/
theorem picked_vals {xs : List V} {its : List Value} (r : Vals xs its) : ∀ ix : List Nat, ∃ ys : List V, Vals ys (ix.filterMap (its.toArray[·]?)) ∧ ∀ y ∈ ys, y ∈ xs
  | [] => ⟨[], .nil, fun _ h => nomatch h⟩
  | i :: ix => by
    obtain ⟨ys, h1, h2⟩ := picked_vals r ix
    cases e : its.toArray[i]? with
    | none => exact ⟨ys, by rw [List.filterMap_cons, e]; exact h1, h2⟩
    | some u =>
      have e' : its[i]? = some u := by simpa using e
      cases ex : xs[i]? with
      | none =>
        have := r.none_of ex
        rw [e'] at this
        cases this
      | some x =>
        obtain ⟨u', hu, ru⟩ := r.get ex
        rw [e'] at hu
        cases hu
        refine ⟨x :: ys, by rw [List.filterMap_cons, e]; exact .cons ru h1, fun y hy => ?_⟩
        rcases List.mem_cons.mp hy with rfl | hy
        · exact List.mem_of_getElem? ex
        · exact h2 y hy
def tSlS (K : PySem.W.Frag) (te : TE) (tl th ts : TO) : TE := fun σ H Q => te σ H fun x H1 => tl σ H1 fun l H2 => th σ H2 fun u H3 => ts σ H3 fun st H4 => ∃ a xs, x = .ref a ∧ SqL K H4 a xs ∧ st ≠ some 0 ∧
  ∀ p ys, H4 p = none → (∀ y ∈ ys, y ∈ xs) → ys.length ≤ xs.length → Q (.ref p) (upd H4 p (.lst ys))
theorem pe_sliceS {X : Cx} {e st : Expr} {lo hi : Option Expr} {p2 pos : Pos} {te : TE} {tl th ts : TO} (he : PE X e te) (hl : PO X lo tl) (hu : PO X hi th) (hst : PO X (some st) ts) : PE X (.Subscript e (.Slice lo hi (some st) p2) pos) (tSlS X.K te tl th ts) := by
  constructor
  intro pins s σ H Q I h
  apply Subscript_ (thn (he.run pins s σ H _ I h) _)
  rintro v s1 ⟨x, H1, I1, r1, q1⟩
  refine wpAny_Slice (thn (hl.run pins s1 σ H1 _ I1 q1) fun vl s2 ⟨l, H2, I2, pl, q2⟩ => thn (hu.run pins s2 σ H2 _ I2 q2) fun vu s3 ⟨u, H3, I3, pu, q3⟩ => thn (hst.run pins s3 σ H3 _ I3 q3) fun vs s4 ⟨sv, H4, I4, ps, q4⟩ => ?_)
  obtain ⟨a, xs, rfl, hx, h0, q⟩ := q4
  cases r1
  have J5 : Inv X pins σ H4 { s4 with heap := s4.heap.push { cls := .type "slice", data := .fields #[vl, vu, vs] } } := I4.kept (t' := s4.toks) fun b ob q => Heap.get?_push_of_some _ q
  obtain ⟨its, r, ht, hz⟩ := (J5.list hx)
  have hlen := r.length
  show wpAny (model X.prog X.w) X.A (subscriptTail e (.Slice lo hi (some st) p2) (.ref a) (.ref s4.heap.objs.size)) (EP X pins σ Q) X.xe { s4 with heap := s4.heap.push { cls := .type "slice", data := .fields #[vl, vu, vs] } }
  refine tail_any (ops := [.ref a, .ref s4.heap.objs.size]) (id := "list.__getitem__") ht.isList.typeIs slot_list_getitem.lookup ?_ (by with_unfolding_all rfl)
  refine wpAny_getItem_list_slice ht.isList (Heap.IsSliceOf.new ..) pl pu ps h0 ?_ (by rw [List.size_toArray] <;> omega)
  obtain ⟨ys, y1, y2⟩ := picked_vals r (sliceRange (sliceBounds l u sv its.toArray.size).1 (sliceBounds l u sv its.toArray.size).2.1 (sliceBounds l u sv its.toArray.size).2.2)
  have y3 : ys.length ≤ xs.length := by
    rw [y1.length, hlen]
    have := slicePick_size_le its.toArray l u sv
    unfold slicePick at this
    rw [List.size_toArray, List.size_toArray] at this
    exact this
  refine ⟨.ref _, _, J5.laid (t' := s4.toks) (o := .lst ys) (fun b ob q => Heap.get?_push_of_some _ q) (Nat.le_refl _) ?_, rfl, q _ ys (J5.hok.fresh (Nat.le_refl _)) y2 y3⟩
  exact ⟨Nat.le_trans y3 hz, _, 0, y1, Heap.get?_push_size _ rfl⟩
section
variable {c : Cd} {σ : L2.St} {H : Hp} {Q : VK} {pos : Pos} {x y : V}
theorem e_sliceS {e st : Expr} {lo hi : Option Expr} {p2 : Pos} (q : RE c e σ H fun x H1 => RPo c lo σ H1 fun l H2 => RPo c hi σ H2 fun u H3 => RPo c (some st) σ H3 fun sv H4 => ∃ a xs, x = .ref a ∧ SqL c.K H4 a xs ∧ sv ≠ some 0 ∧
    ∀ p ys H5, Same H4 H5 → H4 p = none → H5 p = some (.lst ys) → (∀ y ∈ ys, y ∈ xs) → ys.length ≤ xs.length → Q (.ref p) H5) : RE c (.Subscript e (.Slice lo hi (some st) p2) pos) σ H Q := by
  refine re_of (t := tSlS c.K (RE c e) (RPo c lo) (RPo c hi) (RPo c (some st))) (fun X h => by rw [← h.K]; exact pe_sliceS (pe_re h) (po_rp h) (po_rp h) (po_rp h)) ?_
  refine RE.mono (fun x H1 z => ?_) q
  obtain ⟨⟨t1, Q1, h1, q1, w1⟩⟩ := z
  refine ⟨⟨t1, Q1, h1, q1, fun l H2 z => ?_⟩⟩
  obtain ⟨⟨t2, Q2, h2, q2, w2⟩⟩ := w1 _ _ z
  refine ⟨⟨t2, Q2, h2, q2, fun u H3 z => ?_⟩⟩
  obtain ⟨⟨t3, Q3, h3, q3, w3⟩⟩ := w2 _ _ z
  refine ⟨⟨t3, Q3, h3, q3, fun sv H4 z => ?_⟩⟩
  obtain ⟨a, xs, e1, e2, e3, k⟩ := w3 _ _ z
  exact ⟨a, xs, e1, e2, e3, fun p ys hp m l => k p ys _ (same_new hp) hp upd_same m l⟩
theorem rsl_list {a : Addr} {xs : List V} {lo hi : Option Int} (hx : SqL c.K H a xs) (q : ∀ p H2, Same H H2 → H p = none → H2 p = some (.lst (cutV xs lo hi)) → Q (.ref p) H2) : RSl c (.ref a) lo hi H Q :=
  rsl_of (r := rSlL c.K) (fun X h => by rw [← h.K]; exact sl_list) ⟨a, xs, rfl, hx, fun p hp => q _ _ (same_new hp) hp upd_same⟩
/-- xs + ys of lists -/
theorem ro_cat {a b : Addr} {xs ys : List V} (h1 : H a = some (.lst xs)) (h2 : H b = some (.lst ys)) (hl : xs.length + ys.length ≤ 100000) (q : ∀ p H2, Same H H2 → H p = none → H2 p = some (.lst (xs ++ ys)) → Q (.ref p) H2) : RO c .Add (.ref a) (.ref b) H Q :=
  ro_of (fun X h => op_cat) ⟨a, b, xs, ys, rfl, rfl, h1, h2, Nat.le_trans hl (by decide), fun p hp => q _ _ (same_new hp) hp upd_same⟩
/-- xs * n of a list -/
theorem ro_rep {a : Addr} {xs : List V} {k : Int} (h1 : H a = some (.lst xs)) (h2 : -1000 ≤ k ∧ k ≤ 1000) (hl : xs.length ≤ 1000) (q : ∀ p H2, Same H H2 → H p = none → H2 p = some (.lst (List.replicate k.toNat xs).flatten) → Q (.ref p) H2) : RO c .Mult (.ref a) (.int k) H Q := by
  refine ro_of (fun X h => op_rep) ⟨a, k, xs, rfl, rfl, h1, by omega, by omega, ?_, fun p hp => q _ _ (same_new hp) hp upd_same⟩
  have : xs.length * k.toNat ≤ 1000 * 1000 := Nat.mul_le_mul hl (by omega)
  exact Nat.le_trans this (by decide)
end
end G

namespace G
open PySem PySem.Spec PyProof.Rows L2
theorem same_none {H H1 : Hp} (s : Same H H1) {l : Addr} (h : H1 l = none) : H l = none := by
  cases e : H l with
  | none => rfl
  | some o => rw [s _ _ e] at h; cases h
theorem ift {A B : Prop} (a : A) : if true = true then A else B := a
theorem ne_feed {K : PySem.W.Frag} {H H1 : Hp} {fd cl l : Addr} {fn : Nat} (h : Feed K H fd cl fn) (g : Same H H1) (n : H1 l = none) : l ≠ fd := by
  rintro rfl
  obtain ⟨ns, b, d, e, h1, _⟩ := h
  rw [g _ _ h1] at n
  cases n
theorem ne_cl {K : PySem.W.Frag} {H H1 : Hp} {fd cl l : Addr} {fn : Nat} (h : Feed K H fd cl fn) (g : Same H H1) (n : H1 l = none) : l ≠ cl := by
  rintro rfl
  obtain ⟨ns, b, d, e, _, h1, _⟩ := h
  rw [g _ _ h1] at n
  cases n
theorem fresh_ne {H H1 : Hp} {a l : Addr} {o : HO} (h : H a = some o) (g : Same H H1) (n : H1 l = none) : l ≠ a := by
  rintro rfl
  rw [g _ _ h] at n
  cases n
section
variable {c : Cd} {σ : L2.St} {H : Hp} {Q : VK} {pos : Pos} {x y : V}
/-- t + u of data -/
theorem ro_catT {ds es : List PyData} (h1 : Dt c.K H x (.tuple ds)) (h2 : Dt c.K H y (.tuple es)) (hl : ds.length + es.length ≤ 100000) (q : ∀ v H2, Same H H2 → Dt c.K H2 v (.tuple (ds ++ es)) → Q v H2) : RO c .Add x y H Q := by
  obtain ⟨a, xs, rfl, t1, d1⟩ := h1.tupE
  obtain ⟨b, ys, rfl, t2, d2⟩ := h2.tupE
  have l1 := d1.len
  have l2 := d2.len
  refine ro_of (r := rCatA c.K) (fun X h => by rw [← h.K]; exact op_catA) ⟨a, b, xs, ys, rfl, rfl, t1, t2, Nat.le_trans (by omega : xs.length + ys.length ≤ 100000) (by decide), ?_, ?_, ?_⟩
  · rintro rfl
    cases d1
    exact q _ _ (Same.refl _) h2
  · rintro _ rfl
    cases d2
    rw [List.append_nil] at q
    exact q _ _ (Same.refl _) h1
  · intro _ _ p hp
    exact q _ _ (same_new hp) (.tup (.of upd_same) ((d1.app d2).mono (tp_same (same_new hp))))
/-- a def that answers with a new list of data -/
def spL (R : List PyData → List PyData → Prop) (K : PySem.W.Frag) : Sp := fun vs H Q _ => ∃ ds es, DtAll K H vs ds ∧ R ds es ∧ ∀ l us H', Same H H' → H l = none → H' l = some (.lst us) → DtAll K H' us es → Q (.ref l) H'
theorem e_callL {x : Str} {p : Pos} {e : Expr} {es : List Expr} {ps : List Str} {k : Nat} {R : List PyData → List PyData → Prop} (D : Dc c.toMd x ps k (spL R c.K)) (q : RA c (e :: es) σ H fun vs H1 => ∃ ds es, DtAll c.K H1 vs ds ∧ R ds es ∧ ∀ l us H', Same H1 H' → H1 l = none → H' l = some (.lst us) → DtAll c.K H' us es → Q (.ref l) H') (hk : k ≤ c.k := by exact Nat.le_of_ble_eq_true rfl) (hg : c.sc.names.lookup x = some .globalImplicit := by rfl)
    (hdb : (x == ("__debug__" : Str)) = false := by decide) (he : ∀ env, starEach (e :: es) env = (false, eval e env) :: starEach es env := by intro _; rfl) (hpl : ∀ env, (backTo pos (starEach es env)).any (·.1) = false := by intro _; rfl) :
    RE c (.Call (.Name x p) (e :: es) [] pos) σ H Q := e_call D q hk hg hdb he hpl
/-- a def that is given a list of data (and data behind it) and answers with a new list of data -/
def spLL (R : List PyData → List PyData → List PyData → Prop) (K : PySem.W.Frag) : Sp := fun vs H Q _ => ∃ a xs rest ds cs es, vs = .ref a :: rest ∧ SqL K H a xs ∧ DtAll K H xs ds ∧ DtAll K H rest cs ∧ R ds cs es ∧ ∀ l us H', Same H H' → H l = none → H' l = some (.lst us) → DtAll K H' us es → Q (.ref l) H'
theorem rx_pick {p : Addr} {xs : List V} {ds : List PyData} {i : Int} (hx : SqL c.K H p xs) (hd : DtAll c.K H xs ds) (h0 : 0 ≤ i) (h1 : i < ds.length) (q : ∀ v d, ds[i.toNat]? = some d → Dt c.K H v d → Q v H) : RX c (.ref p) (.int i) H Q := by
  have hlt : i.toNat < ds.length := by omega
  obtain ⟨v, hv, h⟩ := hd.get (List.getElem?_eq_getElem hlt)
  exact rx_list hx (pl_at (j := i.toNat) (by omega) hv) (q v _ (List.getElem?_eq_getElem hlt) h)
theorem rx_pickT {ds : List PyData} {i : Int} (hx : Dt c.K H x (.tuple ds)) (h0 : 0 ≤ i) (h1 : i < ds.length) (q : ∀ v d, ds[i.toNat]? = some d → Dt c.K H v d → Q v H) : RX c x (.int i) H Q := by
  have hlt : i.toNat < ds.length := by omega
  exact rx_tup hx (pl_at (j := i.toNat) (by omega) (List.getElem?_eq_getElem hlt)) fun v h => q v _ (List.getElem?_eq_getElem hlt) h
/-- a drawing call -/
theorem e_callD {x : Str} {p : Pos} {e : Expr} {es : List Expr} {ps : List Str} {k : Nat} {w : Nat} {Pre : List PyData → Prop} {R : List PyData → PyData → Prop} (D : Dc c.toMd x ps k (spD w Pre R c.K)) (q : RA c (e :: es) σ H fun vs H1 => ∃ fd cl rest ds n, vs = .ref fd :: rest ∧ Feed c.K H1 fd cl n ∧ n + w ≤ 1000000 ∧ DtAll c.K H1 rest ds ∧ Pre ds ∧ ∀ d v H', R ds d → Kp fd H1 H' → Feed c.K H' fd cl (n + w) → Dt c.K H' v d → Q v H') (hk : k ≤ c.k := by exact Nat.le_of_ble_eq_true rfl) (hg : c.sc.names.lookup x = some .globalImplicit := by rfl)
    (hdb : (x == ("__debug__" : Str)) = false := by decide) (he : ∀ env, starEach (e :: es) env = (false, eval e env) :: starEach es env := by intro _; rfl) (hpl : ∀ env, (backTo pos (starEach es env)).any (·.1) = false := by intro _; rfl) :
    RE c (.Call (.Name x p) (e :: es) [] pos) σ H Q := e_call D q hk hg hdb he hpl

section
variable {elt tg iter : Expr} {ifs : List Expr} {scope : Scope} {vs : List Nat}
theorem rng_step {g : Int → Option PyData} {i : Int} (t : Nat) : (List.range t).filterMap (fun t : Nat => g (i + (t : Int))) ++ (g (i + (t : Int))).toList = (List.range (t + 1)).filterMap (fun t : Nat => g (i + (t : Int))) := by
  rw [List.range_succ, List.filterMap_append]
  congr 1
theorem lcR2_F (g : Int → Option PyData) {a b : Expr} {p ppos : Pos} (hm : c.mg "range" = none) (q : RE c a σ H fun x H1 => RE c b σ H1 fun y H2 => ∃ i j : Int, x = .int i ∧ y = .int j ∧ (-1000 ≤ i ∧ i ≤ 1000) ∧ (-1000 ≤ j ∧ j ≤ 1000) ∧ (∀ (t : Nat) H', t < (j - i).toNat → Same H2 H' → TurnF (blkCd c scope) tg ifs elt vs σ c.K (.int (i + t)) H' (g (i + t))) ∧
      ∀ p us H3, Same H2 H3 → H2 p = none → H3 p = some (.lst us) → DtAll c.K H3 us ((List.range (j - i).toNat).filterMap fun t : Nat => g (i + (t : Int))) → Q (.ref p) H3)
    (hg : c.sc.names.lookup ("range" : Str) = some .globalImplicit := by rfl) (hs : ∀ env, starEach [a, b] env = [(false, eval a env), (false, eval b env)] := by intro _; rfl) (hs2 : ∀ env, starEach [b] env = [(false, eval b env)] := by intro _; rfl) :
    tLc (RI c tg (.Call (.Name "range" p) [a, b] [] ppos)) (RG (blkCd c scope) tg) (RTs (blkCd c scope) ifs) (RE (blkCd c scope) elt) vs σ H Q := by
  refine lc_R2 hm (RE.mono (fun x H1 z => RE.mono (fun y H2 z => ?_) z) q) hg hs hs2
  obtain ⟨i, j, rfl, rfl, h1, h2, tn, k⟩ := z
  refine ⟨i, j, rfl, rfl, h1, h2, fun D hD => ⟨fun t acc H' => acc.length ≤ t ∧ H' D = some (.lst acc) ∧ Same H2 H' ∧ DtAll c.K H' acc ((List.range t).filterMap fun t : Nat => g (i + (t : Int))), ⟨Nat.le_refl _, upd_same, same_new hD, .nil⟩, fun _ _ _ h => h.1, ?_, ?_⟩⟩
  · rintro t acc H' ht ⟨l, h1, s, h2⟩
    have T := TurnF.one hD s h1 h2 (tn t H' ht s)
    refine RG.mono (fun σ2 H2 z => ⟨z.1, RTs.mono (fun b H3 z => ?_) z.2⟩) T
    cases b with
    | true => exact RE.mono (fun y H4 z => ⟨z.1, by rw [List.length_append, List.length_singleton]; omega, z.2.1, z.2.2.1, by rw [← rng_step]; exact z.2.2.2⟩) z
    | false => exact ⟨by omega, z.1, z.2.1, by rw [← rng_step]; exact z.2.2⟩
  · rintro acc H' ⟨l, h1, s, h2⟩
    exact k D acc H' s hD h1 h2
theorem lcR1_F (g : Int → Option PyData) {a : Expr} {p ppos : Pos} (hm : c.mg "range" = none) (q : RE c a σ H fun y H2 => ∃ j : Int, y = .int j ∧ (-1000 ≤ j ∧ j ≤ 1000) ∧ (∀ (t : Nat) H', t < j.toNat → Same H2 H' → TurnF (blkCd c scope) tg ifs elt vs σ c.K (.int t) H' (g t)) ∧
      ∀ p us H3, Same H2 H3 → H2 p = none → H3 p = some (.lst us) → DtAll c.K H3 us ((List.range j.toNat).filterMap fun t : Nat => g (t : Int)) → Q (.ref p) H3)
    (hg : c.sc.names.lookup ("range" : Str) = some .globalImplicit := by rfl) (hs : ∀ env, starEach [a] env = [(false, eval a env)] := by intro _; rfl) :
    tLc (RI c tg (.Call (.Name "range" p) [a] [] ppos)) (RG (blkCd c scope) tg) (RTs (blkCd c scope) ifs) (RE (blkCd c scope) elt) vs σ H Q := by
  refine lc_R1 hm (RE.mono (fun y H2 z => ?_) q) hg hs
  obtain ⟨j, rfl, h2, tn, k⟩ := z
  refine ⟨j, rfl, h2, fun D hD => ⟨fun t acc H' => acc.length ≤ t ∧ H' D = some (.lst acc) ∧ Same H2 H' ∧ DtAll c.K H' acc ((List.range t).filterMap fun t : Nat => g (t : Int)), ⟨Nat.le_refl _, upd_same, same_new hD, .nil⟩, fun _ _ _ h => h.1, ?_, ?_⟩⟩
  · rintro t acc H' ht ⟨l, h1, s, h2⟩
    have T := TurnF.one hD s h1 h2 (tn t H' ht s)
    have e := rng_step (g := g) (i := 0) t
    simp only [Int.zero_add] at e
    refine RG.mono (fun σ2 H2 z => ⟨z.1, RTs.mono (fun b H3 z => ?_) z.2⟩) T
    cases b with
    | true => exact RE.mono (fun y H4 z => ⟨z.1, by rw [List.length_append, List.length_singleton]; omega, z.2.1, z.2.2.1, by rw [← e]; exact z.2.2.2⟩) z
    | false => exact ⟨by omega, z.1, z.2.1, by rw [← e]; exact z.2.2⟩
  · rintro acc H' ⟨l, h1, s, h2⟩
    exact k D acc H' s hD h1 h2
end
end
end G

namespace G
open PySem PySem.Spec PyProof.Rows L2
def isStar : Expr → Bool
  | .Starred .. => true
  | _ => false
theorem any_star (vs : List Expr) : (vs.any fun | .Starred .. => true | _ => false) = vs.any isStar := by
  congr 1
theorem sw2 {x y : Str} {px py pt : Pos} {kt k2 pt2} {a b : Expr} {env : Env} (hk : env.scope.kind = .function) (hx : env.scope.names.lookup x = some .local) (hy : env.scope.names.lookup y = some .local) (hxy : [x, y].eraseDups.length = 2) (hl : (py.line == px.line) = true)
    (h1 : [a, b].any isStar = false) (h2 : [a, b].all (foldedForSure 8) = false) (h3 : [a, b].all (constantsAlone 8) = false) :
    swappedStores [.Tuple [.Name x px, .Name y py] kt pt] (.Tuple [a, b] k2 pt2) env = pure (some [x, y]) := by
  have kx : env.kindOf x = some .local := hx
  have ky : env.kindOf y = some .local := hy
  have hb : env.blockKind = .function := by unfold Env.blockKind; rw [hk]; rfl
  have hn : ([Expr.Name x px, Expr.Name y py].filterMap fun
    | .Name id pos => if env.kindOf id == some .local && pos.line == px.line then some id else none
    | _ => none) = [x, y] := by
    simp only [List.filterMap_cons, List.filterMap_nil, kx, ky, hl, beq_self_eq_true, Bool.and_self, if_true]
  unfold swappedStores
  simp only [hb]
  show (if _ = true then _ else if ([a, b].any fun | .Starred .. => true | _ => false) = true then _ else _) = _
  rw [any_star, h1]
  generalize hz : List.filterMap _ [Expr.Name x px, Expr.Name y py] = z
  have hz' : z = [x, y] := by rw [← hz]; exact hn
  subst hz'
  rw [if_neg (by show ¬ (false = true); decide), if_neg (by decide), if_neg (by rw [hxy]; show ¬ (false = true); decide), h2, if_neg (by decide), h3, if_neg (by decide)]
theorem sw3 {x y z : Str} {px py pz pt : Pos} {kt k2 pt2} {a b d : Expr} {env : Env} (hk : env.scope.kind = .function) (hx : env.scope.names.lookup x = some .local) (hy : env.scope.names.lookup y = some .local) (hz0 : env.scope.names.lookup z = some .local) (hxy : [x, y, z].eraseDups.length = 3) (hl : (py.line == px.line) = true) (hl2 : (pz.line == px.line) = true)
    (h1 : [a, b, d].any isStar = false) (h2 : [a, b, d].all (foldedForSure 8) = false) (h3 : [a, b, d].all (constantsAlone 8) = false) :
    swappedStores [.Tuple [.Name x px, .Name y py, .Name z pz] kt pt] (.Tuple [a, b, d] k2 pt2) env = pure (some [x, y, z]) := by
  have kx : env.kindOf x = some .local := hx
  have ky : env.kindOf y = some .local := hy
  have kz : env.kindOf z = some .local := hz0
  have hb : env.blockKind = .function := by unfold Env.blockKind; rw [hk]; rfl
  have hn : ([Expr.Name x px, Expr.Name y py, Expr.Name z pz].filterMap fun
    | .Name id pos => if env.kindOf id == some .local && pos.line == px.line then some id else none
    | _ => none) = [x, y, z] := by
    simp only [List.filterMap_cons, List.filterMap_nil, kx, ky, kz, hl, hl2, beq_self_eq_true, Bool.and_self, if_true]
  unfold swappedStores
  simp only [hb]
  show (if _ = true then _ else if ([a, b, d].any fun | .Starred .. => true | _ => false) = true then _ else _) = _
  rw [any_star, h1]
  generalize hz : List.filterMap _ [Expr.Name x px, Expr.Name y py, Expr.Name z pz] = w
  have hz' : w = [x, y, z] := by rw [← hz]; exact hn
  subst hz'
  rw [if_neg (by show ¬ (false = true); decide), if_neg (by decide), if_neg (by rw [hxy]; show ¬ (false = true); decide), h2, if_neg (by decide), h3, if_neg (by decide)]
section
variable {c : Cd} {σ : L2.St} {H : Hp} {D : Ends} {pos : Pos}
theorem s_par2 {i j : Nat} {x y : Str} {a b : Expr} {px py pt : Pos} {kt k2 pt2} (hi : At c.N i x) (hj : At c.N j y) (q : RE c a σ H fun v H1 => RE c b σ H1 fun w H2 => D.nx ((σ.set i (some v)).set j (some w)) H2) (hij : i ≠ j := by decide)
    (hx : c.sc.names.lookup x = some .local := by rfl) (hy : c.sc.names.lookup y = some .local := by rfl) (hk : c.sc.kind = .function := by rfl) (hxy : [x, y].eraseDups.length = 2 := by decide +kernel) (hl : (py.line == px.line) = true := by rfl)
    (e1 : [a, b].any isStar = false := by rfl) (e2 : [a, b].all (foldedForSure 8) = false := by rfl) (e3 : [a, b].all (constantsAlone 8) = false := by rfl)
    (hs : ∀ env, swapsWithSole [.Tuple [.Name x px, .Name y py] kt pt] (.Tuple [a, b] k2 pt2) pos.line env = pure false := by intro _; rfl)
    (h1 : ∀ env, starEach [a, b] env = (false, eval a env) :: starEach [b] env := by intro _; rfl) (h2 : ∀ env, starEach [b] env = (false, eval b env) :: starEach [] env := by intro _; rfl) :
    RS c (.Assign [.Tuple [.Name x px, .Name y py] kt pt] (.Tuple [a, b] k2 pt2) pos) D σ H :=
  s_par hi hj q hij hx hy (fun env he => sw2 (by rw [he]; exact hk) (by rw [he]; exact hx) (by rw [he]; exact hy) hxy hl e1 e2 e3) hs h1 h2
theorem s_par3 {i j l : Nat} {x y z : Str} {a b d : Expr} {px py pz pt : Pos} {kt k2 pt2} (hi : At c.N i x) (hj : At c.N j y) (hl0 : At c.N l z) (q : RE c a σ H fun v H1 => RE c b σ H1 fun w H2 => RE c d σ H2 fun u H3 => D.nx (((σ.set i (some v)).set j (some w)).set l (some u)) H3) (hij : i ≠ j := by decide) (hil : i ≠ l := by decide) (hjl : j ≠ l := by decide)
    (hx : c.sc.names.lookup x = some .local := by rfl) (hy : c.sc.names.lookup y = some .local := by rfl) (hz : c.sc.names.lookup z = some .local := by rfl) (hk : c.sc.kind = .function := by rfl) (hxy : [x, y, z].eraseDups.length = 3 := by decide +kernel) (hl : (py.line == px.line) = true := by rfl) (hl2 : (pz.line == px.line) = true := by rfl)
    (e1 : [a, b, d].any isStar = false := by rfl) (e2 : [a, b, d].all (foldedForSure 8) = false := by rfl) (e3 : [a, b, d].all (constantsAlone 8) = false := by rfl)
    (hs : ∀ env, swapsWithSole [.Tuple [.Name x px, .Name y py, .Name z pz] kt pt] (.Tuple [a, b, d] k2 pt2) pos.line env = pure false := by intro _; rfl)
    (h0 : ∀ env, starEach [a, b, d] env = (false, eval a env) :: starEach [b, d] env := by intro _; rfl) (h1 : ∀ env, starEach [b, d] env = (false, eval b env) :: starEach [d] env := by intro _; rfl) (h2 : ∀ env, starEach [d] env = (false, eval d env) :: starEach [] env := by intro _; rfl) :
    RS c (.Assign [.Tuple [.Name x px, .Name y py, .Name z pz] kt pt] (.Tuple [a, b, d] k2 pt2) pos) D σ H := by
  refine rs_of (t := tPar3 i j l (RA c [a, b, d])) (fun X h => ps_par3 h.calm (by rw [h.N]; exact h.nd) (by rw [h.N]; exact hi.get) (by rw [h.N]; exact hj.get) (by rw [h.N]; exact hl0.get) hij hil hjl (by rw [h.sc]; exact hx) (by rw [h.sc]; exact hy) (by rw [h.sc]; exact hz) (pa_ra h) (sw3 (by rw [h.sc]; exact hk) (by rw [h.sc]; exact hx) (by rw [h.sc]; exact hy) (by rw [h.sc]; exact hz) hxy hl hl2 e1 e2 e3) (hs _)) ?_
  exact a_cons (RE.mono (fun v H1 z => a_cons (RE.mono (fun w H2 z => a_cons (RE.mono (fun u H3 z => a_nil ⟨v, w, u, rfl, z⟩) z) h2) z) h1) q) h0
theorem e_bo1 {Q : VK} {op : BoolOp} {a : Expr} (q : RE c a σ H Q) : RE c (.BoolOp op [a] pos) σ H Q := re_of (fun X h => pe_one (pe_re h)) q
theorem e_disp {Q : VK} {keys : List (Option Expr)} {values : List Expr} {trs : List (TE × TE)} (hp : ∀ X, Is c X → PPs X pos keys values trs) (hall : keys.all (·.isSome) = true) (hl : keys.length = values.length) (h0 : keys ≠ []) (h15 : keys.length ≤ 15) (q : tDisp trs σ H Q) : RE c (.Dict keys values pos) σ H Q :=
  re_of (fun X h => pe_disp (hp X h) hall hl h0 h15) q
theorem e_dnew {Q : VK} (q : ∀ p, H p = none → Q (.ref p) (upd H p (.dK []))) : RE c (.Dict [] [] pos) σ H Q := re_of (fun X h => pe_dnewK) q
theorem kp_none {fp l : Addr} {H H1 : Hp} (k : Kp fp H H1) (h : H1 l = none) (n : l ≠ fp) : H l = none := by
  cases e : H l with
  | none => rfl
  | some o => rw [k.k _ _ n e] at h; cases h
theorem ty_tup {K : PySem.W.Frag} {a : Addr} {xs : List V} (h : SqT K H a xs) : TyX K H (.ref a) (.type "tuple") := by
  rcases h with (h | ⟨o, h⟩) | ⟨o, its, n, h1, h2, _⟩
  · exact .base (.tup h)
  · exact .fTuple h
  · exact .kTuple h1 h2
theorem rc_isi {Q : VK} {x : V} {t T : String} {b : Bool} (ty : TyX c.K H x (.type t)) (e : PySem.W.kitOne c.K (.type t) (.type T) = some b) (q : Q (.bl b) H) : RC c (.builtin "isinstance") [x, .ty T] H Q :=
  rc_of (r := rIsi c.K) (fun X h => by rw [← h.K]; exact call_isi) ⟨x, _, _, _, b, rfl, .ty T, ty, e, q⟩
/-- a def with defaults -/
structure DcV (c : Md) (x : Str) (ps : List Str) (dvs : List V) (k : Nat) (sp : Sp) : Prop where
  ex : ∃ (f : Addr) (fd : FuncData) (ds : List Value), FnG c.prog c.w c.K c.mg c.base noX k f fd ps sp ∧ c.mg x = some (.ref f) ∧ PySem.W.keepIn c.K (.ref f) = true ∧ Binds c.K fd ps ds ∧ Vals dvs ds
theorem e_callV {Q : VK} {x : Str} {p : Pos} {e : Expr} {es : List Expr} {ps : List Str} {dvs : List V} {k : Nat} {sp : Sp} (D : DcV c.toMd x ps dvs k sp) (q : RA c (e :: es) σ H fun vs H1 => sp (vs ++ dvs) H1 Q fun _ _ _ => False) (hk : k ≤ c.k := by exact Nat.le_of_ble_eq_true rfl) (hg : c.sc.names.lookup x = some .globalImplicit := by rfl)
    (hdb : (x == ("__debug__" : Str)) = false := by decide) (he : ∀ env, starEach (e :: es) env = (false, eval e env) :: starEach es env := by intro _; rfl) (hpl : ∀ env, (backTo pos (starEach es env)).any (·.1) = false := by intro _; rfl) :
    RE c (.Call (.Name x p) (e :: es) [] pos) σ H Q := by
  obtain ⟨f, fd, ds, F, hm, hkp, hb, hv⟩ := D.ex
  refine re_of (t := tCall sp dvs (fun _ _ _ => False) (RA c (e :: es))) (fun X h => ?_) q
  refine pe_call (CX := fun _ _ _ _ _ _ => False) (k := k) (f := f) (fd := fd) (ps := ps) (ds := ds) ?_ (h.room.mono hk) (gl_of h hg) (by rw [h.mg]; exact hm) (by rw [h.K]; exact hkp) (by rw [h.K]; exact hb) hv (fun _ _ _ _ _ _ _ z => z.elim) (pa_ra h) hdb (he _) (hpl _)
  rw [h.prog, h.w, h.K, h.mg, h.base]; exact F
/-- x, y = e with a pair of data -/
theorem g_unp2 {R : L2.St → Hp → Prop} {i j : Nat} {x y : Str} {px py pt : Pos} {kt : Nat} {v : V} {d1 d2 : PyData} (hi : At c.N i x) (hj : At c.N j y) (hv : Dt c.K H v (.tuple [d1, d2])) (q : ∀ v1 v2, Dt c.K H v1 d1 → Dt c.K H v2 d2 → R ((σ.set i (some v1)).set j (some v2)) H)
    (hx : c.sc.names.lookup x = some .local ∨ (c.sc.names.lookup x = some .cell ∧ c.top = true) := by first | exact Or.inl rfl | exact Or.inr ⟨rfl, rfl⟩) (hy : c.sc.names.lookup y = some .local ∨ (c.sc.names.lookup y = some .cell ∧ c.top = true) := by first | exact Or.inl rfl | exact Or.inr ⟨rfl, rfl⟩)
    (hst : ∀ env, (assignEach [.Name x px, .Name y py] env).findIdx? (·.1) = none := by intro _; rfl) : RG c (.Tuple [.Name x px, .Name y py] kt pt) v σ H R := by
  obtain ⟨a, xs, rfl, ht, hd⟩ := hv.tupE
  obtain _ | ⟨h1, hd⟩ := hd
  obtain _ | ⟨h2, hd⟩ := hd
  cases hd
  exact g_tup ht (gs_cons (g_name hi (gs_cons (g_name hj (gs_nil (q _ _ h1 h2)) hy)) hx)) rfl (fun _ => rfl) hst
theorem g_unp3 {R : L2.St → Hp → Prop} {i j l : Nat} {x y z : Str} {px py pz pt : Pos} {kt : Nat} {v : V} {d1 d2 d3 : PyData} (hi : At c.N i x) (hj : At c.N j y) (hl : At c.N l z) (hv : Dt c.K H v (.tuple [d1, d2, d3])) (q : ∀ v1 v2 v3, Dt c.K H v1 d1 → Dt c.K H v2 d2 → Dt c.K H v3 d3 → R (((σ.set i (some v1)).set j (some v2)).set l (some v3)) H)
    (hx : c.sc.names.lookup x = some .local ∨ (c.sc.names.lookup x = some .cell ∧ c.top = true) := by first | exact Or.inl rfl | exact Or.inr ⟨rfl, rfl⟩) (hy : c.sc.names.lookup y = some .local ∨ (c.sc.names.lookup y = some .cell ∧ c.top = true) := by first | exact Or.inl rfl | exact Or.inr ⟨rfl, rfl⟩) (hz : c.sc.names.lookup z = some .local ∨ (c.sc.names.lookup z = some .cell ∧ c.top = true) := by first | exact Or.inl rfl | exact Or.inr ⟨rfl, rfl⟩)
    (hst : ∀ env, (assignEach [.Name x px, .Name y py, .Name z pz] env).findIdx? (·.1) = none := by intro _; rfl) : RG c (.Tuple [.Name x px, .Name y py, .Name z pz] kt pt) v σ H R := by
  obtain ⟨a, xs, rfl, ht, hd⟩ := hv.tupE
  obtain _ | ⟨h1, hd⟩ := hd
  obtain _ | ⟨h2, hd⟩ := hd
  obtain _ | ⟨h3, hd⟩ := hd
  cases hd
  exact g_tup ht (gs_cons (g_name hi (gs_cons (g_name hj (gs_cons (g_name hl (gs_nil (q _ _ _ h1 h2 h3)) hz)) hy)) hx)) rfl (fun _ => rfl) hst
end
end G

namespace G
open PySem PySem.Spec PyProof.Rows L2
/-- a tuple's object as the built-in makes it -/
def BareT (ob : Obj) : Prop := ob.cls = .type "tuple" ∧ ob.dict = none
/-- none, or a tuple of data whose object is known to be bare -/
def Fz (K : PySem.W.Frag) (H : Hp) (v : V) (d : PyData) : Prop := (v = .non ∧ d = .none) ∨ ∃ a ob us ds, v = .ref a ∧ d = .tuple ds ∧ H a = some (.frz ob (.tup us)) ∧ BareT ob ∧ DtAll K H us ds
theorem Fz.mono {K : PySem.W.Frag} {H H' : Hp} {v : V} {d : PyData} (e : Tp H H') (h : Fz K H v d) : Fz K H' v d := by
  rcases h with h | ⟨a, ob, us, ds, h1, h2, h3, h4, h5⟩
  · exact .inl h
  · exact .inr ⟨a, ob, us, ds, h1, h2, e.f _ _ _ h3, h4, h5.mono e⟩
theorem Fz.dt {K : PySem.W.Frag} {H : Hp} {v : V} {d : PyData} (h : Fz K H v d) : Dt K H v d := by
  rcases h with ⟨rfl, rfl⟩ | ⟨a, ob, us, ds, rfl, rfl, h3, h4, h5⟩
  · exact .non
  · exact .tup (.inl (.inr ⟨ob, h3⟩)) h5
theorem Fz.tup {K : PySem.W.Frag} {H : Hp} {v : V} {ds : List PyData} (h : Fz K H v (.tuple ds)) : ∃ a ob us, v = .ref a ∧ H a = some (.frz ob (.tup us)) ∧ BareT ob ∧ DtAll K H us ds := by
  rcases h with ⟨_, h⟩ | ⟨a, ob, us, es, h1, h2, h3⟩
  · cases h
  · cases h2
    exact ⟨a, ob, us, h1, h3⟩
section
variable {X : Cx}
theorem cr_tupF : CallR X (.type "tuple") (fun vs H Q => ∃ l zs, vs = [.ref l] ∧ SqL X.K H l zs ∧ ∀ t ob, H t = none → BareT ob → Q (.ref t) (upd H t (.frz ob (.tup zs)))) := by
  rintro pins s σ H vs us Q I rv ⟨l, zs, rfl, hl, k⟩
  obtain ⟨w, rfl, rw0⟩ := vals1 rv
  cases rw0
  obtain ⟨ws, rz, plain, short⟩ := I.list hl
  have same := rz.length
  refine call_tuple_list plain.isList (fun hp kept => ?_) (by rw [List.size_toArray] <;> omega)
  have J : Inv X pins σ H { s with heap := hp } := I.kept (t' := s.toks) kept
  refine ⟨.ref hp.objs.size, _, J.laid (o := .frz { cls := .type "tuple", data := .seq ws.toArray } (.tup zs)) (t' := s.toks) (h' := hp.push { cls := .type "tuple", data := .seq ws.toArray }) (fun b o e => Heap.get?_push_of_some _ e) (Nat.le_refl _) ?_, rfl, k _ _ (J.hok.fresh (Nat.le_refl _)) ⟨rfl, rfl⟩⟩
  exact ⟨Heap.get?_push_size _ rfl, short, ws, rz, IsTup.new _ _⟩
end
section
variable {c : Cd} {σ : L2.St} {H : Hp} {Q : VK} {pos : Pos}
theorem rc_tupF {l : Addr} {ys : List V} {ds : List PyData} (hl : SqL c.K H l ys) (hd : DtAll c.K H ys ds) (q : ∀ v H2, Same H H2 → Dt c.K H2 v (.tuple ds) → Fz c.K H2 v (.tuple ds) → Q v H2) : RC c (.type "tuple") [.ref l] H Q :=
  rc_of (r := fun vs H Q => ∃ l zs, vs = [.ref l] ∧ SqL c.K H l zs ∧ ∀ t ob, H t = none → BareT ob → Q (.ref t) (upd H t (.frz ob (.tup zs)))) (fun X h => by rw [← h.K]; exact cr_tupF) ⟨l, ys, rfl, hl, fun t ob hn hb => q _ _ (same_new hn) (.tup (.inl (.inr ⟨ob, upd_same⟩)) (hd.mono (tp_same (same_new hn)))) (.inr ⟨t, ob, ys, ds, rfl, rfl, upd_same, hb, hd.mono (tp_same (same_new hn))⟩)⟩
/-- a def that changes nothing and answers with none or a bare tuple -/
def spZ (R : List PyData → PyData → Prop) (K : PySem.W.Frag) : Sp := fun vs H Q _ => ∃ ds d, DtAll K H vs ds ∧ R ds d ∧ ∀ v H', Same H H' → Dt K H' v d → Fz K H' v d → Q v H'
theorem e_callZ {x : Str} {p : Pos} {e : Expr} {es : List Expr} {ps : List Str} {k : Nat} {R : List PyData → PyData → Prop} (D : Dc c.toMd x ps k (spZ R c.K)) (q : RA c (e :: es) σ H fun vs H1 => ∃ ds d, DtAll c.K H1 vs ds ∧ R ds d ∧ ∀ v H', Same H1 H' → Dt c.K H' v d → Fz c.K H' v d → Q v H') (hk : k ≤ c.k := by exact Nat.le_of_ble_eq_true rfl) (hg : c.sc.names.lookup x = some .globalImplicit := by rfl)
    (hdb : (x == ("__debug__" : Str)) = false := by decide) (he : ∀ env, starEach (e :: es) env = (false, eval e env) :: starEach es env := by intro _; rfl) (hpl : ∀ env, (backTo pos (starEach es env)).any (·.1) = false := by intro _; rfl) :
    RE c (.Call (.Name x p) (e :: es) [] pos) σ H Q := e_call D q hk hg hdb he hpl
end
end G

open PySem L2 G
local macro_rules | `(tactic| tm_at "at") => `(tactic| (first | with_reducible exact At.z | (with_reducible apply At.s; tm_at "at")))
local macro_rules | `(tactic| tm_at "tp") => `(tactic| (first
  | exact Tp.refl _
  | assumption
  | exact tp_same (by assumption)
  | exact Kp.t (by assumption)
  | (refine Tp.trans ?_ (tp_same (by assumption)); tm_at "tp")
  | (refine Tp.trans ?_ (Kp.t (by assumption)); tm_at "tp")
  | (refine Tp.trans ?_ (tp_same (same_new (by assumption))); tm_at "tp")))
local macro_rules | `(tactic| tm_at "same") => `(tactic| (first
  | exact Same.refl _
  | assumption
  | (refine Same.trans ?_ (by assumption); tm_at "same")
  | (refine Same.trans ?_ (same_new (by assumption)); tm_at "same")))
local macro_rules | `(tactic| tm_at "dt") => `(tactic| (first
  | assumption
  | exact Dt.int _ | exact Dt.str _ | exact Dt.bl _ | exact Dt.non
  | (refine Dt.mono ?_ (by assumption); tm_at "tp")))
local macro_rules | `(tactic| tm_at "dts") => `(tactic| (first
  | exact DtAll.nil
  | (with_reducible apply DtAll.cons; tm_at "dt"; tm_at "dts")))
local macro_rules | `(tactic| tm_at "s") => `(tactic| first
  | (refine gRE ?_; first | refine e_var (by tm_at "at") ?_ | refine e_int ?_ | refine e_str ?_ | refine e_non ?_ | refine e_bl ?_ | refine e_bin ?_ | refine e_cmp ?_ | refine e_chain ?_ | refine e_dgetS ?_ | refine e_sliceS ?_ | refine e_slice ?_ | refine e_ix ?_ | refine e_not ?_ | refine e_bo1 ?_ | refine e_or ?_ | refine e_and ?_ | refine e_un ?_ | refine e_if ?_ | refine e_callB (id := "isinstance") (by with_reducible exact Bl.isinst (by assumption)) (by decide +kernel) ?_ | refine e_bltn (v := .ty "int") (u := .type "int") (by with_reducible exact Bl.int (by assumption)) (by decide +kernel) rfl ?_ | refine e_bltn (v := .ty "str") (u := .type "str") (by with_reducible exact Bl.str (by assumption)) (by decide +kernel) rfl ?_ | refine e_bltn (v := .ty "bool") (u := .type "bool") (by with_reducible exact Bl.bool (by assumption)) (by decide +kernel) rfl ?_ | refine e_bltn (v := .ty "tuple") (u := .type "tuple") (by with_reducible exact Bl.tuple (by assumption)) (by decide +kernel) rfl ?_ | refine e_callT (T := "int") (by with_reducible exact Bl.int (by assumption)) (by decide +kernel) ?_ | refine e_callB (id := "len") (by with_reducible exact Bl.len (by assumption)) (by decide +kernel) ?_ | refine e_callB (id := "max") (by with_reducible exact Bl.max (by assumption)) (by decide +kernel) ?_ | refine e_callB (id := "min") (by with_reducible exact Bl.min (by assumption)) (by decide +kernel) ?_ | refine e_callT (T := "tuple") (by with_reducible exact Bl.tuple (by assumption)) (by decide +kernel) ?_ | refine e_callT (T := "dict") (by with_reducible exact Bl.dict (by assumption)) (by decide +kernel) ?_ | refine e_callB (id := "sorted") (by with_reducible exact Bl.sorted (by assumption)) (by decide +kernel) ?_ | refine e_callT (T := "list") (by with_reducible exact Bl.list (by assumption)) (by decide +kernel) ?_)
  | (refine gRA ?_; first | refine a_cons ?_ | refine a_nil ?_)
  | (refine gRX ?_; first | refine rx_int (by tm_at "dt") (by rfl) ?_ | refine rx_str (by tm_at "dt") (by rfl) ?_ | refine rx_bl (by tm_at "dt") (by rfl) ?_)
  | (refine gRQ ?_; first | refine ro_eqI ?_ | refine ro_eqS ?_ | refine ro_eqB ?_ | refine ro_neI ?_ | refine ro_lt ?_ | refine ro_le ?_ | refine ro_gt ?_ | refine ro_ge ?_ | refine ro_isN ?_ | refine ro_notN ?_)
  | (refine gRS ?_; first | refine s_ret ?_ | refine s_if ?_ | refine s_retN ?_ | refine s_dputS ?_ | refine s_par2 (by tm_at "at") (by tm_at "at") ?_ | refine s_par3 (by tm_at "at") (by tm_at "at") (by tm_at "at") ?_ | refine s_set (by tm_at "at") ?_)
  | (refine gRT ?_; first | refine t_cmp ?_ | refine t_chain ?_ | refine t_not ?_ | refine t_w (e := .BoolOp _ _ _) ?_)
  | (refine gRW ?_; first | refine w_and ?_ | refine w_or ?_ | refine w_and1 ?_ | refine w_or1 ?_)
  | (refine gRO ?_; first | refine ro_add ?_ | refine ro_sub ?_)
  | (refine gRC ?_; first | refine rc_max2 ?_ | refine rc_min2 ?_ | refine rc_intI ?_ | refine rc_intB ?_)
  | (refine gRG ?_; first | refine g_name (by tm_at "at") ?_)
  | (refine gRPo ?_; first | refine p_none ?_ | refine p_some ?_)
  | (refine gRU ?_; first | refine ru_neg ?_)
  | with_reducible refine ⟨_, rfl, ?_⟩
  | with_reducible refine ifT rfl ?_)
local macro_rules | `(tactic| tm_at "run") => `(tactic| repeat tm_at "s")
local macro_rules | `(tactic| tm_at "go") => `(tactic| repeat (first | tm_at "s" | (refine gRB ?_; first | refine b_one ?_ | refine b_cons ?_ | refine b_nil ?_)))

namespace K
open PySem L2 G
def rowD (r : Str × Nat × Int × Int × Bool × Bool × Int) : PyData := .tuple [.str r.1, .int r.2.1, .int r.2.2.1, .int r.2.2.2.1, .bool r.2.2.2.2.1, .bool r.2.2.2.2.2.1, .int r.2.2.2.2.2.2]
abbrev Row := Str × Nat × Int × Int × Bool × Bool × Int
def width (r : Row) : Nat := max 1 r.2.1
def rWidth : List PyData → PyData → Prop := fun ds d => ∃ r : Row, ds = [rowD r] ∧ d = .int (width r)
variable {M : Md}
theorem ok_width {f fd} (F : Fun M.K "row_width" "row_width" s_row_width f fd) (b : Bl M) : FnG M.prog M.w M.K M.mg M.base CX0 1 f fd ["row"] (spF rWidth M.K) := by
  refine fn_ok F sc_row_width (fun vs H Q E h => ?_) (fun H vs Q E h => ?_)
  · obtain ⟨ds, d, h, ⟨r, rfl, _⟩, _⟩ := h
    exact h.len
  obtain ⟨ds, d, h, ⟨r, rfl, rfl⟩, k⟩ := h
  cases h with
  | cons h1 h2 =>
  cases h2
  tm_at "go"
  have e : (if ((r.2.1 : Nat) : Int) > 1 then ((r.2.1 : Nat) : Int) else 1) = ((width r : Nat) : Int) := by unfold width; split <;> omega
  rw [e]
  exact k _ _ (Same.refl _) (.int _)

def hit (r : Row) : Option Int → Int → Option Int
  | none, b => if (r.2.1 : Int) = 0 then some b else none
  | some k, b => if 0 ≤ k ∧ k < r.2.1 then some (b + k) else none
def fIdx : List Row → Str → Option Int → Int → Option Int
  | [], _, _, _ => none
  | r :: rs, nm, key, b => if r.1 = nm then hit r key b else fIdx rs nm key (b + width r)
def optD : Option Int → PyData
  | none => .none
  | some k => .int k
def cellsD (rs : List Row) : PyData := .tuple (rs.map rowD)
def rFound : List PyData → PyData → Prop := fun ds d => ∃ (rs : List Row) (nm : Str) (key : Option Int), ds = [cellsD rs, .str nm, optD key] ∧ d = optD (fIdx rs nm key 0)
theorem ok_found {f fd} (F : Fun M.K "found_index" "found_index" s_found_index f fd) (dw : Dc M "row_width" ["row"] 1 (spF rWidth M.K)) : FnG M.prog M.w M.K M.mg M.base CX0 2 f fd ["cells", "name", "key"] (spF rFound M.K) := by
  refine fn_ok F sc_found_index (fun vs H Q E h => ?_) (fun H vs Q E h => ?_)
  · obtain ⟨ds, d, h, ⟨rs, nm, key, rfl, _⟩, _⟩ := h
    exact h.len
  obtain ⟨ds, d, h, ⟨rs, nm, key, rfl, rfl⟩, k⟩ := h
  obtain _ | ⟨hc, h⟩ := h
  obtain _ | ⟨hn, h⟩ := h
  obtain _ | ⟨hk, h⟩ := h
  cases h
  cases hn
  obtain ⟨a, xs, rfl, hxs, hrs⟩ := hc.tupE
  rename_i vk
  tm_at "go"
  refine s_forT ?_
  tm_at "s"
  refine ⟨a, xs, rfl, hxs, fun i σ1 H1 => ∃ (b : Int) (v : Option V), σ1 = [some (.ref a), some (.str nm), some vk, some (.int b), v] ∧ Same H H1 ∧ fIdx rs nm key 0 = fIdx (rs.drop i) nm key b, ⟨0, _, rfl, Same.refl _, rfl⟩, ?_, ?_, ?_⟩
  · rintro i σ' H' _ ⟨b, v, rfl, s, _⟩
    exact (tp_same s).sqt hxs
  · rintro i x σ' H' hx ⟨b, v, rfl, s, e⟩
    obtain ⟨d, hd, hx'⟩ := hrs.getV hx
    rw [List.getElem?_map] at hd
    obtain ⟨r, hr, rfl⟩ := Option.map_eq_some_iff.mp hd
    have ed : rs.drop i = r :: rs.drop (i + 1) := by
      obtain ⟨h1, h2⟩ := List.getElem?_eq_some_iff.mp hr
      rw [← h2]; exact List.drop_eq_getElem_cons h1
    rw [ed] at e
    refine g_name (by tm_at "at") ?_
    tm_at "go"
    refine ifd (fun c1 => ?_) (fun c1 => ?_)
    · cases key with
      | none =>
        cases hk
        tm_at "go"
        refine ifd (fun c2 => ?_) (fun c2 => ?_)
        · tm_at "go"
          refine k _ _ s ?_
          rw [e, fIdx, if_pos c1, hit, if_pos c2]; exact .int _
        · tm_at "go"
          refine k _ _ s ?_
          rw [e, fIdx, if_pos c1, hit, if_neg c2]; exact .non
      | some kk =>
        cases hk
        tm_at "go"
        refine ifd (fun c2 => ?_) (fun c2 => ?_)
        · tm_at "go"
          refine ifd (fun c3 => ?_) (fun c3 => ?_)
          · tm_at "go"
            refine k _ _ s ?_
            rw [e, fIdx, if_pos c1, hit, if_pos ⟨c2, c3⟩]; exact .int _
          · tm_at "go"
            refine k _ _ s ?_
            rw [e, fIdx, if_pos c1, hit, if_neg fun z => c3 z.2]; exact .non
        · tm_at "go"
          refine k _ _ s ?_
          rw [e, fIdx, if_pos c1, hit, if_neg fun z => c2 z.1]; exact .non
    · tm_at "go"
      refine e_callF dw ?_
      tm_at "go"
      refine ⟨_, _, by tm_at "dts", ⟨r, rfl, rfl⟩, fun v' H2 s2 hv => ?_⟩
      cases hv
      tm_at "go"
      refine ⟨_, _, rfl, s.trans s2, ?_⟩
      rw [e, fIdx, if_neg c1]
  · rintro σ' H' ⟨b, v, rfl, s, e⟩
    tm_at "go"
    refine k _ _ s ?_
    rw [e, List.drop_eq_nil_of_le (by have := hrs.len; rw [List.length_map] at this; omega)]
    exact .non

def total (rs : List Row) : Nat := (rs.map width).sum
def pairD (r : Row) : PyData := .tuple [.int r.2.2.1, .int r.2.2.2.1]
def rngs (rs : List Row) : List PyData := rs.flatMap fun r => List.replicate (width r) (pairD r)
theorem rngs_len : ∀ rs : List Row, (rngs rs).length = total rs
  | [] => rfl
  | r :: rs => by
    have := rngs_len rs
    simp only [rngs, total, List.flatMap_cons, List.length_append, List.length_replicate, List.map_cons, List.sum_cons] at *
    omega
theorem rngs_snoc {rs : List Row} {i : Nat} {r : Row} (h : rs[i]? = some r) : rngs (rs.take (i + 1)) = rngs (rs.take i) ++ List.replicate (width r) (pairD r) := by
  obtain ⟨h1, rfl⟩ := List.getElem?_eq_some_iff.mp h
  rw [List.take_succ_eq_append_getElem h1, rngs, List.flatMap_append]
  simp [rngs]
theorem total_take (rs : List Row) (i : Nat) : total (rs.take i) ≤ total rs := by
  induction rs generalizing i with
  | nil => simp
  | cons r rs ih =>
    cases i with
    | zero => simp [total]
    | succ i =>
      have := ih i
      simp only [total, List.take_succ_cons, List.map_cons, List.sum_cons] at *
      omega
theorem width_le {rs : List Row} {i : Nat} {r : Row} (h : rs[i]? = some r) : total (rs.take i) + width r ≤ total rs := by
  have h1 := total_take rs (i + 1)
  have h2 := congrArg List.length (rngs_snoc h)
  rw [rngs_len, List.length_append, rngs_len, List.length_replicate] at h2
  omega
theorem dt_rep {K : PySem.W.Frag} {H : Hp} {v : V} {d : PyData} (h : Dt K H v d) : ∀ n : Nat, DtAll K H (List.replicate n v) (List.replicate n d)
  | 0 => .nil
  | n + 1 => .cons h (dt_rep h n)
def rRanges : List PyData → PyData → Prop := fun ds d => ∃ rs : List Row, ds = [cellsD rs] ∧ total rs ≤ 500 ∧ d = .tuple (rngs rs)
theorem ok_ranges {f fd} (F : Fun M.K "cell_ranges" "cell_ranges" s_cell_ranges f fd) (b : Bl M) (dw : Dc M "row_width" ["row"] 1 (spF rWidth M.K)) : FnG M.prog M.w M.K M.mg M.base CX0 2 f fd ["cells"] (spF rRanges M.K) := by
  refine fn_ok F sc_cell_ranges (fun vs H Q E h => ?_) (fun H vs Q E h => ?_)
  · obtain ⟨ds, d, h, ⟨rs, rfl, _⟩, _⟩ := h
    exact h.len
  obtain ⟨ds, d, h, ⟨rs, rfl, hl, rfl⟩, k⟩ := h
  obtain _ | ⟨hc, h⟩ := h
  cases h
  obtain ⟨a, xs, rfl, hxs, hrs⟩ := hc.tupE
  have hle := hrs.len
  rw [List.length_map] at hle
  tm_at "go"
  refine e_lstD ?_
  tm_at "go"
  refine ⟨by decide, fun l0 H0 s0 n0 g0 => ?_⟩
  tm_at "go"
  refine s_forT ?_
  tm_at "s"
  refine ⟨a, xs, rfl, (tp_same s0).sqt hxs, fun i σ1 H1 => ∃ (l : Addr) (us : List V) (v : Option V), σ1 = [some (.ref a), some (.ref l), v] ∧ Same H H1 ∧ H1 l = some (.lst us) ∧ DtAll M.K H1 us (rngs (rs.take i)), ⟨l0, [], _, rfl, s0, g0, .nil⟩, ?_, ?_, ?_⟩
  · rintro i σ' H' _ ⟨l, us, v, rfl, s, _⟩
    exact (tp_same s).sqt hxs
  · rintro i x σ' H' hx ⟨l, us, v, rfl, s, hl1, hu⟩
    obtain ⟨d, hd, hx'⟩ := hrs.getV hx
    rw [List.getElem?_map] at hd
    obtain ⟨r, hr, rfl⟩ := Option.map_eq_some_iff.mp hd
    have hw := width_le hr
    have hul := hu.len
    rw [rngs_len] at hul
    tm_at "go"
    refine e_lstD ?_
    tm_at "go"
    refine e_tupD ?_
    tm_at "go"
    refine tupend (by tm_at "dts") (Nat.le_of_ble_eq_true rfl) fun vp H2 s2 hp => ?_
    tm_at "go"
    refine ⟨(Nat.le_of_ble_eq_true rfl), fun l2 H3 s3 n3 g3 => ?_⟩
    tm_at "go"
    refine e_callF dw ?_
    tm_at "go"
    refine ⟨_, _, by tm_at "dts", ⟨r, rfl, rfl⟩, fun v' H4 s4 hv => ?_⟩
    cases hv
    refine ro_rep (s4 _ _ g3) (by omega) (Nat.le_of_ble_eq_true rfl) fun l5 H5 s5 n5 g5 => ?_
    have e5 : (List.replicate (((width r : Nat) : Int)).toNat [vp]).flatten = List.replicate (width r) vp := by
      rw [Int.toNat_natCast]
      induction width r with
      | zero => rfl
      | succ n ih => rw [List.replicate_succ, List.replicate_succ, List.flatten_cons, ih]; rfl
    rw [e5] at g5
    have s25 := s2.trans (s3.trans (s4.trans s5))
    refine ro_cat (s25 _ _ hl1) g5 (by rw [List.length_replicate]; omega) fun l6 H6 s6 n6 g6 => ?_
    refine ⟨l6, _, _, rfl, s.trans (s25.trans s6), g6, ?_⟩
    rw [rngs_snoc hr]
    exact (hu.mono (tp_same (s25.trans s6))).app (dt_rep (hp.mono (tp_same (s3.trans (s4.trans (s5.trans s6))))) _)
  · rintro σ' H' ⟨l, us, v, rfl, s, hl1, hu⟩
    rw [hle, List.take_length] at hu
    tm_at "go"
    refine rc_tupL (.of hl1) hu fun v2 H2 s2 h2 => ?_
    exact k _ _ (s.trans s2) h2
end K

namespace K
open PySem L2 G
variable {M : Md}
/-! states -/
abbrev Rng := Int × Int
def rngD (p : Rng) : PyData := .tuple [.int p.1, .int p.2]
def rg (rs : List Row) : List Rng := rs.flatMap fun r => List.replicate (width r) (r.2.2.1, r.2.2.2.1)
theorem rngs_eq (rs : List Row) : rngs rs = (rg rs).map rngD := by
  unfold rngs rg
  induction rs with
  | nil => rfl
  | cons r rs ih =>
    rw [List.flatMap_cons, List.flatMap_cons, List.map_append, ih, List.map_replicate]
    rfl
abbrev St1 := List Int
def stD (s : St1) : PyData := .tuple (s.map .int)
def span (p : Rng) : Nat := (p.2 + 1 - p.1).toNat
def widen (acc : List St1) (p : Rng) : List St1 := acc.flatMap fun o => (List.range (span p)).map fun t : Nat => (o ++ [p.1 + (t : Int)] : St1)
def statesOf (ps : List Rng) : List St1 := ps.foldl widen [[]]
def many (ps : List Rng) : Nat := (ps.map span).foldl (· * ·) 1
theorem flat_len {α : Type} (n : Nat) (f : α → List St1) (h : ∀ a, (f a).length = n) : ∀ l : List α, (l.flatMap f).length = l.length * n
  | [] => by simp
  | a :: l => by rw [List.flatMap_cons, List.length_append, h, flat_len n f h l, List.length_cons, Nat.succ_mul, Nat.add_comm]
theorem widen_len (acc : List St1) (p : Rng) : (widen acc p).length = acc.length * span p := flat_len _ _ (fun _ => by simp) _
theorem foldl_len (ps : List Rng) : ∀ acc : List St1, (ps.foldl widen acc).length = (ps.map span).foldl (· * ·) acc.length := by
  induction ps with
  | nil => intro acc; rfl
  | cons p ps ih => intro acc; rw [List.foldl_cons, ih, widen_len, List.map_cons, List.foldl_cons]
theorem states_len (ps : List Rng) : (statesOf ps).length = many ps := foldl_len ps [[]]
theorem states_snoc {ps : List Rng} {i : Nat} {p : Rng} (h : ps[i]? = some p) : statesOf (ps.take (i + 1)) = widen (statesOf (ps.take i)) p := by
  obtain ⟨h1, rfl⟩ := List.getElem?_eq_some_iff.mp h
  rw [List.take_succ_eq_append_getElem h1, statesOf, List.foldl_append]
  rfl
theorem foldl_le (ns : List Nat) (h : ∀ n ∈ ns, 1 ≤ n) : ∀ m, m ≤ ns.foldl (· * ·) m := by
  induction ns with
  | nil => intro m; exact Nat.le_refl _
  | cons n ns ih =>
    intro m
    have h1 := h n (List.mem_cons_self ..)
    exact Nat.le_trans (Nat.le_mul_of_pos_right m h1) (ih (fun k hk => h k (List.mem_cons_of_mem _ hk)) _)
theorem many_take {ps : List Rng} (h : ∀ p ∈ ps, 1 ≤ span p) (i : Nat) : many (ps.take i) ≤ many ps := by
  have e : ps.map span = (ps.take i).map span ++ (ps.drop i).map span := by rw [← List.map_append, List.take_append_drop]
  unfold many
  rw [e, List.foldl_append]
  refine foldl_le _ (fun n hn => ?_) _
  obtain ⟨p, hp, rfl⟩ := List.mem_map.mp hn
  exact h p (List.mem_of_mem_drop hp)
theorem fold_mem (ps : List Rng) : ∀ (acc : List St1) (n : Nat), (∀ o ∈ acc, o.length = n) → ∀ o ∈ ps.foldl widen acc, o.length = n + ps.length := by
  induction ps with
  | nil => intro acc n h o ho; exact h o ho
  | cons p ps ih =>
    intro acc n h o ho
    have := ih (widen acc p) (n + 1) (fun o' ho' => by
      obtain ⟨o2, h2, h3⟩ := List.mem_flatMap.mp ho'
      obtain ⟨t, _, rfl⟩ := List.mem_map.mp h3
      rw [List.length_append, h o2 h2]; rfl) o ho
    rw [List.length_cons]; omega
theorem states_mem {ps : List Rng} {o : St1} (h : o ∈ statesOf ps) : o.length = ps.length := by
  have := fold_mem ps [[]] 0 (fun o h => by rw [List.mem_singleton.mp h]; rfl) o h
  omega
theorem widen_snoc {acc : List St1} {j : Nat} {o : St1} {p : Rng} (h : acc[j]? = some o) : widen (acc.take (j + 1)) p = widen (acc.take j) p ++ (List.range (span p)).map fun t : Nat => (o ++ [p.1 + (t : Int)] : St1) := by
  obtain ⟨h1, rfl⟩ := List.getElem?_eq_some_iff.mp h
  rw [List.take_succ_eq_append_getElem h1, widen, List.flatMap_append]
  simp [widen]
theorem rg_len (rs : List Row) : (rg rs).length = total rs := by rw [← rngs_len, rngs_eq, List.length_map]
/-- what is asked of the rows of a law's cells -/
structure Small (rs : List Row) : Prop where
  tot : total rs ≤ 10
  sp : ∀ p ∈ rg rs, 1 ≤ span p ∧ -1000 ≤ p.1 ∧ p.2 ≤ 1000
  many : many (rg rs) ≤ 256
def rStates : List PyData → List PyData → Prop := fun ds es => ∃ rs : List Row, ds = [cellsD rs] ∧ Small rs ∧ es = (statesOf (rg rs)).map stD
end K

namespace G
open PySem PySem.Spec PyProof.Rows L2
theorem iff0 {A B : Prop} (b : B) : if false = true then A else B := b
section
variable {c : Cd} {σ : L2.St} {H : Hp} {Q : VK} {pos : Pos} {x y : V}
def cutD {α : Type} (xs : List α) (lo hi : Option Int) : List α := (xs.drop (HT.sIx xs.length 0 lo)).take (HT.sIx xs.length xs.length hi - HT.sIx xs.length 0 lo)
theorem rsl_tup {ds : List PyData} {lo hi : Option Int} (hx : Dt c.K H x (.tuple ds)) (q : ∀ v H2, Same H H2 → Dt c.K H2 v (.tuple (cutD ds lo hi)) → Q v H2) : RSl c x lo hi H Q := by
  obtain ⟨a, xs, rfl, ht, hd⟩ := hx.tupE
  have hl := hd.len
  have hc : DtAll c.K H (cutV xs lo hi) (cutD ds lo hi) := by
    unfold cutV cutD
    rw [hl]
    exact DtAll.take _ (DtAll.drop _ hd)
  refine rsl_of (r := rSlA c.K) (fun X h => by rw [← h.K]; exact sl_tupA) ⟨a, xs, rfl, ht, fun e => ?_, fun _ p hp => q _ _ (same_new hp) (.tup (.of upd_same) (hc.mono (tp_same (same_new hp))))⟩
  refine q _ _ (Same.refl _) ?_
  have e2 : cutD ds lo hi = ds := by
    unfold cutD
    rw [← hl, e.1, e.2]
    simp [hl]
  rw [e2]
  exact hx
end
end G
namespace K
open PySem L2 G
variable {M : Md}
section
variable {c : Cd} {σ : L2.St} {H : Hp} {Q : VK} {pos : Pos}
end
def nameOf (r : Row) : Str := r.1
theorem many_app (ps qs : List Rng) : many (ps ++ qs) = many ps * many qs := by
  unfold many
  rw [List.map_append, List.foldl_append]
  have h : ∀ (ns : List Nat) (a : Nat), ns.foldl (· * ·) a = a * ns.foldl (· * ·) 1 := by
    intro ns
    induction ns with
    | nil => intro a; simp
    | cons n ns ih => intro a; rw [List.foldl_cons, List.foldl_cons, ih (a * n), ih (1 * n), Nat.one_mul, Nat.mul_assoc]
  exact h _ _
theorem many_rep (n : Nat) (p : Rng) : many (List.replicate n p) = span p ^ n := by
  induction n with
  | zero => rfl
  | succ n ih =>
    rw [List.replicate_succ, show p :: List.replicate n p = [p] ++ List.replicate n p from rfl, many_app, ih, Nat.pow_succ, Nat.mul_comm]
    congr 1
    exact Nat.one_mul _
theorem many_row (rs : List Row) (r : Row) : many (rg (rs ++ [r])) = many (rg rs) * span (r.2.2.1, r.2.2.2.1) ^ width r := by
  have : rg (rs ++ [r]) = rg rs ++ List.replicate (width r) (r.2.2.1, r.2.2.2.1) := by simp [rg, List.flatMap_append]
  rw [this, many_app, many_rep]
theorem dtInts {K : PySem.W.Frag} {H : Hp} : ∀ ns : List Int, DtAll K H (ns.map V.int) (ns.map PyData.int)
  | [] => .nil
  | n :: ns => .cons (.int n) (dtInts ns)
theorem dtStrs {K : PySem.W.Frag} {H : Hp} : ∀ ns : List Str, DtAll K H (ns.map V.str) (ns.map PyData.str)
  | [] => .nil
  | n :: ns => .cons (.str n) (dtStrs ns)
theorem cutD_sub {α : Type} (xs : List α) (lo hi : Option Int) : (cutD xs lo hi).Sublist xs := (List.take_sublist _ _).trans (List.drop_sublist _ _)
theorem cutD_map {α β : Type} (g : α → β) (xs : List α) (lo hi : Option Int) : cutD (xs.map g) lo hi = (cutD xs lo hi).map g := by
  unfold cutD
  rw [List.length_map, List.map_take, List.map_drop]
end K

namespace G
open PySem PySem.Spec PyProof.Rows L2
structure Shp (n : Nat) (d : PyData) : Prop where
  lay : PyData.canLay0 d = true
  dep : PyData.depth d ≤ n
theorem shp_all {n : Nat} : ∀ {ds : List PyData}, (∀ d ∈ ds, Shp n d) → PyData.canLayAll0 ds = true ∧ PyData.depthAll ds ≤ n
  | [], _ => ⟨by simp [PyData.canLayAll0], by simp [PyData.depthAll]⟩
  | d :: ds, h => by
    have h1 := h d (List.mem_cons_self ..)
    have h2 := shp_all fun e he => h e (List.mem_cons_of_mem _ he)
    refine ⟨by simp [PyData.canLayAll0, h1.lay, h2.1], ?_⟩
    simp only [PyData.depthAll]
    have := h1.dep
    have := h2.2
    omega
theorem shp_tup {n : Nat} {ds : List PyData} (h : ∀ d ∈ ds, Shp n d) : Shp (n + 1) (.tuple ds) := by
  have := shp_all h
  exact ⟨by simp only [PyData.canLay0]; exact this.1, by simp only [PyData.depth]; omega⟩
theorem shp_lst {n : Nat} {ds : List PyData} (h : ∀ d ∈ ds, Shp n d) : Shp (n + 1) (.list ds) := by
  have := shp_all h
  exact ⟨by simp only [PyData.canLay0]; exact this.1, by simp only [PyData.depth]; omega⟩
theorem shp_int {n : Nat} (i : Int) : Shp (n + 1) (.int i) := ⟨by simp [PyData.canLay0], by simp [PyData.depth]⟩
theorem shp_bl {n : Nat} (i : Bool) : Shp (n + 1) (.bool i) := ⟨by simp [PyData.canLay0], by simp [PyData.depth]⟩
theorem shp_non {n : Nat} : Shp (n + 1) .none := ⟨by simp [PyData.canLay0], by simp [PyData.depth]⟩
theorem shp_str {n : Nat} {s : Str} (h : PyData.strOk s = true) : Shp (n + 1) (.str s) := ⟨by simp only [PyData.canLay0]; exact h, by simp [PyData.depth]⟩
theorem Shp.ok {n : Nat} {d : PyData} (h : Shp n d) (hn : n ≤ 64 := by decide) : SeqAt.shaped d = true := by
  show (PyData.canLay0 d && decide (PyData.depth d ≤ 64)) = true
  rw [h.lay, Bool.true_and]
  exact decide_eq_true (Nat.le_trans h.dep hn)
section
variable {c : Cd} {σ : L2.St} {H : Hp} {Q : VK} {pos : Pos} {x y : V}
/-- xs == [] -/
theorem ro_eqNil {p q0 : Addr} {xs : List V} {ds : List PyData} {n : Nat} (h1 : H p = some (.lst xs)) (hd : DtAll c.K H xs ds) (hs : ∀ d ∈ ds, Shp n d) (hn : n + 1 ≤ 64) (h2 : H q0 = some (.lst [])) (q : Q (.bl ds.isEmpty) H) : RQ c .Eq (.ref p) (.ref q0) H Q := by
  refine ro_eqD (.lst (SqL.of h1) hd.dp) (.lst (SqL.of h2) .nil) ((shp_lst hs).ok hn) (by decide) ?_
  cases ds with
  | nil => exact q
  | cons d ds => exact q
theorem ro_neNil {p q0 : Addr} {xs : List V} {ds : List PyData} {n : Nat} (h1 : H p = some (.lst xs)) (hd : DtAll c.K H xs ds) (hs : ∀ d ∈ ds, Shp n d) (hn : n + 1 ≤ 64) (h2 : H q0 = some (.lst [])) (q : Q (.bl (!ds.isEmpty)) H) : RQ c .NotEq (.ref p) (.ref q0) H Q := by
  refine ro_neD (.lst (SqL.of h1) hd.dp) (.lst (SqL.of h2) .nil) ((shp_lst hs).ok hn) (by decide) ?_
  cases ds with
  | nil => exact q
  | cons d ds => exact q
end
end G
namespace K
open PySem L2 G
variable {M : Md}
inductive Ex where
  | int (i : Int) | nm (s : Str) | at (t : Str) (e : Ex) | un (op : Str) (e : Ex) | bin (op : Str) (a b : Ex) | kk (op : Str) (e : Ex) (n : Int) | ite (a b d : Ex)
def Ex.d : Ex → PyData
  | .int i => .int i
  | .nm s => .str s
  | .at t e => .tuple [.str "at", .str t, e.d]
  | .un op e => .tuple [.str op, e.d]
  | .bin op a b => .tuple [.str op, a.d, b.d]
  | .kk op e n => .tuple [.str op, e.d, .int n]
  | .ite a b e => .tuple [.str "if", a.d, b.d, e.d]
def Ex.dep : Ex → Nat
  | .int _ | .nm _ => 0
  | .at _ e | .un _ e | .kk _ e _ => e.dep + 1
  | .bin _ a b => max a.dep b.dep + 1
  | .ite a b e => max a.dep (max b.dep e.dep) + 1
def bins : List Str := ["+", "-", "*", "least", "most", "=", "<", "<=", "and", "or"]
def uns : List Str := ["not", "neg"]
def kks : List Str := ["div", "mod"]
/-- an expression that fits the rows -/
def Fit (rs : List Row) : Ex → Prop
  | .int i => -1000000 ≤ i ∧ i ≤ 1000000
  | .nm s => ∃ r ∈ rs, r.1 = s ∧ r.2.1 = 0
  | .at t e => (∃ r ∈ rs, r.1 = t ∧ 0 < r.2.1) ∧ Fit rs e
  | .un op e => op ∈ uns ∧ Fit rs e
  | .bin op a b => op ∈ bins ∧ Fit rs a ∧ Fit rs b
  | .kk op e n => op ∈ kks ∧ Fit rs e ∧ (1 ≤ n ∧ n ≤ 5)
  | .ite a b e => Fit rs a ∧ Fit rs b ∧ Fit rs e
/-- rows that drawing functions are given -/
structure RowsIn (rs : List Row) : Prop where
  len : rs.length ≤ 10
  nm : ∀ r ∈ rs, PyData.strOk r.1 = true
def plains (rs : List Row) : List Str := (rs.filter fun r => r.2.1 == 0).map nameOf
def gPlain : PyData → Option PyData
  | .tuple (n :: .int s :: _) => if s = 0 then some n else none
  | _ => none
theorem gPlain_all (rs : List Row) : (rs.map rowD).filterMap gPlain = (plains rs).map .str := by
  induction rs with
  | nil => rfl
  | cons r rs ih =>
    unfold plains at *
    rw [List.map_cons, List.filterMap_cons, List.filter_cons]
    have e : gPlain (rowD r) = if ((r.2.1 : Nat) : Int) = 0 then some (PyData.str r.1) else none := rfl
    rw [e]
    by_cases h : r.2.1 = 0
    · rw [if_pos (by omega), if_pos (by simpa using h), List.map_cons, List.map_cons, ← ih]; rfl
    · rw [if_neg (by omega), if_neg (by simpa using h), ← ih]
theorem plains_mem {rs : List Row} {s : Str} (h : s ∈ plains rs) : ∃ r ∈ rs, r.1 = s ∧ r.2.1 = 0 := by
  obtain ⟨r, hr, rfl⟩ := List.mem_map.mp h
  obtain ⟨h1, h2⟩ := List.mem_filter.mp hr
  exact ⟨r, h1, rfl, by simpa using h2⟩
theorem leafInt (w : Int) (h : w ∈ ([0, 1, 2, -1, 3, -2, 7, 1] : List Int)) : -1000000 ≤ w ∧ w ≤ 1000000 := by
  have : ∀ w ∈ ([0, 1, 2, -1, 3, -2, 7, 1] : List Int), -1000000 ≤ w ∧ w ≤ 1000000 := by decide
  exact this w h
end K

namespace K
open PySem L2 G
variable {M : Md}
def wordsL : List Str := ["+", "-", "*", "least", "most", "=", "<", "<=", "and", "or", "not", "neg", "div", "mod", "if", "at", "at", "+"]
def tabs (rs : List Row) : List Str := (rs.filter fun r => decide (0 < r.2.1)).map nameOf
def gTab : PyData → Option PyData
  | .tuple (n :: .int s :: _) => if 0 < s then some n else none
  | _ => none
theorem gTab_all (rs : List Row) : (rs.map rowD).filterMap gTab = (tabs rs).map .str := by
  induction rs with
  | nil => rfl
  | cons r rs ih =>
    unfold tabs at *
    rw [List.map_cons, List.filterMap_cons, List.filter_cons]
    have e : gTab (rowD r) = if 0 < ((r.2.1 : Nat) : Int) then some (PyData.str r.1) else none := rfl
    rw [e]
    by_cases h : 0 < r.2.1
    · rw [if_pos (by omega), if_pos (by simpa using h), List.map_cons, List.map_cons, ← ih]; rfl
    · rw [if_neg (by omega), if_neg (by simpa using h), ← ih]
theorem tabs_mem {rs : List Row} {s : Str} (h : s ∈ tabs rs) : ∃ r ∈ rs, r.1 = s ∧ 0 < r.2.1 := by
  obtain ⟨r, hr, rfl⟩ := List.mem_map.mp h
  obtain ⟨h1, h2⟩ := List.mem_filter.mp hr
  exact ⟨r, h1, rfl, by simpa using h2⟩
theorem rowD_inj {r r' : Row} (h : rowD r = rowD r') : r = r' := by
  obtain ⟨a, b, c, d, e, f, g⟩ := r
  obtain ⟨a', b', c', d', e', f', g'⟩ := r'
  unfold rowD at h
  simp only [PyData.tuple.injEq, List.cons.injEq, PyData.str.injEq, PyData.int.injEq, PyData.bool.injEq] at h
  obtain ⟨rfl, h2, rfl, rfl, rfl, rfl, rfl, _⟩ := h
  have : b = b' := by omega
  rw [this]
theorem cellsD_inj {rs rs' : List Row} (h : cellsD rs = cellsD rs') : rs = rs' := by
  unfold cellsD at h
  rw [PyData.tuple.injEq] at h
  induction rs generalizing rs' with
  | nil =>
    cases rs' with
    | nil => rfl
    | cons => cases h
  | cons r rs ih =>
    cases rs' with
    | nil => cases h
    | cons r' rs' =>
      rw [List.map_cons, List.map_cons, List.cons.injEq] at h
      rw [rowD_inj h.1, ih h.2]
theorem inS (w : Str) (l : List Str) : inV (.str w) (l.map .str) = decide (w ∈ l) := by
  unfold inV
  rw [Bool.eq_iff_iff, List.any_eq_true, decide_eq_true_iff]
  constructor
  · rintro ⟨y, hy, h⟩
    obtain ⟨z, hz, rfl⟩ := List.mem_map.mp hy
    have : z = w := by simpa [eqV] using h
    rw [← this]; exact hz
  · intro h
    exact ⟨.str w, List.mem_map.mpr ⟨w, h, rfl⟩, by simp [eqV]⟩
theorem flatS (l : List Str) : (l.map V.str).all flatV = true := by simp [flatV]
theorem dtStrs_eq {K : PySem.W.Frag} {H : Hp} : ∀ {ws : List Str} {xs : List V}, DtAll K H xs (ws.map .str) → xs = ws.map .str
  | [], _, h => by cases h; rfl
  | w :: ws, _, h => by
    cases h with
    | cons h1 h2 =>
      cases h1
      rw [dtStrs_eq h2, List.map_cons]
theorem ro_inST {c : Cd} {H : Hp} {Q : VK} {y : V} {w : Str} {ws : List Str} (hx : Dt c.K H y (.tuple (ws.map .str))) (q : Q (.bl (decide (w ∈ ws))) H) : RQ c .In (.str w) y H Q := by
  obtain ⟨a, xs, rfl, ht, hd⟩ := hx.tupE
  obtain rfl := dtStrs_eq hd
  refine rq_of (r := rIn c.K false) (fun X h => by rw [← h.K]; exact op_in_seq) ⟨a, _, rfl, .inr ht, rfl, flatS ws, ?_⟩
  show Q (.bl (inV (.str w) (ws.map .str))) H
  rw [inS]
  exact q
theorem words_all : ∀ w ∈ wordsL, w = "at" ∨ w ∈ kks ∨ w ∈ bins ∨ w ∈ uns ∨ w = "if" := by decide +kernel
end K

/-! for in a generator's body -/
namespace GF
open PySem
section
variable {M : Model} {A : Around} {R : GenEnd} {Y : Protocol} {n : Nat} {s₀ : Shared} {c : Code} {fs : List Frame} {s : Shared} {env : Env}
  {K : Flow → Sem PySem.Fin} {H : Value → Sem PySem.Fin} {gd : Bool → Bool} {lv : List Value → List Value}
theorem seg_For {target iter : Expr} {body orelse : List Stmt} {pos : Pos}
    (h : wpAny M (A.over c fs) (eval iter env) (fun x s₁ => wpAny M (A.over c fs) (pyIter x) (fun it s₂ => ∀ p,
      Seg M A R Y n s₀ (.forLoop target it body orelse env) (M.den (.forLoop target it body orelse env))
      (.ret (fun r => ((match r with | .ok f => (.pure f : Sem Flow) | .error e => .raise e).onRaise fun (x : Value) => do
        if (← field x 1) == Value.none then unsupported "frame.own-activation:exception-without-traceback"
        setFlight x env.frame).wrap K H gd lv) none (gd false) (lv []) c p [] :: fs) s₂) (fun x s' => Seg M A R Y n s₀ c (H x) fs s') s₁) (fun x s' => Seg M A R Y n s₀ c (H x) fs s') s)
    (hs : ∀ x, foldedSetIterable iter env x = pure x) :
    Seg M A R Y n s₀ c ((exec (.For target iter body orelse pos) env).wrap K H gd lv) fs s := by
  rw [exec_For]
  refine seg_at ?_
  show Seg M A R Y n s₀ c ((eval iter env >>= fun v => (foldedSetIterable iter env v >>= fun x => (standAt iter.pos >>= fun _ => (holding [x] (pyIter x) >>= fun it => runOwn (.forLoop target it body orelse env) env)))).wrap K H gd lv) fs s
  rw [Sem.bind_eq_wrap', Sem.wrap_wrap]
  refine seg_wrap (wpAny_mono h (fun x s1 h1 => ?_) fun _ _ z => z)
  rw [hs x]
  refine seg_at ?_
  show Seg M A R Y n s₀ c ((holding [x] (pyIter x) >>= fun it => runOwn (.forLoop target it body orelse env) env).wrap K H gd lv) fs s1
  rw [Sem.bind_eq_wrap', Sem.wrap_wrap]
  refine seg_wrap (wpAny_holding (wpAny_mono h1 (fun it s2 h2 => ?_) fun _ _ z => z))
  exact seg_call h2
end
section
variable {prog : Program} {w : World} {A : Around} {R : GenEnd} {Y : Protocol} {n : Nat} {s₀ : Shared} {fs : List Frame} {s : Shared} {env : Env}
/-- an exception within the loop's code -/
abbrev Out (prog : Program) (w : World) (A : Around) (R : GenEnd) (Y : Protocol) (n : Nat) (s₀ : Shared) (c : Code) (fs : List Frame) (env : Env) (x : Value) (s' : Shared) : Prop :=
  Seg (model prog w) A R Y n s₀ c ((do noteFrame x env; theTreesLotGoes x : Sem Unit).wrap (fun _ => .raise x) .raise id id) fs s'
theorem seg_forLoop {target : Expr} {it : Value} {body : List Stmt}
    (h : wpAny (model prog w) (A.over (.forLoop target it body [] env) fs) (pyNext it) (fun r s₁ => match r with
      | none => Seg (model prog w) A R Y n s₀ (.block [] env) ((model prog w).den (.block [] env)) fs s₁
      | some v => wpAny (model prog w) (A.over (.forLoop target it body [] env) fs) (letOwnedTupleGo target it v) (fun _ s₁' => wpAny (model prog w) (A.over (.forLoop target it body [] env) fs) (assign target env v) (fun _ s₂ =>
          Seg (model prog w) A R Y n s₀ (.forLoop target it body [] env) ((execs body env).wrap (fun f => match f with
            | .next | .cont => .pure (.again (.forLoop target it body [] env))
            | .brk => .pure (.done .next)
            | .ret v => .pure (.done (.ret v))) (fun e => (do noteFrame e env; theTreesLotGoes e : Sem Unit).wrap (fun _ => .raise e) .raise id id) id id) fs s₂)
          (Out prog w A R Y n s₀ (.forLoop target it body [] env) fs env) s₁') (Out prog w A R Y n s₀ (.forLoop target it body [] env) fs env) s₁)
      (Out prog w A R Y n s₀ (.forLoop target it body [] env) fs env) s) :
    Seg (model prog w) A R Y n s₀ (.forLoop target it body [] env) ((model prog w).den (.forLoop target it body [] env)) fs s := by
  show Seg _ A R Y n s₀ _ ((forTurn target it body [] env).onRaise (fun x => do noteFrame x env; theTreesLotGoes x)) fs s
  unfold forTurn
  rw [Sem.onRaise_eq_wrap]
  refine seg_at ?_
  have out : ∀ {x : Value} {s' : Shared}, Out prog w A R Y n s₀ (.forLoop target it body [] env) fs env x s' → Seg (model prog w) A R Y n s₀ (.forLoop target it body [] env) ((do noteFrame x env; theTreesLotGoes x : Sem Unit).bind fun _ => .raise x) fs s' := fun {x s'} hx => by
    rw [Sem.bind_eq_wrap]
    exact hx
  show Seg _ A R Y n s₀ _ (((pyNext it).onRaise (fun _ => standAt { target.pos with line := 0 }) >>= fun r => (match r with
    | none => again (.block [] env)
    | some v => (letOwnedTupleGo target it v >>= fun _ => (assign target env v >>= fun _ => (execs body env >>= fun f => (match f with
      | .next => again (.forLoop target it body [] env)
      | .cont => again (.forLoop target it body [] env)
      | .brk => pure (.done .next)
      | .ret v => pure (.done (.ret v)) : Sem PySem.Fin)))) : Sem PySem.Fin)).wrap .pure (fun e => (do noteFrame e env; theTreesLotGoes e : Sem Unit).bind fun _ => .raise e) id id) fs s
  rw [Sem.bind_eq_wrap', Sem.wrap_wrap]
  refine seg_wrap (wpAny_onRaise (wpAny_mono h (fun r s1 h1 => ?_) fun x s' hx => wpAny_standAt (out hx)))
  cases r with
  | none => exact seg_again rfl h1
  | some v =>
    show Seg _ A R Y n s₀ _ ((letOwnedTupleGo target it v >>= fun _ => (assign target env v >>= fun _ => (execs body env >>= fun f => (match f with
      | .next => again (.forLoop target it body [] env)
      | .cont => again (.forLoop target it body [] env)
      | .brk => pure (.done .next)
      | .ret v => pure (.done (.ret v)) : Sem PySem.Fin)))).wrap .pure (fun e => (do noteFrame e env; theTreesLotGoes e : Sem Unit).bind fun _ => .raise e) id id) fs s1
    rw [Sem.bind_eq_wrap', Sem.wrap_wrap]
    refine seg_wrap (wpAny_mono h1 (fun _ s2 h2 => ?_) fun x s' hx => out hx)
    rw [Sem.bind_eq_wrap', Sem.wrap_wrap]
    refine seg_wrap (wpAny_mono h2 (fun _ s3 h3 => ?_) fun x s' hx => out hx)
    rw [Sem.bind_eq_wrap', Sem.wrap_wrap]
    rw [Sem.wrap_congr (execs body env) _ _ (K' := fun f => match f with
          | .next | .cont => .pure (.again (.forLoop target it body [] env))
          | .brk => .pure (.done .next)
          | .ret v => .pure (.done (.ret v))) (H' := (fun e => (do noteFrame e env; theTreesLotGoes e : Sem Unit).wrap (fun _ => .raise e) .raise id id))
      (fun f => by cases f <;> rfl)
      (fun e => by first | exact Sem.bind_eq_wrap _ _ | (show (do noteFrame e env; theTreesLotGoes e : Sem Unit).bind (fun _ => .raise e) = _; rw [Sem.bind_eq_wrap]))]
    exact h3
end
end GF

namespace L2
open PySem PySem.Spec PyProof.Rows GenW
section
variable {X : Cx} {tg : Expr}
def tGFor (wi : TI) (g : TG) (tb : TGn) : TGn := fun D ys σ H => wi σ H fun J H1 => ∃ W : Nat → Nat → List V → St → Hp → Prop, (∃ m, W 0 m ys σ H1) ∧ ∀ i m ys σ H, W i m ys σ H →
  (J.stop i H ∧ D.nx ys σ H) ∨ (J.go i H ∧ ∃ N : List V → St → Hp → Prop, (∀ ys' σ' H', N ys' σ' H' → ∃ m', m' < m ∧ W (i + 1) m' ys' σ' H') ∧ ∀ x H', J.yld i H x H' → g x σ H' fun σ2 H2 => tb { D with nx := N, ct := N, bk := D.nx } ys σ2 H2)
theorem gs_for {iter : Expr} {body : List Stmt} {wi : TI} {g : TG} {tb : TGn} {pos : Pos} (hp : PassesOwn (model X.prog X.w) X.A X.env X.xe) (hc : X.calm = true) (hi : PI X tg iter wi) (hg : PG X tg g) (hb : GSs X body tb)
    (hs : ∀ x, foldedSetIterable iter X.env x = pure x := by intro _; rfl) : GS X (.For tg iter body [] pos) (tGFor wi g tb) := by
  refine ⟨fun A S ip R n ys s₀ c fs K J gd lv s σ H D g0 hn k hI ht => ?_⟩
  obtain ⟨acc0, cc0, r0, I0⟩ := hI
  refine GF.seg_For ?_ hs
  rw [g0.over]
  refine wpAny_mono (hi.run _ s σ H _ I0 ht) (fun v s1 h1 => wpAny_mono h1 (fun itv s2 h2 => ?_) fun x s' hx => k.exc n s₀ x s' hx) fun x s' hx => k.exc n s₀ x s' hx
  obtain ⟨it, fp, tn, Jt, H2, e, I2, T, st2, f2, W, ⟨m0, w0⟩, turn⟩ := h2
  subst e
  intro p
  have gl := fun (kk : Result → Sem PySem.Fin) => gc_loop (k := kk) (c' := .forLoop tg (.ref it) body [] X.env) (l := lv []) (kp := []) (p := p) g0 rfl rfl
  have stat : ∀ {acc : Array Value} {cc : Nat} {H' : Hp}, (∀ b ∈ fp, H' b = none) → ∀ b ∈ fp, FpOk X ((S, lstObj acc cc) :: ip) H' b := fun {acc cc H'} hn b hb => by
    obtain ⟨_, f3, f4, f5, f6, f7⟩ := f2 b hb
    refine ⟨hn b hb, f3, f4, f5, f6, fun q hq => ?_⟩
    rcases List.mem_append.mp hq with z | z
    · exact f7 q (List.mem_append_left _ z)
    · rcases List.mem_cons.mp z with z | z
      · subst z
        exact f7 (S, lstObj acc0 cc0) (List.mem_append_right _ (List.mem_cons_self ..))
      · exact f7 q (List.mem_append_right _ (List.mem_cons_of_mem _ z))
  have apartS : ∀ b ∈ fp, b ≠ S := fun b hb z => by
    obtain ⟨_, _, _, _, _, f7⟩ := f2 b hb
    exact f7 (S, lstObj acc0 cc0) (List.mem_append_right _ (List.mem_cons_self ..)) z.symm
  have loop : ∀ (m i n : Nat) (ys : List V) (s₀ s : Shared) (σ : St) (H : Hp), n + ys.length = sizeLine → W i m ys σ H → GI X S ip ys σ H s → tn i s.heap → (∀ b ∈ fp, H b = none) →
      Seg (model X.prog X.w) A R (GY X S) n s₀ (.forLoop tg (.ref it) body [] X.env) ((model X.prog X.w).den (.forLoop tg (.ref it) body [] X.env))
        (.ret (fun r => ((match r with | .ok f => (.pure f : Sem Flow) | .error e => .raise e).onRaise (cameBack X.env)).wrap K J gd lv) none (gd false) (lv []) c p [] :: fs) s := by
    intro m
    induction m using Nat.strongRecOn with
    | ind m ih =>
      intro i n ys s₀ s σ H hn w hI st fr
      have ee : ∀ (n : Nat) (s₀ : Shared) (x : Value) (s' : Shared), X.xe x s' → GF.Out X.prog X.w A R (GY X S) n s₀ (.forLoop tg (.ref it) body [] X.env)
          (.ret (fun r => ((match r with | .ok f => (.pure f : Sem Flow) | .error e => .raise e).onRaise (cameBack X.env)).wrap K J gd lv) none (gd false) (lv []) c p [] :: fs) X.env x s' := fun n s₀ x s' hx => by
        refine seg_wrap ?_
        rw [(gl _).over]
        refine wpAny_bind (wpAny_mono (hp x s' hx) (fun _ s'' hcb => wpAny_theTreesLotGoes ?_) fun y s'' hcb => ?_)
        · exact seg_leaf (.error x) (seg_cameBack g0 k hcb)
        · exact seg_leaf (.error y) (seg_cameBack g0 k hcb)
      refine GF.seg_forLoop ?_
      rw [(gl _).over]
      obtain ⟨acc, cc, r, I⟩ := hI
      rcases turn i m ys σ H w with ⟨stop, qn⟩ | ⟨go, N, hN, step⟩
      · refine wpAny_mono (T.done X rfl rfl rfl hc i _ s σ H X.xe I (stat fr) st stop) (fun r1 s4 hr4 => ?_) fun x s' hx => ee n s₀ x s' hx
        obtain ⟨hr, I4⟩ := hr4
        subst hr
        exact seg_leaf (.ok .next) (k.ok n ys s₀ s4 .next hn ⟨σ, H, ⟨acc, cc, r, I4⟩, qn⟩)
      · refine wpAny_mono (T.item X rfl rfl rfl hc i _ s σ H X.xe I (stat fr) st go) (fun r1 s4 hr4 => ?_) fun x s' hx => ee n s₀ x s' hx
        obtain ⟨u, hr, h4⟩ := hr4
        subst hr
        refine wpAny_mono h4 (fun _ s5 h5 => ?_) fun x s' hx => ee n s₀ x s' hx
        obtain ⟨x, H5, I5, r5, y5, st5, fr5⟩ := h5
        have I5' := I5.pinned (stat fr5) (T.obj _ _ st5)
        refine wpAny_mono (hg.run _ s5 σ H5 x u _ I5' r5 (step x H5 y5)) (fun _ s6 h6 => ?_) fun x s' hx => ee n s₀ x s' hx
        obtain ⟨σ6, H6, I6, q6⟩ := h6
        have gl2 := fun (kk : Result → Sem PySem.Fin) => gl kk
        refine hb.run A S (ip ++ pinsAt fp s5.heap) R n ys s₀ _ _ _ _ id id s6 σ6 H6 { D with nx := N, ct := N, bk := D.nx } ⟨g0.pn, fun q hq => ?_, g0.apart, (gl _).over, (gl _).split, (gl _).guard, rfl⟩ hn ⟨fun n' ys' s₀' s7 f hn' hs => ?_, fun n' s₀' x s7 hx => ee n' s₀' x s7 hx⟩ ⟨acc, cc, r, I6⟩ q6
        · rcases List.mem_append.mp hq with z | z
          · exact g0.ip q z
          · exact apartS _ (of_pinsAt z).1
        have back : ∀ {σ7 : St} {H7 : Hp}, GI X S (ip ++ pinsAt fp s5.heap) ys' σ7 H7 s7 → GI X S ip ys' σ7 H7 s7 ∧ tn (i + 1) s7.heap ∧ ∀ b ∈ fp, H7 b = none := fun {σ7 H7} z => by
          obtain ⟨acc7, cc7, r7, I7⟩ := z
          refine ⟨⟨acc7, cc7, r7, Inv.unpinned (pl := pinsAt fp s5.heap) I7⟩, T.keep _ _ _ st5 fun b hb o e => ?_, fun b hb => ?_⟩
          · exact (I7.pin (b, o) (List.mem_append_right _ (List.mem_cons_of_mem _ (List.mem_append_right _ (mem_pinsAt hb e))))).1
          · obtain ⟨o, e, d⟩ := T.obj _ _ st5 b hb
            exact (I7.pin (b, o) (List.mem_append_right _ (List.mem_cons_of_mem _ (List.mem_append_right _ (mem_pinsAt hb e))))).2.1
        cases f with
        | next =>
          obtain ⟨σ7, H7, I7, n7⟩ := hs
          obtain ⟨m', hm, w7⟩ := hN ys' σ7 H7 n7
          obtain ⟨J7, t7, fr7⟩ := back I7
          exact seg_again rfl (ih m' hm (i + 1) n' ys' s₀' s7 σ7 H7 hn' w7 J7 t7 fr7)
        | cont =>
          obtain ⟨σ7, H7, I7, n7⟩ := hs
          obtain ⟨m', hm, w7⟩ := hN ys' σ7 H7 n7
          obtain ⟨J7, t7, fr7⟩ := back I7
          exact seg_again rfl (ih m' hm (i + 1) n' ys' s₀' s7 σ7 H7 hn' w7 J7 t7 fr7)
        | brk =>
          obtain ⟨σ7, H7, I7, n7⟩ := hs
          exact seg_leaf (.ok .next) (k.ok n' ys' s₀' s7 .next hn' ⟨σ7, H7, (back I7).1, n7⟩)
        | ret v =>
          obtain ⟨x7, σ7, H7, I7, r7, n7⟩ := hs
          exact seg_leaf (.ok (.ret v)) (k.ok n' ys' s₀' s7 (.ret v) hn' ⟨x7, σ7, H7, (back I7).1, r7, n7⟩)
  exact loop m0 0 n ys s₀ s2 σ H2 hn w0 ⟨acc0, cc0, r0, I2⟩ st2 fun b hb => (f2 b hb).1
end
end L2

/-! if in a generator's body -/
namespace GF
open PySem PySem.Spec PyProof.Rows L2 GenW
def tGIf (tc : TT) (tb te : TGn) : TGn := fun D ys σ H => tc σ H fun k H1 => if k = true then tb D ys σ H1 else te D ys σ H1
theorem gs_if {X : Cx} {test : Expr} {body orelse : List Stmt} {pos : Pos} {tc : TT} {tb te : TGn} (hc : PT X test tc) (hb : GSs X body tb) (he : GSs X orelse te) : GS X (.If test body orelse pos) (tGIf tc tb te) := by
  refine ⟨fun A S ip R n ys s₀ c fs K J gd lv s σ H D g hn k hI ht => ?_⟩
  obtain ⟨acc, cc, r, I⟩ := hI
  rw [exec_If]
  refine seg_at ?_
  show Seg _ A R (GY X S) n s₀ c ((PySem.isTrue test X.env (eval test X.env) >>= fun b => if b = true then execs body X.env else execs orelse X.env).wrap K J gd lv) fs s
  rw [Sem.bind_eq_wrap', Sem.wrap_wrap]
  refine seg_wrap ?_
  rw [g.over]
  refine wpAny_mono (hc.run _ s σ H _ I ht) (fun b s' hb' => ?_) fun x s' hx => k.exc n s₀ x s' hx
  obtain ⟨H2, I2, q2⟩ := hb'
  cases b with
  | true =>
    rw [if_pos rfl] at q2
    exact hb.run A S ip R n ys s₀ c fs K J gd lv s' σ H2 D g hn k ⟨acc, cc, r, I2⟩ q2
  | false =>
    rw [if_neg Bool.false_ne_true] at q2
    exact he.run A S ip R n ys s₀ c fs K J gd lv s' σ H2 D g hn k ⟨acc, cc, r, I2⟩ q2
end GF

namespace G
open PySem PySem.Spec PyProof.Rows L2
/-! ### generator defs that only hand out what they walk -/
/-- a generator def at the module's name x -/
structure DcG (c : Md) (x : Str) (ps : List Str) (k : Nat) (sp : SpG) : Prop where
  ex : ∃ (f : Addr) (fd : FuncData), GFn c.prog c.w c.K c.mg c.base k f fd ps sp ∧ c.mg x = some (.ref f) ∧ PySem.W.keepIn c.K (.ref f) = true ∧ Binds c.K fd ps []
section
variable {c : Cd} {σ : L2.St} {H : Hp} {Q : VK} {pos : Pos}
/-- list(f(e, ..)) of a generator def -/
theorem e_listG {x : Str} {p p1 p2 : Pos} {e : Expr} {es : List Expr} {ps : List Str} {k : Nat} {sp : SpG} (D : DcG c.toMd x ps k sp) (hm0 : c.mg "list" = none) (q : RA c (e :: es) σ H fun vs H1 => sp vs H1 (fun out H2 => ∀ p, H2 p = none → Q (.ref p) (upd H2 p (.lst out))) fun _ _ _ => False) (hk : k + 3 ≤ c.k := by exact Nat.le_of_ble_eq_true rfl) (hg : c.sc.names.lookup x = some .globalImplicit := by rfl) (hg2 : c.sc.names.lookup ("list" : Str) = some .globalImplicit := by rfl)
    (hdb : (x == ("__debug__" : Str)) = false := by decide) (he : ∀ env, starEach (e :: es) env = (false, eval e env) :: starEach es env := by intro _; rfl) (hpl : ∀ env, (backTo p2 (starEach es env)).any (·.1) = false := by intro _; rfl) (h1 : ∀ env, starEach [.Call (.Name x p1) (e :: es) [] p2] env = (false, eval (.Call (.Name x p1) (e :: es) [] p2) env) :: starEach [] env := by intro _; rfl) :
    RE c (.Call (.Name "list" p) [.Call (.Name x p1) (e :: es) [] p2] [] pos) σ H Q := by
  obtain ⟨f, fd, F, hm, hkp, hb⟩ := D.ex
  refine re_of (t := tListG (tCallG sp [] (fun _ _ _ => False) (RA c (e :: es)))) (fun X h => ?_) (RA.mono (fun vs H1 z => ?_) q)
  · refine pe_listG (k := k) (E := fun _ _ _ => False) (pgen_call (f := f) (fd := fd) (ps := ps) (ds := []) ?_ (h.room.mono (Nat.le_trans (Nat.le_add_right _ _) hk)) (gl_of h hg) (by rw [h.mg]; exact hm) (by rw [h.K]; exact hkp) (by rw [h.K]; exact hb) .nil (pa_ra h) hdb (he _) (hpl _)) (fun _ _ _ _ _ _ _ z => by obtain ⟨_, _, _, _, _, _, _, _, _, _, _, _, hf⟩ := z; exact hf.elim) (fun _ _ _ z => z.elim) (h.room.mono hk) (gl_of h hg2) (by rw [h.mg]; exact hm0) (by decide +kernel) (by decide) (by decide) (h1 _)
    rw [h.prog, h.w, h.K, h.mg, h.base]; exact F
  · rw [List.append_nil]
    exact z
end
theorem is_gcx {M : Md} {N : List Str} {qual : Str} {sc : Scope} {f : Addr} {cdv : Value} {A : Around} {outer : List Env} {s : Shared} {H : Hp} {E : XK} {pn : List (Addr × Obj)} {k : Nat} (hn : N.Nodup) (hr : Room k (A.deeper (envOfC qual sc s.heap.objs.size f cdv))) :
    Is ⟨M, N, sc, k, true, false, none⟩ (gcxOf M.prog M.w M.K M.mg M.base N qual sc f cdv A outer s H E pn) :=
  ⟨rfl, rfl, rfl, rfl, rfl, rfl, rfl, rfl, hr, fun _ _ => rfl, owns_gcx, hn, fun z => Bool.noConfusion z, fun _ _ z => nomatch z⟩
/-- a generator def whose body is «for x in e: yield x» -/
theorem gfn_walk {M : Md} {x qual : Str} {st : Stmt} {f : Addr} {fd : FuncData} {N ps : List Str} {k : Nat} {sp : SpG} {tg it e : Expr} {p1 p2 p3 : Pos} (F : Fun M.K x qual st f fd) (S : GScope N ps (defScope st)) (len : ∀ vs H Q E, sp vs H Q E → vs.length = ps.length)
    (hst : defBody st = [.For tg it [.Expr (.Yield (some e) p1) p2] [] p3]) (hs : ∀ env x, foldedSetIterable it env x = pure x) (hi : ∀ env : Env, env.scope = defScope st → interactive env = false)
    (body : ∀ (H : Hp) (vs : List V) (Q : List V → Hp → Prop) (E : XK), sp vs H Q E → RI ⟨M, N, defScope st, k, true, false, none⟩ tg it (start N vs) H fun J H1 => ∃ W : Nat → Nat → List V → L2.St → Hp → Prop, (∃ m, W 0 m [] (start N vs) H1) ∧ ∀ i m ys σ H, W i m ys σ H →
      (J.stop i H ∧ Q ys H) ∨ (J.go i H ∧ ∃ Nx : List V → L2.St → Hp → Prop, (∀ ys' σ' H', Nx ys' σ' H' → ∃ m', m' < m ∧ W (i + 1) m' ys' σ' H') ∧ ∀ x H', J.yld i H x H' → RG ⟨M, N, defScope st, k, true, false, none⟩ tg x σ H' fun σ2 H2 => ys.length < sizeLine ∧ RE ⟨M, N, defScope st, k, true, false, none⟩ e σ2 H2 fun y H3 => Nx (ys ++ [y]) σ2 H3)) :
    GFn M.prog M.w M.K M.mg M.base (k + 1) f fd ps sp := by
  obtain ⟨oc, od, kV, doc, pm, an, cdv, ct, osl, rfl, lk, hcd⟩ := F.ex
  refine gfn_of lk hcd S len fun A outer s H vs Q E pn hr h => ?_
  have hx := is_gcx (M := M) (N := N) (qual := qual) (sc := defScope st) (f := f) (cdv := cdv) (A := A) (outer := outer) (s := s) (H := H) (E := E) (pn := pn) S.nd hr
  refine ⟨_, hst ▸ gss_cons (gs_for owns_gcx rfl (pi_ri hx) (pg_rg hx) (gss_cons (gs_yield (pe_re hx) S.co (hi _ rfl)) gss_nil) (hs _)) gss_nil, ?_⟩
  refine RI.mono (fun J H1 z => ?_) (body H vs Q E h)
  obtain ⟨W, w0, tn⟩ := z
  exact ⟨W, w0, tn⟩
end G

namespace G
open PySem PySem.Spec PyProof.Rows L2
theorem rs_only {c : Cd} {st : Stmt} {D : Ends} {σ : L2.St} {H : Hp} {nx : L2.St → Hp → Prop} (q : RS c st ⟨nx, fun _ _ => False, fun _ _ => False, fun _ _ => False⟩ σ H) (w : ∀ σ H, nx σ H → D.nx σ H) : RS c st D σ H :=
  RS.mono (D := ⟨nx, fun _ _ => False, fun _ _ => False, fun _ _ => False⟩) (D' := D) ⟨w, fun _ _ z => False.elim z, fun _ _ z => False.elim z, fun _ _ z => False.elim z⟩ q
/-! ### a generator def that works on a stack -/
theorem gfn_stack {M : Md} {x qual : Str} {st : Stmt} {f : Addr} {fd : FuncData} {N ps : List Str} {k : Nat} {sp : SpG} {a1 a2 b1 b2 : Stmt} {test c1 e : Expr} {p1 p2 p3 p4 : Pos} (F : Fun M.K x qual st f fd) (S : GScope N ps (defScope st)) (len : ∀ vs H Q E, sp vs H Q E → vs.length = ps.length)
    (hst : defBody st = [a1, a2, .While test [b1, .If c1 [.Expr (.Yield (some e) p1) p2] [] p3, b2] [] p4]) (hi : ∀ env : Env, env.scope = defScope st → interactive env = false)
    (body : ∀ (H : Hp) (vs : List V) (Q : List V → Hp → Prop) (E : XK), sp vs H Q E → RS ⟨M, N, defScope st, k, true, false, none⟩ a1 ⟨fun σ0 H0 => RS ⟨M, N, defScope st, k, true, false, none⟩ a2 ⟨fun σ1 H1 => ∃ W : Nat → List V → L2.St → Hp → Prop, (∃ m, W m [] σ1 H1) ∧ ∀ m ys σ H, W m ys σ H →
      RT ⟨M, N, defScope st, k, true, false, none⟩ test σ H fun b H2 => if b = true then ∃ Nx : List V → L2.St → Hp → Prop, (∀ ys' σ' H', Nx ys' σ' H' → ∃ m', m' < m ∧ W m' ys' σ' H') ∧
        RS ⟨M, N, defScope st, k, true, false, none⟩ b1 ⟨fun σ3 H3 => RT ⟨M, N, defScope st, k, true, false, none⟩ c1 σ3 H3 fun b H4 => if b = true then ys.length < sizeLine ∧ RE ⟨M, N, defScope st, k, true, false, none⟩ e σ3 H4 fun y H5 => RS ⟨M, N, defScope st, k, true, false, none⟩ b2 ⟨Nx (ys ++ [y]), fun _ _ => False, fun _ _ => False, fun _ _ => False⟩ σ3 H5
            else RS ⟨M, N, defScope st, k, true, false, none⟩ b2 ⟨Nx ys, fun _ _ => False, fun _ _ => False, fun _ _ => False⟩ σ3 H4, fun _ _ => False, fun _ _ => False, fun _ _ => False⟩ σ H2
        else Q ys H2, fun _ _ => False, fun _ _ => False, fun _ _ => False⟩ σ0 H0, fun _ _ => False, fun _ _ => False, fun _ _ => False⟩ (start N vs) H) :
    GFn M.prog M.w M.K M.mg M.base (k + 1) f fd ps sp := by
  obtain ⟨oc, od, kV, doc, pm, an, cdv, ct, osl, rfl, lk, hcd⟩ := F.ex
  refine gfn_of lk hcd S len fun A outer s H vs Q E pn hr h => ?_
  have hx := is_gcx (M := M) (N := N) (qual := qual) (sc := defScope st) (f := f) (cdv := cdv) (A := A) (outer := outer) (s := s) (H := H) (E := E) (pn := pn) S.nd hr
  refine ⟨_, hst ▸ gss_cons (gs_ps (ps_rs hx)) (gss_cons (gs_ps (ps_rs hx)) (gss_cons (gs_while owns_gcx (pt_rt hx) (gss_cons (gs_ps (ps_rs hx)) (gss_cons (GF.gs_if (pt_rt hx) (gss_cons (gs_yield (pe_re hx) S.co (hi _ rfl)) gss_nil) gss_nil) (gss_cons (gs_ps (ps_rs hx)) gss_nil)))) gss_nil)), ?_⟩
  refine rs_only (body H vs Q E h) fun σ0 H0 q0 => ?_
  refine rs_only q0 fun σ1 H1 q1 => ?_
  obtain ⟨W, w0, turn⟩ := q1
  refine ⟨W, w0, fun m ys σ H2 w => RT.mono (fun b H3 q => ?_) (turn m ys σ H2 w)⟩
  cases b with
  | false =>
    rw [if_neg Bool.false_ne_true] at q ⊢
    exact q
  | true =>
    rw [if_pos rfl] at q ⊢
    obtain ⟨Nx, lt, q⟩ := q
    refine ⟨Nx, lt, rs_only q fun σ3 H4 q => ?_⟩
    refine RT.mono (fun b H5 q => ?_) q
    cases b with
    | true =>
      rw [if_pos rfl] at q ⊢
      exact ⟨q.1, RE.mono (fun y H6 q => rs_only q fun _ _ z => z) q.2⟩
    | false =>
      rw [if_neg Bool.false_ne_true] at q ⊢
      exact rs_only q fun _ _ z => z
end G

namespace G
open PySem PySem.Spec PyProof.Rows L2
/-! ### a generator def that works on a stack: one statement ahead of the while, two ahead of the yield -/
theorem gfn_stack1 {M : Md} {x qual : Str} {st : Stmt} {f : Addr} {fd : FuncData} {N ps : List Str} {k : Nat} {sp : SpG} {a1 b0 b1 b2 : Stmt} {test c1 e : Expr} {p1 p2 p3 p4 : Pos} (F : Fun M.K x qual st f fd) (S : GScope N ps (defScope st))
    (len : ∀ vs H Q E, sp vs H Q E → vs.length = ps.length) (hst : defBody st = [a1, .While test [b0, b1, .If c1 [.Expr (.Yield (some e) p1) p2] [] p3, b2] [] p4]) (hi : ∀ env : Env, env.scope = defScope st → interactive env = false)
    (body : ∀ (H : Hp) (vs : List V) (Q : List V → Hp → Prop) (E : XK), sp vs H Q E → RS ⟨M, N, defScope st, k, true, false, none⟩ a1 ⟨fun σ1 H1 => ∃ W : Nat → List V → L2.St → Hp → Prop, (∃ m, W m [] σ1 H1) ∧ ∀ m ys σ H, W m ys σ H →
      RT ⟨M, N, defScope st, k, true, false, none⟩ test σ H fun b H2 => if b = true then ∃ Nx : List V → L2.St → Hp → Prop, (∀ ys' σ' H', Nx ys' σ' H' → ∃ m', m' < m ∧ W m' ys' σ' H') ∧
        RS ⟨M, N, defScope st, k, true, false, none⟩ b0 ⟨fun σ2 H3 => RS ⟨M, N, defScope st, k, true, false, none⟩ b1 ⟨fun σ3 H3 => RT ⟨M, N, defScope st, k, true, false, none⟩ c1 σ3 H3 fun b H4 => if b = true then ys.length < sizeLine ∧ RE ⟨M, N, defScope st, k, true, false, none⟩ e σ3 H4 fun y H5 => RS ⟨M, N, defScope st, k, true, false, none⟩ b2 ⟨Nx (ys ++ [y]), fun _ _ => False, fun _ _ => False, fun _ _ => False⟩ σ3 H5
            else RS ⟨M, N, defScope st, k, true, false, none⟩ b2 ⟨Nx ys, fun _ _ => False, fun _ _ => False, fun _ _ => False⟩ σ3 H4, fun _ _ => False, fun _ _ => False, fun _ _ => False⟩ σ2 H3, fun _ _ => False, fun _ _ => False, fun _ _ => False⟩ σ H2
        else Q ys H2, fun _ _ => False, fun _ _ => False, fun _ _ => False⟩ (start N vs) H) :
    GFn M.prog M.w M.K M.mg M.base (k + 1) f fd ps sp := by
  obtain ⟨oc, od, kV, doc, pm, an, cdv, ct, osl, rfl, lk, hcd⟩ := F.ex
  refine gfn_of lk hcd S len fun A outer s H vs Q E pn hr h => ?_
  have hx := is_gcx (M := M) (N := N) (qual := qual) (sc := defScope st) (f := f) (cdv := cdv) (A := A) (outer := outer) (s := s) (H := H) (E := E) (pn := pn) S.nd hr
  refine ⟨_, hst ▸ gss_cons (gs_ps (ps_rs hx)) (gss_cons (gs_while owns_gcx (pt_rt hx) (gss_cons (gs_ps (ps_rs hx)) (gss_cons (gs_ps (ps_rs hx)) (gss_cons (GF.gs_if (pt_rt hx) (gss_cons (gs_yield (pe_re hx) S.co (hi _ rfl)) gss_nil) gss_nil) (gss_cons (gs_ps (ps_rs hx)) gss_nil))))) gss_nil), ?_⟩
  refine rs_only (body H vs Q E h) fun σ1 H1 q1 => ?_
  obtain ⟨W, w0, turn⟩ := q1
  refine ⟨W, w0, fun m ys σ H2 w => RT.mono (fun b H3 q => ?_) (turn m ys σ H2 w)⟩
  cases b with
  | false =>
    rw [if_neg Bool.false_ne_true] at q ⊢
    exact q
  | true =>
    rw [if_pos rfl] at q ⊢
    obtain ⟨Nx, lt, q⟩ := q
    refine ⟨Nx, lt, rs_only q fun σ2 H4 q => rs_only q fun σ3 H4 q => ?_⟩
    refine RT.mono (fun b H5 q => ?_) q
    cases b with
    | true =>
      rw [if_pos rfl] at q ⊢
      exact ⟨q.1, RE.mono (fun y H6 q => rs_only q fun _ _ z => z) q.2⟩
    | false =>
      rw [if_neg Bool.false_ne_true] at q ⊢
      exact rs_only q fun _ _ z => z
end G

namespace G
open PySem PySem.Spec PyProof.Rows L2
section
variable {c : Cd} {σ : L2.St} {H : Hp} {Q : VK} {pos : Pos}
theorem s_setLc2 {nx : L2.St → Hp → Prop} {rt : VK} {bk ct : L2.St → Hp → Prop} {i : Nat} {y : Str} {py : Pos} {elt tg iter tg1 iter1 : Expr} {ifs ifs1 : List Expr} {scope : Scope} {own : List (Str × Nat)} {vs1 : List Nat} {spos : Pos} (hA : At c.N i y) (ok : Blk c scope own) (hv : ∀ i ∈ vs1, i ∈ own.map (·.2))
    (q : tLc2 (RI c tg iter) (RG (blkCd c scope) tg) (RTs (blkCd c scope) ifs) (RI (blkCd c scope) tg1 iter1) (RG (blkCd c scope) tg1) (RTs (blkCd c scope) ifs1) (RE (blkCd c scope) elt) (own.map (·.2)) vs1 σ H fun v H1 => nx (σ.set i (some v)) H1)
    (hy : c.sc.names.lookup y = some .local := by rfl) (hl : (py.line == pos.line) = true := by rfl) (ha : (scope.names.any fun (n, k) => n == y && (k == .local || k == .cell)) = false := by rfl) (hf : c.sc.kind = .function := by rfl) (hs : ∀ env x, foldedSetIterable iter env x = pure x := by intro _ _; rfl) (hs1 : ∀ env x, foldedSetIterable iter1 env x = pure x := by intro _ _; rfl) :
    RS c (.Assign [.Name y py] (.ListComp elt [⟨tg, iter, ifs, 0⟩, ⟨tg1, iter1, ifs1, 0⟩] scope pos) spos) ⟨nx, rt, bk, ct⟩ σ H :=
  rs_of (c := c) (σ := σ) (H := H) (D := ⟨nx, rt, bk, ct⟩) (t := tAsg (tLc2 (RI c tg iter) (RG (blkCd c scope) tg) (RTs (blkCd c scope) ifs) (RI (blkCd c scope) tg1 iter1) (RG (blkCd c scope) tg1) (RTs (blkCd c scope) ifs1) (RE (blkCd c scope) elt) (own.map (fun p : Str × Nat => p.2)) vs1) (gName i)) (fun X h => ps_setLc2 h.calm (by rw [h.N]; exact h.nd) (by rw [h.N]; exact hA.get) (by rw [h.sc]; exact hy)
    (sw_true (by rw [h.sc]; exact hf) (by rw [h.sc]; exact hy) hl ha) (pi_ri h) (by rw [h.N, h.sc]; exact ok.ok) hv (fun s H C cl fp => pg_rg (is_blk h s H C cl fp)) (fun s H C cl fp => pts_rts (is_blk h s H C cl fp)) (fun s H C cl fp => pi_ri (is_blk h s H C cl fp)) (fun s H C cl fp => pg_rg (is_blk h s H C cl fp)) (fun s H C cl fp => pts_rts (is_blk h s H C cl fp)) (fun s H C cl fp => pe_re (is_blk h s H C cl fp)) (hs _) hs1) q
end
end G
namespace K
open PySem PySem.Spec PyProof.Rows L2 G
variable {M : Md}
/-- [e for x in xs for t in range(a, b)] of data: outer over a list, all steps new -/
theorem lc2_LR {c : Cd} {σ : L2.St} {H : Hp} {Q : VK} {elt tg iter tg1 a b : Expr} {p ppos : Pos} {scope : Scope} {vs vs1 : List Nat} {g : PyData → Int → PyData} (hm : c.mg "range" = none)
    (q : RE c iter σ H fun x H1 => ∃ l xs ds lo hi, x = .ref l ∧ SqL c.K H1 l xs ∧ DtAll c.K H1 xs ds ∧ (-1000 ≤ lo ∧ lo ≤ 1000) ∧ (-2000 ≤ hi ∧ hi ≤ 2000) ∧ ds.length * (hi - lo).toNat ≤ 1000 ∧
      (∀ d v H', d ∈ ds → Same H1 H' → Dt c.K H' v d → RG (blkCd c scope) tg v (wipe σ vs) H' fun σ2 H2 => H2 = H' ∧ wipe σ2 vs = wipe σ vs ∧
        RE (blkCd c scope) a σ2 H2 fun y H3 => RE (blkCd c scope) b σ2 H3 fun z H4 => y = .int lo ∧ z = .int hi ∧ H4 = H' ∧
        ∀ (t : Nat) H', Same H1 H' → (lo + t < hi) → Dt c.K H' v d → RG (blkCd c scope) tg1 (.int (lo + t)) (wipe σ2 vs1) H' fun σ3 H5 => H5 = H' ∧ wipe σ3 vs1 = wipe σ2 vs1 ∧ RE (blkCd c scope) elt σ3 H5 fun w H6 => Same H5 H6 ∧ Dt c.K H6 w (g d (lo + t))) ∧
      ∀ p us H3, Same H1 H3 → H1 p = none → H3 p = some (.lst us) → DtAll c.K H3 us (ds.flatMap fun d => (List.range (hi - lo).toNat).map fun t : Nat => g d (lo + (t : Int))) → Q (.ref p) H3)
    (hg : (blkCd c scope).sc.names.lookup ("range" : Str) = some .globalImplicit := by rfl) (hs : ∀ env, starEach [a, b] env = [(false, eval a env), (false, eval b env)] := by intro _; rfl) (hs2 : ∀ env, starEach [b] env = [(false, eval b env)] := by intro _; rfl) :
    tLc2 (RI c tg iter) (RG (blkCd c scope) tg) (RTs (blkCd c scope) []) (RI (blkCd c scope) tg1 (.Call (.Name "range" p) [a, b] [] ppos)) (RG (blkCd c scope) tg1) (RTs (blkCd c scope) []) (RE (blkCd c scope) elt) vs vs1 σ H Q := by
  refine i_list (RE.mono (fun x H1 z => ?_) q)
  obtain ⟨l, xs, ds, lo, hi, rfl, ht, hd, lb, hb, many, tn, k⟩ := z
  refine ⟨l, rfl, ⟨xs, ht⟩, fun D hD => ?_⟩
  have lx := hd.len
  let row : PyData → List PyData := fun d => (List.range (hi - lo).toNat).map fun t : Nat => g d (lo + (t : Int))
  have rowl : ∀ d, (row d).length = (hi - lo).toNat := fun d => by simp [row]
  have rowsl : ∀ es : List PyData, (es.flatMap row).length = es.length * (hi - lo).toNat := fun es => by
    induction es with
    | nil => simp
    | cons e es ih => rw [List.flatMap_cons, List.length_append, rowl, ih, List.length_cons, Nat.add_mul, Nat.one_mul, Nat.add_comm]
  refine ⟨fun i m H' => m = xs.length - i ∧ i ≤ xs.length ∧ ∃ acc, H' D = some (.lst acc) ∧ Same H1 H' ∧ DtAll c.K H' acc ((ds.take i).flatMap row), ⟨xs.length, by simp, Nat.zero_le _, [], upd_same, same_new hD, .nil⟩, ?_⟩
  rintro i m H2 ⟨rfl, hi2, acc, ha, s2, h2⟩
  by_cases hlt : i < xs.length
  · obtain ⟨d, hdi, hx⟩ := hd.getV (List.getElem?_eq_getElem hlt)
    refine .inr ⟨⟨xs, xs[i], s2.seq ht, by simp [hlt]⟩, fun H' => ∃ acc, H' D = some (.lst acc) ∧ Same H1 H' ∧ DtAll c.K H' acc ((ds.take (i + 1)).flatMap row), fun H' ⟨acc, z1, z2, z3⟩ => ⟨xs.length - (i + 1), by omega, rfl, hlt, acc, z1, z2, z3⟩, ?_⟩
    rintro y H3 ⟨e0, yy⟩
    subst e0
    have e := yy xs (s2.seq ht)
    rw [List.getElem?_eq_getElem hlt] at e
    cases e
    refine RG.mono (fun σ2 H4 z => ?_) (tn d xs[i] _ (List.mem_of_getElem? hdi) s2 (hx.mono (tp_same s2)))
    obtain ⟨rfl, w1, z⟩ := z
    refine ⟨w1, ts_nil ?_⟩
    rw [if_pos rfl]
    refine i_range2 hm (a_cons (RE.mono (fun y H5 z => a_cons (RE.mono (fun z2 H6 z => a_nil ?_) z) (fun env => by rw [hs2]; rfl)) z) (fun env => by rw [hs, hs2])) hg hs hs2
    obtain ⟨rfl, rfl, rfl, tn2⟩ := z
    have hcap : (ds.take i).length * (hi - lo).toNat + (hi - lo).toNat ≤ 1000 := by
      have h1 : (ds.take i).length + 1 ≤ ds.length := by rw [List.length_take]; omega
      have h2 := Nat.mul_le_mul_right (hi - lo).toNat h1
      rw [Nat.add_mul, Nat.one_mul] at h2
      omega
    refine ⟨lo, hi, rfl, ⟨by omega, by omega, by omega, by omega⟩, fun j k H' => k = (hi - lo).toNat - j ∧ j ≤ (hi - lo).toNat ∧ ∃ acc, H' D = some (.lst acc) ∧ Same H1 H' ∧ DtAll c.K H' acc ((ds.take i).flatMap row ++ (List.range j).map fun t : Nat => g d (lo + (t : Int))), ⟨(hi - lo).toNat, by simp, Nat.zero_le _, acc, ha, s2, by simpa using h2⟩, ?_⟩
    rintro j k0 H7 ⟨rfl, hj, acc7, ha7, s7, h7⟩
    by_cases hjl : j < (hi - lo).toNat
    · refine .inr ⟨hjl, fun H' => ∃ acc, H' D = some (.lst acc) ∧ Same H1 H' ∧ DtAll c.K H' acc ((ds.take i).flatMap row ++ (List.range (j + 1)).map fun t : Nat => g d (lo + (t : Int))), fun H' ⟨acc, z1, z2, z3⟩ => ⟨(hi - lo).toNat - (j + 1), by omega, rfl, hjl, acc, z1, z2, z3⟩, ?_⟩
      rintro y H8 ⟨e8, rfl⟩
      subst e8
      refine RG.mono (fun σ3 H9 z => ?_) (tn2 j _ s7 (by omega) (hx.mono (tp_same s7)))
      obtain ⟨rfl, w3, z⟩ := z
      refine ⟨w3, ts_nil ?_⟩
      rw [if_pos rfl]
      refine RE.mono (fun w H10 z => ?_) z
      obtain ⟨s10, h10⟩ := z
      have aD := s10 _ _ ha7
      have ku := kp_upd (o' := .lst (acc7 ++ [w])) aD (fun _ e => nomatch e) (fun _ _ e => nomatch e)
      have l7 := h7.len
      rw [List.length_append, rowsl, List.length_map, List.length_range] at l7
      refine ⟨acc7, aD, Nat.lt_of_le_of_lt (show acc7.length ≤ 1000 by omega) (by decide), acc7 ++ [w], upd_same, same_mut (s7.trans s10) hD, ?_⟩
      rw [List.range_succ, List.map_append, ← List.append_assoc]
      exact ((h7.mono (tp_same s10)).mono ku.t).app (.cons (h10.mono ku.t) .nil)
    · have ej : j = (hi - lo).toNat := by omega
      subst ej
      refine .inl ⟨Nat.le_refl _, acc7, ha7, s7, ?_⟩
      rw [List.take_succ_eq_append_getElem (by omega), List.flatMap_append]
      have ed : ds[i]'(by omega) = d := by
        have := List.getElem?_eq_getElem (l := ds) (i := i) (by omega)
        rw [this] at hdi
        exact Option.some.inj hdi
      rw [ed]
      simpa [row] using h7
  · have e : i = xs.length := by omega
    subst e
    rw [lx, List.take_length] at h2
    exact .inl ⟨⟨xs, s2.seq ht, Nat.le_refl _⟩, k D acc H2 s2 hD ha h2⟩
end K

namespace K
open PySem PySem.Spec PyProof.Rows L2 G
variable {M : Md}
def gApp : PyData → Int → PyData
  | .tuple xs, t => .tuple (xs ++ [.int t])
  | d, _ => d
theorem widen_app (acc : List St1) (p : Rng) : (acc.map stD).flatMap (fun d => (List.range (p.2 + 1 - p.1).toNat).map fun t : Nat => gApp d (p.1 + (t : Int))) = (widen acc p).map stD := by
  unfold widen span
  rw [List.flatMap_map, List.map_flatMap]
  congr 1
  funext o
  rw [List.map_map]
  congr 1
  funext t
  simp [gApp, stD]
def rComb : List PyData → List PyData → Prop := fun ds es => ∃ rs : List Row, ds = [.tuple (rngs rs)] ∧ Small rs ∧ es = (statesOf (rg rs)).map stD
set_option maxHeartbeats 1000000 in
theorem ok_comb {f fd} (F : Fun M.K "_combined" "_combined" s__combined f fd) (b : Bl M) : FnG M.prog M.w M.K M.mg M.base CX0 1 f fd ["ranges"] (spL rComb M.K) := by
  refine fn_ok F sc__combined (fun vs H Q E h => ?_) (fun H vs Q E h => ?_)
  · obtain ⟨ds, d, h, ⟨rs, rfl, _⟩, _⟩ := h
    exact h.len
  obtain ⟨ds, d, h, ⟨rs, rfl, sm, rfl⟩, k⟩ := h
  obtain _ | ⟨hc, h⟩ := h
  cases h
  rename_i vc
  refine b_cut (fun σ1 H1 => ∃ l us, σ1 = [some vc, some (.ref l), none, none, none, none] ∧ Same H H1 ∧ H l = none ∧ H1 l = some (.lst us) ∧ DtAll M.K H1 us [stD []]) ?_ ?_
  · refine s_set (by tm_at "at") ?_
    refine e_lstD ?_
    refine a_cons (e_tupD (a_nil ?_))
    refine tupend (ds := []) .nil (Nat.le_of_ble_eq_true rfl) fun v0 H0 s0 h0 => ?_
    refine a_nil ⟨(Nat.le_of_ble_eq_true rfl), fun l1 H1 s1 n1 g1 => ?_⟩
    exact ⟨l1, _, rfl, s0.trans s1, same_none s0 n1, g1, .cons (h0.mono (tp_same s1)) .nil⟩
  rintro _ H1 ⟨l1, u1, rfl, s1, n1, g1, h1⟩
  refine b_cut (fun σ1 H2 => ∃ (l : Addr) (us : List V) (v2 v3 : Option V), σ1 = [some vc, some (.ref l), v2, v3, none, none] ∧ Same H H2 ∧ H l = none ∧ H2 l = some (.lst us) ∧ DtAll M.K H2 us ((statesOf (rg rs)).map stD)) ?_ ?_
  · rw [rngs_eq] at hc
    obtain ⟨a, xs, rfl, ht, hd⟩ := (hc.mono (tp_same s1)).tupE
    refine s_forT ?_
    refine e_var (by tm_at "at") ?_
    refine ⟨a, xs, rfl, ht, fun i σ1 H' => ∃ (l : Addr) (us : List V) (v2 v3 : Option V), σ1 = [some (.ref a), some (.ref l), v2, v3, none, none] ∧ Same H1 H' ∧ H l = none ∧ H' l = some (.lst us) ∧ DtAll M.K H' us ((statesOf ((rg rs).take i)).map stD), ⟨l1, u1, none, none, rfl, Same.refl _, n1, g1, h1⟩, ?_, ?_, ?_⟩
    · rintro i σ' H' _ ⟨l, us, v2, v3, rfl, s, _⟩
      exact (tp_same s).sqt ht
    · rintro i x σ' H3 hx ⟨l, us, v2, v3, rfl, s3, n3, g3, h3⟩
      obtain ⟨d, hdi, hx'⟩ := hd.getV hx
      rw [List.getElem?_map] at hdi
      obtain ⟨pr, hp, rfl⟩ := Option.map_eq_some_iff.mp hdi
      obtain ⟨ap, xp, rfl, htp, hdp⟩ := (hx'.mono (tp_same s3)).tupE
      obtain _ | ⟨e1, hdp⟩ := hdp
      obtain _ | ⟨e2, hdp⟩ := hdp
      cases hdp
      cases e1
      cases e2
      have spn := sm.sp pr (List.mem_of_getElem? hp)
      have cnt : (widen (statesOf ((rg rs).take i)) pr).length ≤ 256 := by
        rw [← states_snoc hp, states_len]
        exact Nat.le_trans (many_take (fun p hp => (sm.sp p hp).1) _) sm.many
      rw [widen_len] at cnt
      refine g_tup htp (gs_cons (g_name (by tm_at "at") (gs_cons (g_name (by tm_at "at") (gs_nil ?_)))))
      refine b_one ?_
      refine s_setLc2 (own := [("state", 4), ("value", 5)]) (vs1 := [5]) (by tm_at "at") (Blk.of (N := N__combined) (sc := defScope s__combined) rfl rfl (by decide +kernel)) (by decide) ?_
      refine lc2_LR (g := gApp) b.range ?_
      refine e_var (by tm_at "at") ?_
      refine ⟨l, us, _, pr.1, pr.2 + 1, rfl, .of g3, h3, by unfold span at spn; omega, by unfold span at spn; omega, ?_, ?_, ?_⟩
      · rw [List.length_map]
        unfold span at cnt
        omega
      · intro d v H' hd' s' hv
        obtain ⟨o, ho, rfl⟩ := List.mem_map.mp hd'
        refine g_name (by tm_at "at") ⟨rfl, rfl, ?_⟩
        tm_at "go"
        refine ⟨rfl, rfl, rfl, ?_⟩
        intro t H4 s4 ht4 hv4
        refine g_name (by tm_at "at") ⟨rfl, rfl, ?_⟩
        tm_at "go"
        refine e_tupD ?_
        tm_at "go"
        refine tupend (.cons (.int _) .nil) (Nat.le_of_ble_eq_true rfl) fun vp H5 s5 hp5 => ?_
        have ol : o.length ≤ 100 := by
          have h1 := states_mem ho
          have h2 : ((rg rs).take i).length ≤ (rg rs).length := by rw [List.length_take]; omega
          have h3 := sm.tot
          rw [rg_len] at h2
          omega
        refine ro_catT (hv4.mono (tp_same s5)) hp5 (by rw [List.length_map]; simp only [List.length_cons, List.length_nil]; omega) fun v9 H9 s9 h9 => ?_
        exact ⟨s5.trans s9, h9⟩
      · intro p ys H4 s4 n4 g4 h4
        rw [widen_app, ← states_snoc hp] at h4
        exact ⟨p, ys, _, _, rfl, s3.trans s4, same_none (s1.trans s3) n4, g4, h4⟩
    · rintro σ' H3 ⟨l, us, v2, v3, rfl, s3, n3, g3, h3⟩
      have lx := hd.len
      rw [List.length_map] at lx
      rw [lx, List.take_length] at h3
      exact ⟨l, us, v2, v3, rfl, s1.trans s3, n3, g3, h3⟩
  rintro _ H2 ⟨l, us, v2, v3, rfl, s2, n2, g2, h2⟩
  tm_at "go"
  exact k _ _ _ s2 n2 g2 h2
end K

namespace K
open PySem PySem.Spec PyProof.Rows L2 G
variable {M : Md}
def rSlist : List PyData → List PyData → Prop := fun ds es => ∃ (rs : List Row) (rest : List PyData), ds = [.tuple (cellsD rs :: rest)] ∧ Small rs ∧ es = (statesOf (rg rs)).map stD
theorem ok_slist {f fd} (F : Fun M.K "state_list" "state_list" s_state_list f fd) (b : Bl M) (dr : Dc M "cell_ranges" ["cells"] 2 (spF rRanges M.K)) (dc : Dc M "_combined" ["ranges"] 1 (spL rComb M.K)) : FnG M.prog M.w M.K M.mg M.base CX0 3 f fd ["program"] (spL rSlist M.K) := by
  refine fn_ok F sc_state_list (fun vs H Q E h => ?_) (fun H vs Q E h => ?_)
  · obtain ⟨ds, d, h, ⟨rs, rest, rfl, _⟩, _⟩ := h
    exact h.len
  obtain ⟨ds, d, h, ⟨rs, rest, rfl, sm, rfl⟩, k⟩ := h
  obtain _ | ⟨hp, h⟩ := h
  cases h
  rename_i vp
  tm_at "go"
  refine e_callL dc ?_
  refine a_cons ?_
  refine e_callF dr ?_
  tm_at "go"
  refine rx_tup hp (d := cellsD rs) (pl_at (j := 0) rfl rfl) fun vc hc => ?_
  tm_at "go"
  refine ⟨_, _, .cons hc .nil, ⟨rs, rfl, Nat.le_trans sm.tot (by decide), rfl⟩, fun v2 H2 s2 h2 => ?_⟩
  refine a_nil ?_
  exact ⟨_, _, .cons h2 .nil, ⟨rs, rfl, sm, rfl⟩, fun l us H3 s3 n3 g3 h3 => k _ _ _ (s2.trans s3) (same_none s2 n3) g3 h3⟩
/-- the generator: it hands out the states, and leaves what was there -/
def spAll (K : PySem.W.Frag) : SpG := fun vs H Q _ => ∃ (v : V) (rs : List Row) (rest : List PyData), vs = [v] ∧ Dt K H v (.tuple (cellsD rs :: rest)) ∧ Small rs ∧ ∀ out H', Same H H' → DtAll K H' out ((statesOf (rg rs)).map stD) → Q out H'
theorem gsc_all : GScope N_all_states ["program"] (defScope s_all_states) := ⟨rfl, rfl, rfl, by decide +kernel, rfl, by decide +kernel, by decide +kernel⟩
theorem ok_all {f fd} (F : Fun M.K "all_states" "all_states" s_all_states f fd) (b : Bl M) (ds : Dc M "state_list" ["program"] 3 (spL rSlist M.K)) : GFn M.prog M.w M.K M.mg M.base 4 f fd ["program"] (spAll M.K) := by
  refine gfn_walk F gsc_all (fun vs H Q E h => ?_) rfl (by intro _ _; rfl) (fun env he => ?_) (fun H vs Q E h => ?_)
  · obtain ⟨v, rs, rest, rfl, _⟩ := h
    rfl
  · unfold interactive
    rw [he]
    rfl
  obtain ⟨v, rs, rest, rfl, hv, sm, k⟩ := h
  refine i_list ?_
  refine e_callL ds ?_
  refine a_cons (e_var (by tm_at "at") (a_nil ?_))
  refine ⟨_, _, .cons hv .nil, ⟨rs, rest, rfl, sm, rfl⟩, fun l us H1 s1 n1 g1 h1 => ?_⟩
  have lu := h1.len
  have cnt : us.length ≤ 256 := by
    rw [lu, List.length_map, states_len]
    exact sm.many
  refine ⟨l, rfl, ⟨us, .of g1⟩, fun i m ys σ H2 => m = us.length - i ∧ i ≤ us.length ∧ (∃ v1, σ = [some v, v1]) ∧ H2 = H1 ∧ ys = us.take i, ⟨us.length, by simp, Nat.zero_le _, ⟨_, rfl⟩, rfl, rfl⟩, ?_⟩
  rintro i m ys σ H2 ⟨rfl, hi, ⟨v1, rfl⟩, rfl, rfl⟩
  by_cases hlt : i < us.length
  · refine .inr ⟨⟨us, us[i], .of g1, by simp [hlt]⟩, fun ys' σ' H' => (∃ v1, σ' = [some v, v1]) ∧ H' = H2 ∧ ys' = us.take (i + 1), fun ys' σ' H' ⟨z1, z2, z3⟩ => ⟨us.length - (i + 1), by omega, rfl, hlt, z1, z2, z3⟩, ?_⟩
    rintro x H3 ⟨e0, yy⟩
    subst e0
    have e := yy us (.of g1)
    rw [List.getElem?_eq_getElem hlt] at e
    cases e
    refine g_name (by tm_at "at") ⟨?_, ?_⟩
    · rw [List.length_take]
      exact Nat.lt_of_le_of_lt (show min i us.length ≤ 256 by omega) (by decide)
    · refine e_var (by tm_at "at") ?_
      exact ⟨⟨_, rfl⟩, rfl, by rw [List.take_succ_eq_append_getElem hlt]⟩
  · have e : i = us.length := by omega
    subst e
    refine .inl ⟨⟨us, .of g1, Nat.le_refl _⟩, k _ _ s1 ?_⟩
    rw [List.take_length]
    exact h1
end K

namespace K
open PySem PySem.Spec PyProof.Rows L2 G
/-! ### repr of data: its size -/
structure Shw (m n : Nat) (d : PyData) : Prop where
  ok : d.showable = true
  len : d.shown.length ≤ n
  dep : d.depth ≤ m
  nod : d.hasDict = false
theorem Shw.up {m n m' n' : Nat} {d : PyData} (h : Shw m n d) (h1 : m ≤ m') (h2 : n ≤ n') : Shw m' n' d := ⟨h.ok, Nat.le_trans h.len h2, Nat.le_trans h.dep h1, h.nod⟩
theorem sw_none : Shw 0 13 .none := ⟨by simp only [PyData.showable], by simp only [PyData.shown]; decide, by simp only [PyData.depth]; exact Nat.le_refl _, by simp only [PyData.hasDict]⟩
theorem sw_bool (b : Bool) : Shw 0 13 (.bool b) := by
  refine ⟨by simp only [PyData.showable], ?_, by simp only [PyData.depth]; exact Nat.le_refl _, by simp only [PyData.hasDict]⟩
  simp only [PyData.shown]
  cases b <;> decide
theorem sw_int {i : Int} (h : i.natAbs < 10 ^ 12) : Shw 0 13 (.int i) := by
  refine ⟨?_, PyData.shown_int_le h, by simp only [PyData.depth]; exact Nat.le_refl _, by simp only [PyData.hasDict]⟩
  simp only [PyData.showable, decide_eq_true_eq]
  have h2 : i.natAbs.log2 < 40 := PySem.Flt.log2_lt_of (by decide) (Nat.lt_of_lt_of_le h (by decide))
  omega
theorem sw_str {x : Str} {n : Nat} (h : (reprText x).length ≤ n) : Shw 0 n (.str x) := ⟨by simp only [PyData.showable], by simp only [PyData.shown]; exact h, by simp only [PyData.depth]; exact Nat.le_refl _, by simp only [PyData.hasDict]⟩
theorem sw_all {m n : Nat} : ∀ {ds : List PyData}, (∀ d ∈ ds, Shw m n d) → PyData.showableAll ds = true ∧ ((PyData.shownAll ds).map (·.length)).sum ≤ ds.length * n ∧ PyData.depthAll ds ≤ m ∧ PyData.hasDictAll ds = false
  | [], _ => ⟨by simp only [PyData.showableAll], by simp only [PyData.shownAll]; exact Nat.zero_le _, by simp only [PyData.depthAll]; exact Nat.zero_le _, by simp only [PyData.hasDictAll]⟩
  | d :: ds, h => by
    have h1 := h d (List.mem_cons_self ..)
    obtain ⟨a1, a2, a3, a4⟩ := sw_all fun e he => h e (List.mem_cons_of_mem _ he)
    refine ⟨by simp only [PyData.showableAll, h1.ok, a1, Bool.and_self], ?_, ?_, by simp only [PyData.hasDictAll, h1.nod, a4, Bool.or_self]⟩
    · have := h1.len
      simp only [PyData.shownAll, List.map_cons, List.sum_cons, List.length_cons, Nat.succ_mul]
      omega
    · simp only [PyData.depthAll]
      exact Nat.max_le.mpr ⟨h1.dep, a3⟩
theorem sw_tup {m n k : Nat} {ds : List PyData} (h : ∀ d ∈ ds, Shw m n d) (hk : ds.length ≤ k) : Shw (m + 1) (k * (n + 2) + 3) (.tuple ds) := by
  obtain ⟨a1, a2, a3, a4⟩ := sw_all h
  refine ⟨by simp only [PyData.showable, a1], ?_, by simp only [PyData.depth]; omega, by simp only [PyData.hasDict, a4]⟩
  simp only [PyData.shown]
  refine Nat.le_trans (tupleText_len_le _) ?_
  have e : (PyData.shownAll ds).length = ds.length := PyData.shownAll_length ds
  have e2 : ds.length * (n + 2) ≤ k * (n + 2) := Nat.mul_le_mul_right _ hk
  rw [e]
  rw [Nat.mul_add] at e2
  omega
theorem sw_lst {m n k : Nat} {ds : List PyData} (h : ∀ d ∈ ds, Shw m n d) (hk : ds.length ≤ k) : Shw (m + 1) (k * (n + 2) + 3) (.list ds) := by
  obtain ⟨a1, a2, a3, a4⟩ := sw_all h
  refine ⟨by simp only [PyData.showable, a1], ?_, by simp only [PyData.depth]; omega, by simp only [PyData.hasDict, a4]⟩
  simp only [PyData.shown]
  refine Nat.le_trans (listText_len_le _) ?_
  have e : (PyData.shownAll ds).length = ds.length := PyData.shownAll_length ds
  have e2 : ds.length * (n + 2) ≤ k * (n + 2) := Nat.mul_le_mul_right _ hk
  rw [e]
  rw [Nat.mul_add] at e2
  omega
/-! ### repr(v) of a tuple or list of data -/
def rRepr (K : PySem.W.Frag) : List V → Hp → VK → Prop := fun vs H Q => ∃ a d, vs = [.ref a] ∧ Dp K H (.ref a) d ∧ Shw 60 1000000 d ∧ Q (.str d.shown) H
theorem cr_repr {X : Cx} (quiet : X.A.guards = some []) (hu : X.A.units + 64 < cLine) : CallR X (.builtin "repr") (rRepr X.K) := by
  intro pins st σ H vs us Q J rv z
  obtain ⟨a, d, rfl, hd, sw, k⟩ := z
  obtain rfl := Vals.ref1 rv
  obtain ⟨as, rd⟩ := Dp.reads J d (.ref a) (.ref a) hd rfl
  have h1 := sw.dep
  have h2 := sw.len
  refine repr_of_reads' rd sw.ok (fun h => by rw [sw.nod] at h; cases h) quiet (by omega) (fun _ _ e => e) (fun h' u tk keep => ?_) (by rw [sizeLine_eq]; omega)
  exact ⟨.str d.shown, H, J.kept (t' := tk) keep, ⟨u, rfl⟩, k⟩
theorem rc_repr {c : Cd} {H : Hp} {Q : VK} {a : Addr} {d : PyData} (hd : Dp c.K H (.ref a) d) (sw : Shw 60 1000000 d) (q : Q (.str d.shown) H) (hq : c.g = true := by rfl) : RC c (.builtin "repr") [.ref a] H Q :=
  rc_of (r := rRepr c.K) (fun X h => by rw [← h.K]; exact cr_repr (h.gd hq) h.room.units) ⟨a, d, rfl, hd, sw, q⟩
end K

namespace K
open PySem PySem.Spec PyProof.Rows L2 G
/-! ### data whose text and depth are bounded -/
mutual
def wt : PyData → Nat
  | .none => 13
  | .bool _ => 13
  | .int i => i.natAbs.log2 + 13
  | .str s => 10 * s.length + 13
  | .list ds => wts ds + 13
  | .tuple ds => wts ds + 13
  | .dict _ => 0
def wts : List PyData → Nat
  | [] => 0
  | d :: ds => wt d + 4 + wts ds
end
mutual
def gd (L : Nat) : PyData → Bool
  | .none => true
  | .bool _ => true
  | .int i => decide (i.natAbs.log2 < L)
  | .str s => PyData.strOk s
  | .list ds => gds L ds
  | .tuple ds => gds L ds
  | .dict _ => false
def gds (L : Nat) : List PyData → Bool
  | [] => true
  | d :: ds => gd L d && gds L ds
end
theorem wts_app : ∀ ds es : List PyData, wts (ds ++ es) = wts ds + wts es
  | [], es => by simp [wts]
  | d :: ds, es => by simp only [List.cons_append, wts, wts_app ds es]; omega
theorem gds_all {L : Nat} {ds : List PyData} : gds L ds = true ↔ ∀ d ∈ ds, gd L d = true := by
  induction ds with
  | nil => simp [gds]
  | cons d ds ih => simp [gds, ih]
theorem wts_mem : ∀ {ds : List PyData} {d : PyData}, d ∈ ds → wt d + 4 ≤ wts ds
  | e :: ds, d, h => by
    simp only [wts]
    rcases List.mem_cons.mp h with h | h
    · subst h; omega
    · have := wts_mem h; omega
theorem wts_len : ∀ ds : List PyData, 4 * ds.length ≤ wts ds
  | [] => by simp [wts]
  | d :: ds => by have := wts_len ds; simp only [wts, List.length_cons]; omega
theorem int_len {i : Int} (h : i.natAbs.log2 < 1900) : (PyData.shown (.int i)).length ≤ i.natAbs.log2 + 13 := by
  simp only [PyData.shown]
  have h1 := int_text_length_le (a := i) (k := i.natAbs.log2 + 1) (Nat.succ_pos _) (Nat.lt_succ_self _)
  show (Str.ofString (toString i)).length ≤ _
  rw [PySem.ofString_length]
  omega
theorem strOk_small {s : Str} (h : PyData.strOk s = true) : ∀ c ∈ s.cps.toList, c < 16 ^ 8 := by
  intro c hc
  have h1 : s.cps.all (· < 0x110000) = true := h
  rw [← Array.all_toList, List.all_eq_true] at h1
  have := of_decide_eq_true (h1 c hc)
  omega
mutual
theorem shown_wt {L : Nat} (hL : L ≤ 1900) : ∀ d : PyData, gd L d = true → d.shown.length ≤ wt d ∧ d.showable = true ∧ d.hasDict = false ∧ d.canLay0 = true
  | .none, _ => by simp only [PyData.shown, PyData.showable, PyData.hasDict, PyData.canLay0, wt]; decide
  | .bool b, _ => by simp only [PyData.shown, PyData.showable, PyData.hasDict, PyData.canLay0, wt]; cases b <;> decide
  | .int i, h => by
    have h1 : i.natAbs.log2 < L := by simpa [gd] using h
    refine ⟨by rw [wt]; exact int_len (by omega), ?_, by simp only [PyData.hasDict], by simp only [PyData.canLay0]⟩
    simp only [PyData.showable, decide_eq_true_eq]
    omega
  | .str s, h => by
    have h1 : PyData.strOk s = true := by simpa [gd] using h
    refine ⟨?_, by simp only [PyData.showable], by simp only [PyData.hasDict], by simp only [PyData.canLay0]; exact h1⟩
    simp only [PyData.shown, wt]
    have := StrLaws.reprText_len s (strOk_small h1)
    omega
  | .list ds, h => by
    have h1 : gds L ds = true := by simpa [gd] using h
    obtain ⟨a1, a2, a3, a4, a5⟩ := shown_wts hL ds h1
    refine ⟨?_, by simp only [PyData.showable]; exact a2, by simp only [PyData.hasDict]; exact a3, by simp only [PyData.canLay0]; exact a4⟩
    simp only [PyData.shown, wt]
    have := listText_len_le (PyData.shownAll ds)
    rw [a5] at this
    omega
  | .tuple ds, h => by
    have h1 : gds L ds = true := by simpa [gd] using h
    obtain ⟨a1, a2, a3, a4, a5⟩ := shown_wts hL ds h1
    refine ⟨?_, by simp only [PyData.showable]; exact a2, by simp only [PyData.hasDict]; exact a3, by simp only [PyData.canLay0]; exact a4⟩
    simp only [PyData.shown, wt]
    have := tupleText_len_le (PyData.shownAll ds)
    rw [a5] at this
    omega
  | .dict _, h => by simp [gd] at h
theorem shown_wts {L : Nat} (hL : L ≤ 1900) : ∀ ds : List PyData, gds L ds = true → ((PyData.shownAll ds).map (·.length)).sum + 4 * ds.length ≤ wts ds ∧ PyData.showableAll ds = true ∧ PyData.hasDictAll ds = false ∧ PyData.canLayAll0 ds = true ∧ (PyData.shownAll ds).length = ds.length
  | [], _ => by simp only [PyData.shownAll, PyData.showableAll, PyData.hasDictAll, PyData.canLayAll0, wts]; simp
  | d :: ds, h => by
    have h1 : gd L d = true ∧ gds L ds = true := by simpa [gds] using h
    obtain ⟨b1, b2, b3, b4⟩ := shown_wt hL d h1.1
    obtain ⟨a1, a2, a3, a4, a5⟩ := shown_wts hL ds h1.2
    simp only [PyData.shownAll, PyData.showableAll, PyData.hasDictAll, PyData.canLayAll0, wts, b2, b3, b4, a2, a3, a4, a5, List.map_cons, List.sum_cons, List.length_cons, Bool.and_self, Bool.or_self, and_true]
    omega
end
structure GdL (L m n : Nat) (d : PyData) : Prop where
  g : gd L d = true
  dep : d.depth ≤ m
  wt : wt d ≤ n
theorem GdL.up {L m n m' n' : Nat} {d : PyData} (h : GdL L m n d) (h1 : m ≤ m') (h2 : n ≤ n') : GdL L m' n' d := ⟨h.g, Nat.le_trans h.dep h1, Nat.le_trans h.wt h2⟩
theorem GdL.shw {L m n : Nat} {d : PyData} (h : GdL L m n d) (hL : L ≤ 1900) (hm : m ≤ 60) (hn : n ≤ 1000000) : Shw 60 1000000 d := by
  obtain ⟨a1, a2, a3, _⟩ := shown_wt hL d h.g
  exact ⟨a2, Nat.le_trans a1 (Nat.le_trans h.wt hn), Nat.le_trans h.dep hm, a3⟩
theorem GdL.shp {L m n : Nat} {d : PyData} (h : GdL L m n d) (hL : L ≤ 1900 := by exact Nat.le_of_ble_eq_true rfl) : Shp m d := ⟨(shown_wt hL d h.g).2.2.2, h.dep⟩
theorem GdL.shaped {L m n : Nat} {d : PyData} (h : GdL L m n d) (hm : m ≤ 60) (hL : L ≤ 1900 := by exact Nat.le_of_ble_eq_true rfl) : SeqAt.shaped d = true := (h.shp hL).ok (by omega)
theorem depthAll_le {m : Nat} {ds : List PyData} : PyData.depthAll ds ≤ m ↔ ∀ d ∈ ds, d.depth ≤ m := by
  induction ds with
  | nil => simp [PyData.depthAll]
  | cons d ds ih => simp only [PyData.depthAll, List.mem_cons, forall_eq_or_imp, ← ih]; omega
theorem gd_tup {L m n : Nat} {ds : List PyData} : GdL L (m + 1) (n + 13) (.tuple ds) ↔ (∀ d ∈ ds, gd L d = true) ∧ (∀ d ∈ ds, d.depth ≤ m) ∧ wts ds ≤ n := by
  rw [← gds_all, ← depthAll_le]
  constructor
  · rintro ⟨h1, h2, h3⟩
    simp only [gd, PyData.depth, wt] at h1 h2 h3
    exact ⟨h1, by omega, by omega⟩
  · rintro ⟨h1, h2, h3⟩
    exact ⟨by simpa only [gd] using h1, by simp only [PyData.depth]; omega, by simp only [wt]; omega⟩
abbrev Gd (m n : Nat) (d : PyData) : Prop := GdL 1000 m n d
theorem gd_mono {L L' : Nat} (hL : L ≤ L') : ∀ d : PyData, gd L d = true → gd L' d = true
  | .none, _ => by simp only [gd]
  | .bool _, _ => by simp only [gd]
  | .int i, h => by simp only [gd, decide_eq_true_eq] at h ⊢; omega
  | .str s, h => by simpa only [gd] using h
  | .list ds, h => by
    simp only [gd] at h ⊢
    exact gds_all.mpr fun d hd => gd_mono hL d (gds_all.mp h d hd)
  | .tuple ds, h => by
    simp only [gd] at h ⊢
    exact gds_all.mpr fun d hd => gd_mono hL d (gds_all.mp h d hd)
  | .dict _, h => by simp [gd] at h
theorem GdL.lup {L L' m n : Nat} {d : PyData} (h : GdL L m n d) (hL : L ≤ L') : GdL L' m n d := ⟨gd_mono hL d h.g, h.dep, h.wt⟩
end K

namespace K
open PySem PySem.Spec PyProof.Rows L2 G
variable {M : Md}
/-! ### kinds of data -/
def tyN : PyData → String
  | .none => "NoneType" | .bool _ => "bool" | .int _ => "int" | .str _ => "str" | .list _ => "list" | .tuple _ => "tuple" | .dict _ => "dict"
def isTup : PyData → Bool
  | .tuple _ => true | _ => false
def isStr : PyData → Bool
  | .str _ => true | _ => false
def isBool : PyData → Bool
  | .bool _ => true | _ => false
def isIntB : PyData → Bool
  | .int _ => true | .bool _ => true | _ => false
theorem dt_ty {K : PySem.W.Frag} {H : Hp} {v : V} {d : PyData} (h : Dt K H v d) : TyX K H v (.type (tyN d)) := by
  cases h with
  | non => exact .base .non
  | bl b => exact .base (.bl b)
  | int i => exact .base (.int i)
  | str s => exact .base (.str s)
  | tup h1 _ => exact ty_tup h1
  | lst h1 _ => exact .base (.frz h1)
theorem dt_nodict {K : PySem.W.Frag} {H : Hp} {v : V} {k : List (PyData × PyData)} (h : Dt K H v (.dict k)) : False := by cases h
section
variable {c : Cd} {H : Hp} {Q : VK} {v : V} {d : PyData}
theorem rc_isTup (h : Dt c.K H v d) (q : Q (.bl (isTup d)) H) : RC c (.builtin "isinstance") [v, .ty "tuple"] H Q := by
  have t := dt_ty h
  cases d with
  | dict => exact (dt_nodict h).elim
  | _ => exact rc_isi t rfl q
theorem rc_isStr (h : Dt c.K H v d) (q : Q (.bl (isStr d)) H) : RC c (.builtin "isinstance") [v, .ty "str"] H Q := by
  have t := dt_ty h
  cases d with
  | dict => exact (dt_nodict h).elim
  | _ => exact rc_isi t rfl q
theorem rc_isBool (h : Dt c.K H v d) (q : Q (.bl (isBool d)) H) : RC c (.builtin "isinstance") [v, .ty "bool"] H Q := by
  have t := dt_ty h
  cases d with
  | dict => exact (dt_nodict h).elim
  | _ => exact rc_isi t rfl q
theorem rc_isInt (h : Dt c.K H v d) (q : Q (.bl (isIntB d)) H) : RC c (.builtin "isinstance") [v, .ty "int"] H Q := by
  have t := dt_ty h
  cases d with
  | dict => exact (dt_nodict h).elim
  | _ => exact rc_isi t rfl q
end
structure Bl2 (M : Md) : Prop where
  all : M.mg "all" = none
  repr : M.mg "repr" = none
def letters : Str := "abcdefghijklmnopqrstuvwxyz"
/-- the module's values -/
structure Gl46 (M : Md) : Prop where
  lt : ∃ u, M.mg "LETTERS" = some u ∧ RelV (.str letters) u
  ln : ∃ u, M.mg "LONGEST_NAME" = some u ∧ RelV (.int 8) u
  un : ∃ a, M.mg "UNARY" = some (.ref a) ∧ ∀ H, SqT M.K H a (uns.map V.str)
  bi : ∃ a, M.mg "BINARY" = some (.ref a) ∧ ∀ H, SqT M.K H a (bins.map V.str)
  dv : ∃ a, M.mg "DIVIDING" = some (.ref a) ∧ ∀ H, SqT M.K H a (kks.map V.str)
def isInt : PyData → Bool
  | .int _ => true | _ => false
def isNum : PyData → Bool
  | .int i => decide (0 ≤ i) | _ => false
def isSlot : PyData → Bool
  | .int i => decide (0 ≤ i) && decide (i < 32) | _ => false
def nameS (s : Str) : Bool := decide (1 ≤ s.length) && (decide (s.length ≤ 8) && s.cps.toList.all fun ch => decide (ch ∈ letters.cps.toList))
def isName : PyData → Bool
  | .str s => nameS s | _ => false
def isPlace : PyData → Bool
  | .tuple [a, b] => isName a && isNum b
  | .tuple _ => false
  | d => isName d
def isOp : PyData → Bool
  | .str s => decide (s ∈ bins) | _ => false
abbrev GdX (x : PyData) : Prop := GdL 1100 50 500000 x
def rB (p : PyData → Bool) : List PyData → PyData → Prop := fun ds d => ∃ x, ds = [x] ∧ GdX x ∧ d = .bool (p x)
abbrev dcB (M : Md) (nm : Str) (a : Str) (k : Nat) (p : PyData → Bool) : Prop := Dc M nm [a] k (spF (rB p) M.K)
theorem rB_len {p : PyData → Bool} {K : PySem.W.Frag} : ∀ vs H Q E, spF (rB p) K vs H Q E → vs.length = 1 := by
  rintro vs H Q E ⟨ds, d, h, ⟨x, rfl, _⟩, _⟩
  exact h.len
theorem isNum_int {x : PyData} : isNum x = true → ∃ i : Int, x = .int i ∧ 0 ≤ i := by
  intro h
  cases x <;> first | cases h | skip
  exact ⟨_, rfl, of_decide_eq_true h⟩
/-- the signs of a text, each looked at -/
theorem all_sz {z : Str} {p : Nat → Bool} {bs : List Bool} (h : bs = z.cps.toList.map p) : bs.all id = z.cps.toList.all p := by
  subst h
  rw [List.all_map]
  rfl
section
variable {c : Cd} {σ : L2.St} {H : Hp} {Q : VK} {pos : Pos} {elt tg iter : Expr} {ifs : List Expr} {scope : Scope} {vs : List Nat}
theorem sgn_step {g : Nat → Option PyData} {l : List Nat} {i : Nat} {ch : Nat} (h : l[i]? = some ch) : (l.take i).filterMap g ++ (g ch).toList = (l.take (i + 1)).filterMap g := by
  obtain ⟨h1, rfl⟩ := List.getElem?_eq_some_iff.mp h
  rw [List.take_succ_eq_append_getElem h1, List.filterMap_append]
  congr 1
/-- a comprehension over the signs of a text that changes nothing -/
theorem lcS_F (g : Nat → Option PyData) (q : RE c iter σ H fun x H1 => ∃ z : Str, x = .str z ∧ z.cps.size ≤ 1000 ∧ (∀ ch H', Same H1 H' → TurnF (blkCd c scope) tg ifs elt vs σ c.K (.str ⟨#[ch]⟩) H' (g ch)) ∧
      ∀ p us H3, Same H1 H3 → H1 p = none → H3 p = some (.lst us) → DtAll c.K H3 us (z.cps.toList.filterMap g) → Q (.ref p) H3) :
    tLc (RI c tg iter) (RG (blkCd c scope) tg) (RTs (blkCd c scope) ifs) (RE (blkCd c scope) elt) vs σ H Q := by
  refine ri_of (t := iStr (RE c iter)) (fun X h => pi_str (pe_re h)) (RE.mono (fun x H1 z => ?_) q)
  obtain ⟨z, rfl, hl, tn, k⟩ := z
  refine ⟨z, rfl, fun D hD => ?_⟩
  have hsz : z.cps.toList.length = z.cps.size := Array.length_toList
  refine ⟨fun i m H' => m = z.cps.size - i ∧ i ≤ z.cps.size ∧ ∃ acc, acc.length ≤ i ∧ H' D = some (.lst acc) ∧ Same H1 H' ∧ DtAll c.K H' acc ((z.cps.toList.take i).filterMap g), ⟨z.cps.size, by simp, Nat.zero_le _, [], Nat.le_refl _, upd_same, same_new hD, .nil⟩, ?_⟩
  rintro i m H' ⟨rfl, hi, acc, la, hA, s, hd⟩
  by_cases hlt : i < z.cps.size
  · refine .inr ⟨hlt, fun H' => ∃ acc, acc.length ≤ i + 1 ∧ H' D = some (.lst acc) ∧ Same H1 H' ∧ DtAll c.K H' acc ((z.cps.toList.take (i + 1)).filterMap g), fun H' p' => ⟨z.cps.size - (i + 1), by omega, rfl, hlt, p'⟩, fun x H2 yy => ?_⟩
    obtain ⟨e, ch, hc, rfl⟩ := yy
    subst e
    have hc' : z.cps.toList[i]? = some ch := by rw [Array.getElem?_toList]; exact hc
    have T := TurnF.one hD s hA hd (tn ch _ s)
    refine RG.mono (fun σ2 H2 z => ?_) T
    refine ⟨z.1, RTs.mono (fun b H3 z => ?_) z.2⟩
    cases b with
    | true => exact RE.mono (fun y H4 z => ⟨acc, z.1, Nat.lt_of_le_of_lt la (Nat.lt_of_lt_of_le hlt (Nat.le_trans hl (by decide))), acc ++ [y], by rw [List.length_append, List.length_singleton]; omega, z.2.1, z.2.2.1, by rw [← sgn_step hc']; exact z.2.2.2⟩) z
    | false => exact ⟨acc, by omega, z.1, z.2.1, by rw [← sgn_step hc']; exact z.2.2⟩
  · have e : i = z.cps.size := by omega
    subst e
    refine .inl ⟨Nat.le_refl _, k D acc H' s hD hA ?_⟩
    rw [List.take_of_length_le (by omega)] at hd
    exact hd
theorem rc_lenS {z : Str} (h : z.length ≤ 1000000) (q : Q (.int z.length) H) : RC c (.builtin "len") [.str z] H Q :=
  rc_of (fun X h => call_len_str) ⟨z, rfl, Nat.le_trans h (by decide), q⟩
theorem rc_all {p : Addr} {bs : List Bool} (h : SqL c.K H p (bs.map V.bl)) (q : Q (.bl (bs.all id)) H) : RC c (.builtin "all") [.ref p] H Q :=
  rc_of (r := rAll c.K) (fun X h => by rw [← h.K]; exact cr_all h.calm) ⟨p, bs, rfl, h, q⟩
end
theorem dtBools_eq {K : PySem.W.Frag} {H : Hp} : ∀ {bs : List Bool} {xs : List V}, DtAll K H xs (bs.map .bool) → xs = bs.map .bl
  | [], _, h => by cases h; rfl
  | b :: bs, _, h => by
    obtain _ | ⟨h1, h2⟩ := h
    cases h1
    rw [dtBools_eq h2]; rfl
theorem gdx_str {s : Str} (h : GdX (.str s)) : s.length ≤ 50000 := by
  have := h.wt
  simp only [wt] at this
  omega
end K

namespace K
open PySem L2 G
variable {M : Md}
/-! ### the meaning of expressions -/
def gt (st : St1) (j : Int) : Int := st.getD j.toNat 0
def b2 (p : Prop) [Decidable p] : Int := if p then 1 else 0
def un1 (op : Str) (v : Int) : Int := if op = "not" then b2 (v = 0) else -v
def cmp2 (op : Str) (a b : Int) : Bool := if op = "=" then decide (a = b) else if op = "<" then decide (a < b) else decide (a ≤ b)
def bin2 (op : Str) (a b : Int) : Int := if op = "+" then a + b else if op = "-" then a - b else if op = "*" then a * b else if op = "div" then a / b else if op = "mod" then a % b else
  if op = "least" then (if b < a then b else a) else if op = "most" then (if b > a then b else a) else if cmp2 op a b = true then 1 else 0
def ix (rs : List Row) (s : Str) : Int := (fIdx rs s none 0).getD 0
abbrev Res := Option Int × List Int
def thn1 (r : Res) (g : Int → Res) : Res := match r.1 with
  | none => (none, r.2)
  | some v => ((g v).1, r.2 ++ (g v).2)
def keyed (rs : List Row) (t : Str) (r : Res) : Res := match r.1 with
  | none => (none, r.2)
  | some v => (fIdx rs t (some v) 0, r.2)
def isLazy (op : Str) : Bool := decide (op = "and") || decide (op = "or")
def ev (rs : List Row) (st : St1) : Ex → Res
  | .int i => (some i, [])
  | .nm s => (some (gt st (ix rs s)), [ix rs s])
  | .at t e => thn1 (keyed rs t (ev rs st e)) fun j => (some (gt st j), [j])
  | .un op e => thn1 (ev rs st e) fun v => (some (un1 op v), [])
  | .bin op a b => if isLazy op = true then thn1 (ev rs st a) fun v => if decide (v ≠ 0) = decide (op = "or") then (some (b2 (v ≠ 0)), []) else thn1 (ev rs st b) fun w => (some (b2 (w ≠ 0)), [])
    else thn1 (ev rs st a) fun v => thn1 (ev rs st b) fun w => (some (bin2 op v w), [])
  | .kk op e n => thn1 (ev rs st e) fun v => (some (bin2 op v n), [])
  | .ite a b e => thn1 (ev rs st a) fun v => if v ≠ 0 then ev rs st b else ev rs st e
def resD (r : Res) : PyData := .tuple [optD r.1, .tuple (r.2.map .int)]
structure StOk (rs : List Row) (st : St1) : Prop where
  len : st.length = total rs
  val : ∀ v ∈ st, -1000 ≤ v ∧ v ≤ 1000
  tot : total rs ≤ 10
  nd : (rs.map nameOf).Nodup
  ri : RowsIn rs
  rng : ∀ (i : Nat) (r : Rng), (rg rs)[i]? = some r → r.1 ≤ gt st i ∧ gt st i ≤ r.2
theorem fIdx_in : ∀ {rs : List Row} {s : Str} {key : Option Int} {b j : Int}, fIdx rs s key b = some j → b ≤ j ∧ j < b + total rs
  | [], _, _, _, _, h => by cases h
  | r :: rs, s, key, b, j, h => by
    have e : total (r :: rs) = width r + total rs := by simp [total]
    have w1 : 1 ≤ width r := Nat.le_max_left _ _
    have w2 : r.2.1 ≤ width r := Nat.le_max_right _ _
    unfold fIdx at h
    split at h
    · cases key with
      | none =>
        rw [hit] at h
        split at h
        · cases h; omega
        · cases h
      | some k =>
        rw [hit] at h
        split at h
        · cases h; omega
        · cases h
    · have := fIdx_in h
      omega
theorem fIdx_plain : ∀ {rs : List Row} {s : Str} (b : Int), (rs.map nameOf).Nodup → (∃ r ∈ rs, r.1 = s ∧ r.2.1 = 0) → ∃ j, fIdx rs s none b = some j
  | [], _, _, _, h => by obtain ⟨r, hr, _⟩ := h; cases hr
  | r :: rs, s, b, nd, h => by
    rw [List.map_cons, List.nodup_cons] at nd
    unfold fIdx
    by_cases e : r.1 = s
    · rw [if_pos e]
      obtain ⟨r', hr', e', z'⟩ := h
      rcases List.mem_cons.mp hr' with rfl | hm
      · refine ⟨b, ?_⟩
        rw [hit]
        rw [if_pos (by omega)]
      · exact absurd (List.mem_map.mpr ⟨r', hm, show nameOf r' = nameOf r from e'.trans e.symm⟩) nd.1
    · rw [if_neg e]
      refine fIdx_plain _ nd.2 ?_
      obtain ⟨r', hr', e', z'⟩ := h
      rcases List.mem_cons.mp hr' with rfl | hm
      · exact absurd e' e
      · exact ⟨r', hm, e', z'⟩
theorem ix_ok {rs : List Row} {s : Str} (nd : (rs.map nameOf).Nodup) (h : ∃ r ∈ rs, r.1 = s ∧ r.2.1 = 0) : fIdx rs s none 0 = some (ix rs s) ∧ 0 ≤ ix rs s ∧ ix rs s < total rs := by
  obtain ⟨j, hj⟩ := fIdx_plain 0 nd h
  have e : ix rs s = j := by unfold ix; rw [hj]; rfl
  have := fIdx_in hj
  rw [e]
  exact ⟨hj, by omega, by omega⟩
theorem gt_at {rs : List Row} {st : St1} (S : StOk rs st) {j : Int} (h0 : 0 ≤ j) (h1 : j < total rs) : atI (st.map PyData.int) j = some (.int (gt st j)) := by
  have hl := S.len
  have hlt : j.toNat < st.length := by omega
  refine pl_at (j := j.toNat) (by omega) ?_
  rw [List.getElem?_map, List.getElem?_eq_getElem hlt]
  unfold gt
  rw [List.getD_eq_getElem?_getD, List.getElem?_eq_getElem hlt]
  rfl
theorem gt_val {rs : List Row} {st : St1} (S : StOk rs st) (j : Int) : -1000 ≤ gt st j ∧ gt st j ≤ 1000 := by
  unfold gt
  rw [List.getD_eq_getElem?_getD]
  cases e : st[j.toNat]? with
  | none => exact ⟨by decide, by decide⟩
  | some v => exact S.val v (List.mem_of_getElem? e)
theorem thn1_some {r : Res} {g : Int → Res} {w : Int} (h : (thn1 r g).1 = some w) : ∃ v, r.1 = some v ∧ (g v).1 = some w := by
  unfold thn1 at h
  cases e : r.1 with
  | none => rw [e] at h; cases h
  | some v => rw [e] at h; exact ⟨v, rfl, h⟩
def Bd : Nat → Nat
  | 0 => 1000000
  | n + 1 => Bd n * Bd n
theorem Bd_ge : ∀ n, 1000000 ≤ Bd n
  | 0 => Nat.le_refl _
  | n + 1 => Nat.le_trans (Bd_ge n) (Nat.le_mul_of_pos_left _ (Nat.lt_of_lt_of_le (by decide) (Bd_ge n)))
theorem Bd_two (n : Nat) : 2 * Bd n ≤ Bd (n + 1) := Nat.mul_le_mul_right _ (Nat.le_trans (by decide) (Bd_ge n))
theorem Bd_up (n : Nat) : Bd n ≤ Bd (n + 1) := by have := Bd_two n; omega
theorem un1_b {op : Str} {v : Int} {n : Nat} (h : v.natAbs ≤ Bd n) : (un1 op v).natAbs ≤ Bd (n + 1) := by
  have h1 := Bd_up n
  have h2 := Bd_ge n
  unfold un1 b2
  split
  · split <;> simp <;> omega
  · rw [Int.natAbs_neg]; omega
theorem bin2_b {op : Str} {a b : Int} {n : Nat} (ha : a.natAbs ≤ Bd n) (hb : b.natAbs ≤ Bd n) (hd : op = "div" ∨ op = "mod" → 1 ≤ b) : (bin2 op a b).natAbs ≤ Bd (n + 1) := by
  have h1 := Bd_two n
  have h2 := Bd_ge n
  unfold bin2
  split
  · omega
  split
  · omega
  split
  · rw [Int.natAbs_mul]; exact Nat.mul_le_mul ha hb
  split
  · rename_i h
    have hb1 := hd (.inl h)
    have : (a / b).natAbs ≤ a.natAbs := Int.natAbs_ediv_le_natAbs a b
    omega
  split
  · rename_i h
    have hb1 := hd (.inr h)
    have q1 := Int.emod_nonneg a (show b ≠ 0 by omega)
    have q2 := Int.emod_lt_of_pos a (show 0 < b by omega)
    omega
  split
  · split <;> omega
  split
  · split <;> omega
  split <;> simp <;> omega
theorem thn1_len {r : Res} {g : Int → Res} {a b : Nat} (h : r.2.length ≤ a) (h2 : ∀ v, r.1 = some v → (g v).2.length ≤ b) : (thn1 r g).2.length ≤ a + b := by
  unfold thn1
  cases e : r.1 with
  | none => simp; omega
  | some v => have := h2 v e; simp; omega
theorem kind_bin {op : Str} (h : op ∈ bins) : op ≠ "div" ∧ op ≠ "mod" := by
  have : ∀ op ∈ bins, op ≠ "div" ∧ op ≠ "mod" := by decide +kernel
  exact this op h
theorem b2_b (p : Prop) [Decidable p] (n : Nat) : (b2 p).natAbs ≤ Bd n := by
  have := Bd_ge n
  unfold b2
  split <;> simp <;> omega
theorem Bd_mono {m n : Nat} (h : m ≤ n) : Bd m ≤ Bd n := by
  induction h with
  | refl => exact Nat.le_refl _
  | step _ ih => exact Nat.le_trans ih (Bd_up _)
theorem evB {rs : List Row} {st : St1} (S : StOk rs st) : ∀ (e : Ex) (n : Nat) (v : Int), e.dep ≤ n → Fit rs e → (ev rs st e).1 = some v → v.natAbs ≤ Bd n
  | .int i, n, v, _, hf, h => by
    have h2 := Bd_ge n
    unfold ev at h
    cases h
    unfold Fit at hf
    omega
  | .nm s, n, v, _, hf, h => by
    have h2 := Bd_ge n
    unfold ev at h
    cases h
    have := gt_val S (ix rs s)
    omega
  | .at t e, n, v, hn, hf, h => by
    have h2 := Bd_ge n
    unfold ev at h
    obtain ⟨j, _, h3⟩ := thn1_some h
    cases h3
    have := gt_val S j
    omega
  | .un op e, n, v, hn, hf, h => by
    unfold Ex.dep at hn
    obtain ⟨m, rfl⟩ : ∃ m, n = m + 1 := ⟨n - 1, by omega⟩
    unfold ev at h
    obtain ⟨w, h3, h4⟩ := thn1_some h
    cases h4
    exact un1_b (evB S e m w (by omega) hf.2 h3)
  | .bin op a b, n, v, hn, hf, h => by
    unfold Ex.dep at hn
    obtain ⟨m, rfl⟩ : ∃ m, n = m + 1 := ⟨n - 1, by omega⟩
    unfold ev at h
    split at h
    · obtain ⟨w, h3, h4⟩ := thn1_some h
      split at h4
      · cases h4; exact b2_b _ _
      · obtain ⟨w2, h5, h6⟩ := thn1_some h4
        cases h6; exact b2_b _ _
    · obtain ⟨w, h3, h4⟩ := thn1_some h
      obtain ⟨w2, h5, h6⟩ := thn1_some h4
      cases h6
      exact bin2_b (evB S a m w (by omega) hf.2.1 h3) (evB S b m w2 (by omega) hf.2.2 h5) (fun z => z.elim (fun z => absurd z (kind_bin hf.1).1) (fun z => absurd z (kind_bin hf.1).2))
  | .kk op e k, n, v, hn, hf, h => by
    unfold Ex.dep at hn
    obtain ⟨m, rfl⟩ : ∃ m, n = m + 1 := ⟨n - 1, by omega⟩
    unfold ev at h
    obtain ⟨w, h3, h4⟩ := thn1_some h
    cases h4
    have h2 := Bd_ge m
    have h5 := hf.2.2
    exact bin2_b (evB S e m w (by omega) hf.2.1 h3) (by omega) (fun _ => h5.1)
  | .ite a b e, n, v, hn, hf, h => by
    unfold Ex.dep at hn
    obtain ⟨m, rfl⟩ : ∃ m, n = m + 1 := ⟨n - 1, by omega⟩
    unfold ev at h
    obtain ⟨w, h3, h4⟩ := thn1_some h
    have h2 := Bd_up m
    split at h4
    · exact Nat.le_trans (evB S b m v (by omega) hf.2.1 h4) h2
    · exact Nat.le_trans (evB S e m v (by omega) hf.2.2 h4) h2
theorem keyed_snd (rs : List Row) (t : Str) (r : Res) : (keyed rs t r).2 = r.2 := by
  unfold keyed
  split <;> rfl
theorem evL {rs : List Row} {st : St1} : ∀ (e : Ex) (n : Nat), e.dep ≤ n → (ev rs st e).2.length ≤ 2 ^ (n + 1)
  | .int i, n, _ => by unfold ev; exact Nat.zero_le _
  | .nm s, n, _ => by unfold ev; exact Nat.pos_of_ne_zero (by simp)
  | .at t e, n, hn => by
    unfold Ex.dep at hn
    obtain ⟨m, rfl⟩ : ∃ m, n = m + 1 := ⟨n - 1, by omega⟩
    have h1 := evL (rs := rs) (st := st) e m (by omega)
    have h2 : 0 < 2 ^ (m + 1) := Nat.pos_of_ne_zero (by simp)
    unfold ev
    rw [Nat.pow_succ, Nat.mul_two]
    exact thn1_len (by rw [keyed_snd]; exact h1) (fun v _ => h2)
  | .un op e, n, hn => by
    unfold Ex.dep at hn
    obtain ⟨m, rfl⟩ : ∃ m, n = m + 1 := ⟨n - 1, by omega⟩
    have h1 := evL (rs := rs) (st := st) e m (by omega)
    unfold ev
    rw [Nat.pow_succ, Nat.mul_two]
    exact thn1_len h1 (fun v _ => Nat.zero_le _)
  | .bin op a b, n, hn => by
    unfold Ex.dep at hn
    obtain ⟨m, rfl⟩ : ∃ m, n = m + 1 := ⟨n - 1, by omega⟩
    have h1 := evL (rs := rs) (st := st) a m (by omega)
    have h2 := evL (rs := rs) (st := st) b m (by omega)
    unfold ev
    rw [Nat.pow_succ, Nat.mul_two]
    split
    · refine thn1_len h1 fun v _ => ?_
      split
      · exact Nat.zero_le _
      · exact thn1_len (b := 0) h2 fun _ _ => Nat.le_refl _
    · refine thn1_len h1 fun v _ => ?_
      exact thn1_len (b := 0) h2 fun _ _ => Nat.le_refl _
  | .kk op e k, n, hn => by
    unfold Ex.dep at hn
    obtain ⟨m, rfl⟩ : ∃ m, n = m + 1 := ⟨n - 1, by omega⟩
    have h1 := evL (rs := rs) (st := st) e m (by omega)
    unfold ev
    rw [Nat.pow_succ, Nat.mul_two]
    exact thn1_len h1 (fun v _ => Nat.zero_le _)
  | .ite a b e, n, hn => by
    unfold Ex.dep at hn
    obtain ⟨m, rfl⟩ : ∃ m, n = m + 1 := ⟨n - 1, by omega⟩
    have h1 := evL (rs := rs) (st := st) a m (by omega)
    have h2 := evL (rs := rs) (st := st) b m (by omega)
    have h3 := evL (rs := rs) (st := st) e m (by omega)
    unfold ev
    rw [Nat.pow_succ, Nat.mul_two]
    refine thn1_len h1 fun v _ => ?_
    split
    · exact h2
    · exact h3
end K

namespace K
open PySem L2 G
variable {M : Md}
theorem dib {p : Prop} [Decidable p] : (if decide p = true then (1 : Int) else 0) = b2 p := by
  unfold b2
  by_cases h : p
  · rw [if_pos (decide_eq_true h), if_pos h]
  · rw [if_neg (by simp [h]), if_neg h]
def rIndex : List PyData → PyData → Prop := fun ds d => ∃ (rs : List Row) (s : Str) (j : Int), ds = [cellsD rs, .str s, .none] ∧ fIdx rs s none 0 = some j ∧ d = .int j
def isIntD : PyData → Bool
  | .int _ => true
  | _ => false
def plainD : PyData → Prop
  | .int _ | .str _ | .tuple _ => True
  | _ => False
theorem rc_isiD {c : Cd} {H : Hp} {Q : VK} {v : V} {x : PyData} (hp : plainD x) (hx : Dt c.K H v x) (q : Q (.bl (isIntD x)) H) : RC c (.builtin "isinstance") [v, .ty "int"] H Q := by
  cases x with
  | int i =>
    cases hx
    exact rc_isi (.base (.int i)) rfl q
  | str s =>
    cases hx
    exact rc_isi (.base (.str s)) rfl q
  | tuple ds =>
    obtain ⟨a, xs, rfl, ht, _⟩ := hx.tupE
    exact rc_isi (ty_tup ht) rfl q
  | none => exact hp.elim
  | bool => exact hp.elim
  | list => exact hp.elim
  | dict => exact hp.elim
def rOne : List PyData → PyData → Prop := fun ds d => ∃ (op : Str) (v : Int), ds = [.str op, .int v] ∧ d = .int (un1 op v)
def rCmp : List PyData → PyData → Prop := fun ds d => ∃ (op : Str) (a b : Int), ds = [.str op, .int a, .int b] ∧ d = .bool (cmp2 op a b)
theorem ok_cmp {f fd} (F : Fun M.K "_compared" "_compared" s__compared f fd) (b : Bl M) : FnG M.prog M.w M.K M.mg M.base CX0 1 f fd ["op", "one", "other"] (spF rCmp M.K) := by
  refine fn_ok F sc__compared (fun vs H Q E h => ?_) (fun H vs Q E h => ?_)
  · obtain ⟨ds, d, h, ⟨op, v, w, rfl, _⟩, _⟩ := h
    exact h.len
  obtain ⟨ds, d, h, ⟨op, v, w, rfl, rfl⟩, k⟩ := h
  obtain _ | ⟨h1, h⟩ := h
  obtain _ | ⟨h2, h⟩ := h
  obtain _ | ⟨h3, h⟩ := h
  cases h
  cases h1
  cases h2
  cases h3
  tm_at "go"
  refine ifd (fun c1 => ?_) (fun c1 => ?_)
  · tm_at "go"
    refine k _ _ (Same.refl _) ?_
    rw [cmp2, if_pos c1]
    exact .bl _
  · tm_at "go"
    refine ifd (fun c2 => ?_) (fun c2 => ?_)
    · tm_at "go"
      refine k _ _ (Same.refl _) ?_
      rw [cmp2, if_neg c1, if_pos c2]
      exact .bl _
    · tm_at "go"
      refine k _ _ (Same.refl _) ?_
      rw [cmp2, if_neg c1, if_neg c2]
      exact .bl _
theorem ro_mulW {c : Cd} {H : Hp} {Q : VK} {i j : Int} (hc : CMulW i j) (q : Q (.int (i * j)) H) : RO c .Mult (.int i) (.int j) H Q := ro_of (fun _ _ => op_mulW) ⟨i, j, rfl, rfl, hc, q⟩
theorem ro_divW {c : Cd} {H : Hp} {Q : VK} {i j : Int} (hc : CDivW i j) (q : Q (.int (i / j)) H) : RO c .FloorDiv (.int i) (.int j) H Q := ro_of (fun _ _ => op_fdivW) ⟨i, j, rfl, rfl, hc, q⟩
def rTwo : List PyData → PyData → Prop := fun ds d => ∃ (op : Str) (a b : Int), ds = [.str op, .int a, .int b] ∧ (a.natAbs < 2 ^ 1800 ∧ b.natAbs < 2 ^ 1800) ∧ (op = "div" ∨ op = "mod" → 1 ≤ b) ∧ d = .int (bin2 op a b)
set_option maxHeartbeats 1000000 in
theorem ok_two {f fd} (F : Fun M.K "value_of_two" "value_of_two" s_value_of_two f fd) (b : Bl M) (dc : Dc M "_compared" ["op", "one", "other"] 1 (spF rCmp M.K)) : FnG M.prog M.w M.K M.mg M.base CX0 2 f fd ["op", "one", "other"] (spF rTwo M.K) := by
  refine fn_ok F sc_value_of_two (fun vs H Q E h => ?_) (fun H vs Q E h => ?_)
  · obtain ⟨ds, d, h, ⟨op, v, w, rfl, _⟩, _⟩ := h
    exact h.len
  obtain ⟨ds, d, h, ⟨op, x, y, rfl, hb, hdm, rfl⟩, k⟩ := h
  obtain _ | ⟨h1, h⟩ := h
  obtain _ | ⟨h2, h⟩ := h
  obtain _ | ⟨h3, h⟩ := h
  cases h
  cases h1
  cases h2
  cases h3
  tm_at "go"
  refine ifd (fun c1 => ?_) (fun c1 => ?_)
  · tm_at "go"
    refine k _ _ (Same.refl _) ?_
    rw [bin2, if_pos c1]
    exact .int _
  tm_at "go"
  refine ifd (fun c2 => ?_) (fun c2 => ?_)
  · tm_at "go"
    refine k _ _ (Same.refl _) ?_
    rw [bin2, if_neg c1, if_pos c2]
    exact .int _
  tm_at "go"
  refine ifd (fun c3 => ?_) (fun c3 => ?_)
  · tm_at "go"
    refine ro_mulW (wide_mul hb.1 hb.2 (by decide) (by decide) (by decide)) ?_
    refine k _ _ (Same.refl _) ?_
    rw [bin2, if_neg c1, if_neg c2, if_pos c3]
    exact .int _
  tm_at "go"
  refine ifd (fun c4 => ?_) (fun c4 => ?_)
  · tm_at "go"
    have := hdm (.inl c4)
    refine ro_divW (wide_div (by omega) hb.2 (by decide) (by decide)) ?_
    refine k _ _ (Same.refl _) ?_
    rw [bin2, if_neg c1, if_neg c2, if_neg c3, if_pos c4]
    exact .int _
  tm_at "go"
  refine ifd (fun c5 => ?_) (fun c5 => ?_)
  · tm_at "go"
    have := hdm (.inr c5)
    refine ro_mod (by omega) ?_
    refine k _ _ (Same.refl _) ?_
    rw [bin2, if_neg c1, if_neg c2, if_neg c3, if_neg c4, if_pos c5]
    exact .int _
  tm_at "go"
  refine ifd (fun c6 => ?_) (fun c6 => ?_)
  · tm_at "go"
    refine k _ _ (Same.refl _) ?_
    rw [bin2, if_neg c1, if_neg c2, if_neg c3, if_neg c4, if_neg c5, if_pos c6]
    exact .int _
  tm_at "go"
  refine ifd (fun c7 => ?_) (fun c7 => ?_)
  · tm_at "go"
    refine k _ _ (Same.refl _) ?_
    rw [bin2, if_neg c1, if_neg c2, if_neg c3, if_neg c4, if_neg c5, if_neg c6, if_pos c7]
    exact .int _
  tm_at "go"
  refine e_callF dc ?_
  tm_at "go"
  refine ⟨_, _, .cons (.str _) (.cons (.int _) (.cons (.int _) .nil)), ⟨op, x, y, rfl, rfl⟩, fun v H1 s1 hv => ?_⟩
  cases hv
  tm_at "go"
  refine k _ _ s1 ?_
  rw [bin2, if_neg c1, if_neg c2, if_neg c3, if_neg c4, if_neg c5, if_neg c6, if_neg c7]
  exact .int _
end K

namespace K
open PySem PySem.Spec PyProof.Rows L2 G
variable {M : Md}
def preNext : List PyData → Prop := fun ds => ∃ m : Int, ds = [.int m] ∧ 0 < m ∧ m < 1000000
def rNext : List PyData → PyData → Prop := fun ds d => ∃ m r : Int, ds = [.int m] ∧ d = .int r ∧ 0 ≤ r ∧ r < m
theorem ok_next {f fd} (F : Fun M.K "_law_next" "_law_next" s__law_next f fd) (b : Bl M) : FnG M.prog M.w M.K M.mg M.base CX0 1 f fd ["_law_source_here", "_law_limit"] (spD 1 preNext rNext M.K) := by
  refine fn_ok F sc__law_next (spD_len (n := 1) (by rintro ds ⟨m, rfl, _⟩; rfl)) (fun H vs Q E h => ?_)
  obtain ⟨fp, cl, rest, ds, n, rfl, ⟨ns, left, at0, count, h1, h2, h3, h4, h5⟩, hn, hds, ⟨m, rfl, m0, m1⟩, k⟩ := h
  obtain _ | ⟨hm, hds⟩ := hds
  cases hds
  cases hm
  have ncl : cl ≠ fp := fun e => by rw [e, h1] at h2; cases h2
  tm_at "go"
  refine ⟨_, _, _, rfl, h1, fkv_3, ?_⟩
  tm_at "go"
  refine ⟨_, _, rfl, h1, by rw [fkv_len]; decide, ?_⟩
  rw [fput_3]
  have k1 : Kp fp H (upd H fp (.dK (fkv (.ref cl) left at0 (count + 1)))) := kp_fd h1
  have g1 : (upd H fp (.dK (fkv (.ref cl) left at0 (count + 1)))) fp = _ := upd_same
  generalize upd H fp (.dK (fkv (.ref cl) left at0 (count + 1))) = H1 at *
  have c0 : 0 ≤ count + 1 := by omega
  have c1 : count + 1 ≤ ((n + 1 : Nat) : Int) := by omega
  tm_at "go"
  refine ⟨_, _, _, rfl, g1, fkv_1, ?_⟩
  tm_at "run"
  refine ifd (fun q1 => ?_) (fun q1 => ?_)
  · tm_at "go"
    refine ⟨_, _, _, rfl, g1, fkv_1, ?_⟩
    tm_at "run"
    refine ro_mod m0 ?_
    tm_at "go"
    refine ⟨_, _, _, rfl, g1, fkv_1, ?_⟩
    tm_at "run"
    refine ro_div m0 (by omega) ?_
    tm_at "run"
    refine ⟨_, _, rfl, g1, by rw [fkv_len]; decide, ?_⟩
    rw [fput_1]
    have k2 := k1.trans (kp_fd (o' := .dK (fkv (.ref cl) (left / m) at0 (count + 1))) g1)
    have n2 := k2.k cl _ ncl h2
    tm_at "go"
    refine k (.int (left % m)) _ _ ⟨m, _, rfl, rfl, Int.emod_nonneg _ (by omega), Int.emod_lt_of_pos _ m0⟩ k2 ⟨ns, _, _, _, upd_same, n2, h3, c0, c1⟩ (.int _)
  tm_at "go"
  refine ⟨_, _, _, rfl, g1, fkv_2, ?_⟩
  tm_at "go"
  refine ⟨_, _, rfl, g1, by rw [fkv_len]; decide, ?_⟩
  rw [fput_2]
  have k2 : Kp fp H (upd H1 fp (.dK (fkv (.ref cl) left (at0 + 1) (count + 1)))) := k1.trans (kp_fd g1)
  have g2 : (upd H1 fp (.dK (fkv (.ref cl) left (at0 + 1) (count + 1)))) fp = _ := upd_same
  generalize upd H1 fp (.dK (fkv (.ref cl) left (at0 + 1) (count + 1))) = H2 at *
  have n2 := k2.k cl _ ncl h2
  refine b_cons ?_
  refine s_set (by tm_at "at") (e_int ?_)
  refine b_cut (fun σ1 H3 => Same H2 H3 ∧ ∃ cell : Int, σ1 = [some (.ref fp), some (.int m), some (.int count), none, some (.int at0), some (.int cell), none]) ?_ ?_
  · tm_at "run"
    refine ⟨_, _, _, rfl, g2, fkv_0, ?_⟩
    refine e_lst ?_
    tm_at "run"
    refine ⟨by decide, fun pe hpe => ?_⟩
    have s3 : Same H2 (upd H2 pe (.lst [])) := same_new hpe
    have g3 : (upd H2 pe (.lst [])) pe = some (.lst []) := upd_same
    generalize upd H2 pe (.lst []) = H3 at *
    refine ro_neD (.lst (SqL.of (s3 _ _ n2)) (dpInts ns)) (.lst (SqL.of g3) .nil) (shInts ns) (by decide) ?_
    refine ⟨_, rfl, ifb (fun e => ?_) (fun e => ?_)⟩
    · have hn : 0 < ns.length := by
        cases ns with
        | nil => exact absurd e (by decide)
        | cons => exact Nat.succ_pos _
      tm_at "go"
      refine ⟨_, _, _, rfl, s3 _ _ g2, fkv_0, ?_⟩
      tm_at "run"
      refine ⟨_, _, _, rfl, s3 _ _ g2, fkv_0, ?_⟩
      tm_at "run"
      refine rc_lenL (SqL.of (s3 _ _ n2)) ?_
      rw [List.length_map]
      refine ro_mod (by omega) ?_
      have lt : (at0 % (ns.length : Int)).toNat < ns.length := by
        have h1 := Int.emod_nonneg at0 (show (ns.length : Int) ≠ 0 by omega)
        have h2 := Int.emod_lt_of_pos at0 (show (0 : Int) < ns.length by omega)
        omega
      refine rx_list (SqL.of (s3 _ _ n2)) (v := .int ns[(at0 % (ns.length : Int)).toNat]) ?_ ?_
      · have h1 := Int.emod_nonneg at0 (show (ns.length : Int) ≠ 0 by omega)
        refine pl_at (j := (at0 % (ns.length : Int)).toNat) (by omega) ?_
        rw [List.getElem?_map, List.getElem?_eq_getElem lt]; rfl
      · exact ⟨s3, _, rfl⟩
    · tm_at "go"
      exact ⟨s3, _, rfl⟩
  rintro _ H3 ⟨s3, cell, rfl⟩
  have k3 : Kp fp H H3 := k2.trans (kp_same s3)
  have g3 := s3 _ _ g2
  have n3 := s3 _ _ n2
  refine b_cut (fun σ1 H4 => H4 = H3 ∧ σ1 = [some (.ref fp), some (.int m), some (.int count), none, some (.int at0), some (.int cell), none]) ?_ ?_
  · tm_at "run"
    refine ro_pow ⟨by decide, by decide, by decide⟩ ?_
    tm_at "run"
    refine ifd (fun c2 => ?_) (fun c2 => ?_)
    · tm_at "run"
      refine ⟨_, _, _, rfl, g3, fkv_0, ?_⟩
      tm_at "run"
      refine rc_lenL (SqL.of n3) ?_
      tm_at "run"
      refine ifd (fun c3 => ?_) (fun c3 => ?_)
      · tm_at "go"
        refine ro_div m0 (by omega) ?_
        tm_at "run"
        refine ⟨_, _, rfl, g3, by rw [fkv_len]; decide, ?_⟩
        rw [fput_1]
        tm_at "go"
        refine ro_mod m0 ?_
        have k4 := k3.trans (kp_fd (o' := .dK (fkv (.ref cl) (cell / m) (at0 + 1) (count + 1))) g3)
        refine k (.int (cell % m)) _ _ ⟨m, _, rfl, rfl, Int.emod_nonneg _ (by omega), Int.emod_lt_of_pos _ m0⟩ k4 ⟨ns, _, _, _, upd_same, k4.k cl _ ncl h2, h3, c0, c1⟩ (.int _)
      · tm_at "go"
        exact ⟨rfl, rfl⟩
    · tm_at "go"
      exact ⟨rfl, rfl⟩
  rintro _ _ ⟨rfl, rfl⟩
  tm_at "go"
  refine ro_mod (by decide) ?_
  tm_at "go"
  refine ro_mul (.inl ⟨by decide, by decide⟩) ?_
  tm_at "go"
  refine ro_mul (.inr ⟨by omega, by omega⟩) ?_
  tm_at "go"
  refine ro_mul (.inl ⟨by decide, by decide⟩) ?_
  tm_at "go"
  have b0 := Int.emod_nonneg cell (show (2147483587 : Int) ≠ 0 by decide)
  have b1 := Int.emod_lt_of_pos cell (show (0 : Int) < 2147483587 by decide)
  have b2 : 0 ≤ 14029 * count * count := Int.mul_nonneg (by omega) h4
  have b3 : 14029 * count * count ≤ 14029 * 1000000 * 1000000 := Int.mul_le_mul (by omega) (by omega) h4 (by decide)
  generalize cell % 2147483587 = c8 at *
  generalize 14029 * count * count = c9 at *
  refine ro_mul (.inl ⟨by omega, by omega⟩) ?_
  tm_at "go"
  refine ro_mul (.inl ⟨by decide, by decide⟩) ?_
  tm_at "go"
  refine ro_mod (by decide) ?_
  generalize hmy : ((c8 + c9 + 5503 * count + 1019) * (c8 + c9 + 5503 * count + 1019) + 100043 * count + 139) % 2147483549 = my
  have b4 : 0 ≤ my ∧ my < 2147483549 := by rw [← hmy]; exact ⟨Int.emod_nonneg _ (by decide), Int.emod_lt_of_pos _ (by decide)⟩
  tm_at "go"
  refine ro_mul (.inl ⟨by omega, by omega⟩) ?_
  tm_at "go"
  refine ro_mul (.inl ⟨by decide, by decide⟩) ?_
  tm_at "go"
  refine ro_mod (by decide) ?_
  tm_at "go"
  refine ro_div (by decide) (by decide) ?_
  tm_at "go"
  refine ro_mod m0 ?_
  exact k (.int _) _ _ ⟨m, _, rfl, rfl, Int.emod_nonneg _ (by omega), Int.emod_lt_of_pos _ m0⟩ k3 ⟨ns, _, _, _, g3, n3, h3, c0, c1⟩ (.int _)
end K

local macro_rules | `(tactic| tm_at "mk") => `(tactic| repeat (first | (refine gRE ?_; refine e_tupD ?_) | tm_at "s" | (refine gRB ?_; first | refine b_one ?_ | refine b_cons ?_) | (refine tupend (by tm_at "dts") (Nat.le_of_ble_eq_true rfl) fun v H s h => ?_)))
namespace K
open PySem PySem.Spec PyProof.Rows L2 G
variable {M : Md}
def rs4 : List (List Row) := [[("x", 0, 0, 2, true, false, 0), ("y", 0, 0, 1, false, true, 0)], [("x", 0, 0, 1, true, false, 0), ("y", 0, 0, 1, false, false, 1), ("z", 0, 0, 2, false, true, 0)],
  [("i", 0, 0, 1, true, false, 0), ("t", 2, 0, 1, false, true, 0), ("x", 0, 0, 1, true, true, 0)], [("x", 0, -1, 1, false, true, 0), ("y", 0, 0, 2, true, false, 0)]]
def rRows : List PyData → PyData → Prop := fun ds d => ∃ rs ∈ rs4, d = cellsD rs
/-- what a draw leaves -/
structure Kept (K : PySem.W.Frag) (fp cl : Addr) (n : Nat) (H H' : Hp) : Prop where
  k : Kp fp H H'
  f : Feed K H' fp cl n
theorem e_draw {c : Cd} {σ : L2.St} {H : Hp} {Q : VK} (D : Dc c.toMd "_law_next" ["_law_source_here", "_law_limit"] 1 (spD 1 preNext rNext c.K)) {e1 e2 : Expr} {p pos : Pos} (q : RE c e1 σ H fun x H1 => RE c e2 σ H1 fun y H2 => ∃ fp cl n m, x = .ref fp ∧ y = .int m ∧ Feed c.K H2 fp cl n ∧ n + 1 ≤ 1000000 ∧ (0 < m ∧ m < 1000000) ∧ ∀ r H', 0 ≤ r → r < m → Kp fp H2 H' → Feed c.K H' fp cl (n + 1) → Q (.int r) H')
    (hk : 1 ≤ c.k := by exact Nat.le_of_ble_eq_true rfl) (hg : c.sc.names.lookup ("_law_next" : Str) = some .globalImplicit := by rfl)
    (he : ∀ env, starEach [e1, e2] env = (false, eval e1 env) :: starEach [e2] env := by intro _; rfl) (hpl : ∀ env, (backTo pos (starEach [e2] env)).any (·.1) = false := by intro _; rfl) (h2 : ∀ env, starEach [e2] env = (false, eval e2 env) :: starEach [] env := by intro _; rfl) :
    RE c (.Call (.Name "_law_next" p) [e1, e2] [] pos) σ H Q := by
  refine e_callD D (a_cons (RE.mono (fun x H1 z => a_cons (RE.mono (fun y H2 z => a_nil ?_) z) h2) q) he) hk hg (by decide) he hpl
  obtain ⟨fp, cl, n, m, rfl, rfl, hf, hn, hm, k⟩ := z
  refine ⟨fp, cl, _, _, n, rfl, hf, hn, .cons (.int _) .nil, ⟨m, rfl, hm⟩, ?_⟩
  rintro d v H' ⟨m', r, e, rfl, r0, r1⟩ kk ff hv
  cases e
  cases hv
  exact k r H' r0 r1 kk ff
abbrev dcNext (M : Md) : Prop := Dc M "_law_next" ["_law_source_here", "_law_limit"] 1 (spD 1 preNext rNext M.K)
def pre0 : List PyData → Prop := fun ds => ds = []
set_option maxHeartbeats 1000000 in
theorem ok_rows {f fd} (F : Fun M.K "_law_rows" "_law_rows" s__law_rows f fd) (b : Bl M) (dn : dcNext M) : FnG M.prog M.w M.K M.mg M.base CX0 2 f fd ["_law_source_here"] (spD 1 pre0 rRows M.K) := by
  refine fn_ok F sc__law_rows (spD_len (n := 0) (by rintro ds rfl; rfl)) (fun H vs Q E h => ?_)
  obtain ⟨fp, cl, rest, ds, n, rfl, hf, hn, hds, rfl, k⟩ := h
  cases hds
  refine b_cut (fun σ1 H1 => ∃ l us, σ1 = [some (.ref fp), some (.ref l)] ∧ Same H H1 ∧ H l = none ∧ H1 l = some (.lst us) ∧ DtAll M.K H1 us ((rs4.take 1).map cellsD)) ?_ ?_
  · tm_at "go"
    refine e_lstD ?_
    refine a_cons (e_tupD ?_)
    tm_at "mk"
    refine ⟨(Nat.le_of_ble_eq_true rfl), fun l H' s n g => ?_⟩
    tm_at "go"
    exact ⟨l, _, rfl, by tm_at "same", same_none (by tm_at "same") n, g, .cons (by tm_at "dt") .nil⟩
  rintro _ H1 ⟨l, u1, rfl, s1, n1, g1, h1⟩
  refine b_cut (fun σ1 HH => ∃ us, σ1 = [some (.ref fp), some (.ref l)] ∧ Kp l H1 HH ∧ Same H HH ∧ HH l = some (.lst us) ∧ DtAll M.K HH us ((rs4.take 2).map cellsD)) ?_ ?_
  · refine s_expr ?_
    refine e_app ?_
    tm_at "go"
    refine ⟨l, _, rfl, g1, ?_⟩
    tm_at "mk"
    rename_i vx Hx _ _
    have sx : Same H1 Hx := by tm_at "same"
    have lu := h1.len
    refine ⟨u1, sx _ _ g1, by rw [lu]; decide, ?_⟩
    have kk := kp_upd (o' := .lst (u1 ++ [vx])) (sx _ _ g1) (fun _ e => nomatch e) (fun _ _ e => nomatch e)
    refine ⟨_, rfl, (kp_same sx).trans kk, same_mut (s1.trans sx) n1, upd_same, ?_⟩
    exact (h1.mono ((tp_same sx).trans kk.t)).app (.cons (Dt.mono kk.t (by assumption)) .nil)
  rintro _ H2 ⟨u2, rfl, k2, s2, g2, h2⟩
  refine b_cut (fun σ1 HH => ∃ us, σ1 = [some (.ref fp), some (.ref l)] ∧ Kp l H2 HH ∧ Same H HH ∧ HH l = some (.lst us) ∧ DtAll M.K HH us ((rs4.take 3).map cellsD)) ?_ ?_
  · refine s_expr ?_
    refine e_app ?_
    tm_at "go"
    refine ⟨l, _, rfl, g2, ?_⟩
    tm_at "mk"
    rename_i vx Hx _ _
    have sx : Same H2 Hx := by tm_at "same"
    have lu := h2.len
    refine ⟨u2, sx _ _ g2, by rw [lu]; decide, ?_⟩
    have kk := kp_upd (o' := .lst (u2 ++ [vx])) (sx _ _ g2) (fun _ e => nomatch e) (fun _ _ e => nomatch e)
    refine ⟨_, rfl, (kp_same sx).trans kk, same_mut (s2.trans sx) n1, upd_same, ?_⟩
    exact (h2.mono ((tp_same sx).trans kk.t)).app (.cons (Dt.mono kk.t (by assumption)) .nil)
  rintro _ H3 ⟨u3, rfl, k3, s3, g3, h3⟩
  refine b_cut (fun σ1 HH => ∃ us, σ1 = [some (.ref fp), some (.ref l)] ∧ Kp l H3 HH ∧ Same H HH ∧ HH l = some (.lst us) ∧ DtAll M.K HH us ((rs4.take 4).map cellsD)) ?_ ?_
  · refine s_expr ?_
    refine e_app ?_
    tm_at "go"
    refine ⟨l, _, rfl, g3, ?_⟩
    tm_at "mk"
    rename_i vx Hx _ _
    have sx : Same H3 Hx := by tm_at "same"
    have lu := h3.len
    refine ⟨u3, sx _ _ g3, by rw [lu]; decide, ?_⟩
    have kk := kp_upd (o' := .lst (u3 ++ [vx])) (sx _ _ g3) (fun _ e => nomatch e) (fun _ _ e => nomatch e)
    refine ⟨_, rfl, (kp_same sx).trans kk, same_mut (s3.trans sx) n1, upd_same, ?_⟩
    exact (h3.mono ((tp_same sx).trans kk.t)).app (.cons (Dt.mono kk.t (by assumption)) .nil)
  rintro _ H4 ⟨u4, rfl, k4, s4, g4, h4⟩
  tm_at "go"
  have nf : l ≠ fp := ne_feed hf (Same.refl _) n1
  refine e_draw dn ?_
  tm_at "go"
  refine ⟨fp, cl, n, 4, rfl, rfl, hf.same s4, hn, ⟨by decide, by decide⟩, fun r H5 r0 r1 k5 f5 => ?_⟩
  refine rx_pick (ds := rs4.map cellsD) (.of (k5.k _ _ nf g4)) (h4.mono k5.t) r0 (by show r < 4; exact r1) fun v d hd hv => ?_
  rw [List.getElem?_map] at hd
  obtain ⟨rs, hrs, rfl⟩ := Option.map_eq_some_iff.mp hd
  exact k _ _ _ ⟨rs, List.mem_of_getElem? hrs, rfl⟩ ((kp_same s4).trans k5) f5 hv
end K

namespace K
open PySem PySem.Spec PyProof.Rows L2 G
variable {M : Md}
theorem gd_int {i : Int} (h : i.natAbs < 1024) : Gd 0 23 (.int i) := by
  have h2 : i.natAbs.log2 < 10 := PySem.Flt.log2_lt_of (by decide) (Nat.lt_of_lt_of_le h (by decide))
  refine ⟨by simp only [gd, decide_eq_true_eq]; omega, by simp only [PyData.depth]; exact Nat.le_refl _, by simp only [wt]; omega⟩
theorem gd_str {s : Str} {n : Nat} (h : PyData.strOk s = true) (hl : s.length ≤ n) : Gd 0 (10 * n + 13) (.str s) := ⟨by simpa only [gd] using h, by simp only [PyData.depth]; exact Nat.le_refl _, by simp only [wt]; omega⟩
theorem gd_bool (b : Bool) : Gd 0 13 (.bool b) := ⟨by simp only [gd], by simp only [PyData.depth]; exact Nat.le_refl _, by simp only [wt]; exact Nat.le_refl _⟩
theorem gd_none : Gd 0 13 .none := ⟨by simp only [gd], by simp only [PyData.depth]; exact Nat.le_refl _, by simp only [wt]; exact Nat.le_refl _⟩
theorem wts_le {k : Nat} : ∀ {ds : List PyData}, (∀ d ∈ ds, wt d ≤ k) → wts ds ≤ ds.length * (k + 4)
  | [], _ => by simp [wts]
  | d :: ds, h => by
    have h1 := h d (List.mem_cons_self ..)
    have h2 := wts_le fun e he => h e (List.mem_cons_of_mem _ he)
    simp only [wts, List.length_cons, Nat.succ_mul]
    omega
theorem gd_mk {L m k c : Nat} {ds : List PyData} (h : ∀ d ∈ ds, GdL L m k d) (hl : ds.length ≤ c) : GdL L (m + 1) (c * (k + 4) + 13) (.tuple ds) := by
  refine gd_tup.mpr ⟨fun d hd => (h d hd).g, fun d hd => (h d hd).dep, ?_⟩
  have h1 := wts_le (k := k) fun d hd => (h d hd).wt
  have h2 := Nat.mul_le_mul_right (k + 4) hl
  omega
theorem gd_mkL {L m k c : Nat} {ds : List PyData} (h : ∀ d ∈ ds, GdL L m k d) (hl : ds.length ≤ c) : GdL L (m + 1) (c * (k + 4) + 13) (.list ds) := by
  obtain ⟨a, b, e⟩ := gd_mk h hl
  exact ⟨by simpa only [gd] using a, by simpa only [PyData.depth] using b, by simpa only [wt] using e⟩
structure RowsG (rs : List Row) : Prop where
  len : rs.length ≤ 4
  nm : ∀ r ∈ rs, PyData.strOk r.1 = true ∧ r.1.length ≤ 8 ∧ r.2.1 ≤ 3
  pl : rs.any (fun r => r.2.1 == 0) = true
theorem rs4_ok : ∀ rs ∈ rs4, RowsG rs := by
  intro rs h
  have e : rs4.all (fun rs => decide (rs.length ≤ 4) && rs.all (fun r => PyData.strOk r.1 && (decide (r.1.length ≤ 8) && decide (r.2.1 ≤ 3))) && rs.any (fun r => r.2.1 == 0)) = true := by decide +kernel
  have := List.all_eq_true.mp e rs h
  simp only [Bool.and_eq_true, List.all_eq_true, decide_eq_true_eq] at this
  exact ⟨this.1.1, fun r hr => this.1.2 r hr, this.2⟩
def tabRow (r : Row) : List PyData := (List.range r.2.1).map fun k : Nat => .tuple [.str r.1, .int k]
def tabPl (rs : List Row) : List PyData := rs.flatMap tabRow
theorem tabRow_len (r : Row) : (tabRow r).length = r.2.1 := by simp [tabRow]
theorem tabPl_snoc {rs : List Row} {i : Nat} {r : Row} (h : rs[i]? = some r) : tabPl (rs.take (i + 1)) = tabPl (rs.take i) ++ tabRow r := by
  obtain ⟨h1, rfl⟩ := List.getElem?_eq_some_iff.mp h
  rw [List.take_succ_eq_append_getElem h1, tabPl, List.flatMap_append]
  simp [tabPl]
theorem tabPl_le {rs : List Row} (h : ∀ r ∈ rs, r.2.1 ≤ 3) : (tabPl rs).length ≤ 3 * rs.length := by
  induction rs with
  | nil => simp [tabPl]
  | cons r rs ih =>
    have h1 := h r (List.mem_cons_self ..)
    have h2 := ih fun q hq => h q (List.mem_cons_of_mem _ hq)
    have e : (tabPl (r :: rs)).length = r.2.1 + (tabPl rs).length := by simp [tabPl, tabRow_len]
    rw [e, List.length_cons]
    omega
def rTab : List PyData → List PyData → Prop := fun ds es => ∃ rs, ds = [cellsD rs] ∧ RowsG rs ∧ es = tabPl rs
theorem ok_tab {f fd} (F : Fun M.K "_law_table_places" "_law_table_places" s__law_table_places f fd) (b : Bl M) : FnG M.prog M.w M.K M.mg M.base CX0 1 f fd ["_law_rows_here"] (spL rTab M.K) := by
  refine fn_ok F sc__law_table_places (fun vs H Q E h => ?_) (fun H vs Q E h => ?_)
  · obtain ⟨ds, d, h, ⟨rs, rfl, _⟩, _⟩ := h
    exact h.len
  obtain ⟨ds, es, h, ⟨rs, rfl, R, rfl⟩, k⟩ := h
  obtain _ | ⟨hc, h⟩ := h
  cases h
  obtain ⟨a, xs, rfl, hxs, hrs⟩ := hc.tupE
  have hle := hrs.len
  rw [List.length_map] at hle
  tm_at "go"
  refine e_lstD ?_
  tm_at "go"
  refine ⟨(Nat.le_of_ble_eq_true rfl), fun l H0 s0 n0 g0 => ?_⟩
  tm_at "go"
  refine s_forT ?_
  tm_at "s"
  refine ⟨a, xs, rfl, (tp_same s0).sqt hxs, fun i σ1 H1 => ∃ (us : List V) (v : Option V), σ1 = [some (.ref a), some (.ref l), v, none] ∧ Same H H1 ∧ H1 l = some (.lst us) ∧ DtAll M.K H1 us (tabPl (rs.take i)), ⟨[], _, rfl, s0, g0, .nil⟩, ?_, ?_, ?_⟩
  · rintro i σ' H' _ ⟨us, v, rfl, s, _⟩
    exact (tp_same s).sqt hxs
  · rintro i x σ' H' hx ⟨us, v, rfl, s, hl1, hu⟩
    obtain ⟨d, hd, hx'⟩ := hrs.getV hx
    rw [List.getElem?_map] at hd
    obtain ⟨r, hr, rfl⟩ := Option.map_eq_some_iff.mp hd
    have rm := List.mem_of_getElem? hr
    have r3 := (R.nm r rm).2.2
    have hu1 := hu.len
    have ht := tabPl_le (rs := rs.take i) fun q hq => (R.nm q (List.mem_of_mem_take hq)).2.2
    have ht2 : (rs.take i).length ≤ 4 := Nat.le_trans (by simp [List.length_take]; omega) R.len
    refine g_name (by tm_at "at") ?_
    refine b_one ?_
    refine s_expr ?_
    refine e_ext ?_
    tm_at "go"
    refine ⟨l, _, rfl, hl1, ?_⟩
    refine e_lc (own := [("_law_k", 3)]) (Blk.of (N := N__law_table_places) (sc := defScope s__law_table_places) rfl rfl (by decide +kernel)) ?_
    have hx1 := hx'.mono (tp_same s)
    refine lcR1_F (fun i => some (.tuple [.str r.1, .int i])) b.range ?_
    tm_at "go"
    refine ⟨by omega, fun t H2 ht s2 => ?_, fun p ws H2 s2 n2 g2 h2 => ?_⟩
    · refine g_name (by tm_at "at") ⟨rfl, rfl, ts_nil ⟨Same.refl _, ift ?_⟩⟩
      have hx2 := hx1.mono (tp_same s2)
      refine e_tupD ?_
      tm_at "go"
      exact tupend (by tm_at "dts") (Nat.le_of_ble_eq_true rfl) fun v2 H3 s3 h3 => ⟨s3, _, rfl, h3⟩
    · have e : (List.range ((r.2.1 : Nat) : Int).toNat).filterMap (fun t : Nat => some (PyData.tuple [.str r.1, .int (t : Int)])) = tabRow r := by
        rw [Int.toNat_natCast, List.filterMap_eq_map']; rfl
      have h2 : DtAll M.K H2 ws _ := h2
      rw [e] at h2
      have lw := h2.len
      rw [tabRow_len] at lw
      have k6 := kp_upd (o' := .lst (us ++ ws)) (s2 _ _ hl1) (fun _ e => nomatch e) (fun _ _ e => nomatch e)
      refine ⟨p, _, _, rfl, s2 _ _ hl1, g2, by omega, ?_⟩
      refine ⟨_, _, rfl, same_mut (s.trans s2) n0, upd_same, ?_⟩
      rw [tabPl_snoc hr]
      exact (hu.mono ((tp_same s2).trans k6.t)).app (h2.mono k6.t)
  · rintro σ' H' ⟨us, v, rfl, s, hl1, hu⟩
    rw [hle, List.take_length] at hu
    tm_at "go"
    exact k _ _ _ s n0 hl1 hu
end K

namespace K
open PySem PySem.Spec PyProof.Rows L2 G
variable {M : Md}
def gPl : PyData → Option PyData
  | .tuple [.str s, .int z, _, _, _, _, _] => if z = 0 then some (.str s) else none
  | _ => none
def gTb : PyData → Option PyData
  | .tuple [.str s, .int z, _, _, _, _, _] => if z > 0 then some (.str s) else none
  | _ => none
theorem gPl_row (r : Row) : gPl (rowD r) = if (r.2.1 : Int) = 0 then some (.str r.1) else none := rfl
theorem gTb_row (r : Row) : gTb (rowD r) = if (r.2.1 : Int) > 0 then some (.str r.1) else none := rfl
theorem nm_gd {rs : List Row} (R : RowsG rs) : ∀ d ∈ (rs.map rowD).filterMap gPl ++ tabPl rs, Gd 1 243 d := by
  intro d hd
  rcases List.mem_append.mp hd with h | h
  · obtain ⟨y, hy, e⟩ := List.mem_filterMap.mp h
    obtain ⟨r, hr, rfl⟩ := List.mem_map.mp hy
    rw [gPl_row] at e
    split at e
    · cases e
      exact (gd_str (R.nm r hr).1 (R.nm r hr).2.1).up (by decide) (by decide)
    · cases e
  · obtain ⟨r, hr, h2⟩ := List.mem_flatMap.mp h
    obtain ⟨k, hk, rfl⟩ := List.mem_map.mp h2
    have hk := List.mem_range.mp hk
    have h3 := (R.nm r hr).2.2
    refine (gd_mk (m := 0) (k := 93) (c := 2) (fun d hd => ?_) (by simp)).up (by decide) (by decide)
    simp only [List.mem_cons, List.not_mem_nil, or_false] at hd
    rcases hd with rfl | rfl
    · exact (gd_str (R.nm r hr).1 (R.nm r hr).2.1).up (by decide) (by decide)
    · exact (gd_int (by omega)).up (by decide) (by decide)
theorem nm_pos {rs : List Row} (R : RowsG rs) : 0 < ((rs.map rowD).filterMap gPl ++ tabPl rs).length := by
  obtain ⟨r, hr, h0⟩ := List.any_eq_true.mp R.pl
  have h0 : r.2.1 = 0 := by simpa using h0
  have : PyData.str r.1 ∈ (rs.map rowD).filterMap gPl := List.mem_filterMap.mpr ⟨rowD r, List.mem_map.mpr ⟨r, hr, rfl⟩, by rw [gPl_row, if_pos (by omega)]⟩
  have h2 := List.length_pos_of_mem this
  rw [List.length_append]
  omega
def prePart : List PyData → Prop := fun ds => ∃ (rs : List Row) (at0 many : Int), ds = [cellsD rs, .int at0, .int many] ∧ RowsG rs ∧ 0 ≤ at0 ∧ at0 < many ∧ many ≤ 9
def rIns : List PyData → PyData → Prop := fun _ d => Gd 2 1248 d
theorem gd5 {ds : List PyData} (h : ∀ d ∈ ds, Gd 1 243 d) (hl : ds.length ≤ 5) : Gd 2 1248 (.tuple ds) := gd_mk h hl
theorem gi {i : Int} (h0 : -1000 ≤ i) (h1 : i ≤ 1000) : Gd 1 243 (.int i) := (gd_int (by omega)).up (by decide) (by decide)
theorem gs {s : Str} (h : PyData.strOk s = true) (hl : s.length ≤ 20) : Gd 1 243 (.str s) := (gd_str h hl).up (by decide) (by decide)
theorem all2 {P : PyData → Prop} {a b : PyData} (ha : P a) (hb : P b) : ∀ d ∈ [a, b], P d := by simp [ha, hb]
theorem all3 {P : PyData → Prop} {a b c : PyData} (ha : P a) (hb : P b) (hc : P c) : ∀ d ∈ [a, b, c], P d := by simp [ha, hb, hc]
theorem all4 {P : PyData → Prop} {a b c d : PyData} (ha : P a) (hb : P b) (hc : P c) (hd : P d) : ∀ e ∈ [a, b, c, d], P e := by simp [ha, hb, hc, hd]
theorem all5 {P : PyData → Prop} {a b c d e : PyData} (ha : P a) (hb : P b) (hc : P c) (hd : P d) (he : P e) : ∀ x ∈ [a, b, c, d, e], P x := by simp [ha, hb, hc, hd, he]
local macro_rules | `(tactic| tm_at "mk") => `(tactic| repeat (first | (refine gRE ?_; refine e_tupD ?_) | tm_at "s" | (refine gRB ?_; first | refine b_one ?_ | refine b_cons ?_) | (refine tupend (by tm_at "dts") (Nat.le_of_ble_eq_true rfl) fun v H s h => ?_)))
set_option maxHeartbeats 4000000 in
theorem ok_part {f fd} (F : Fun M.K "_law_part" "_law_part" s__law_part f fd) (b : Bl M) (dn : dcNext M) (dt : Dc M "_law_table_places" ["_law_rows_here"] 1 (spL rTab M.K)) :
    FnG M.prog M.w M.K M.mg M.base CX0 2 f fd ["_law_source_here", "_law_rows_here", "_law_at", "_law_many"] (spD 6 prePart rIns M.K) := by
  refine fn_ok F sc__law_part (spD_len (n := 3) (by rintro ds ⟨rs, a, m, rfl, _⟩; rfl)) (fun H vs Q E h => ?_)
  obtain ⟨fp, cl, rest, ds, n, rfl, hf, hn, hds, ⟨rs, at0, many, rfl, R, p0, p1, p9⟩, k⟩ := h
  obtain _ | ⟨hc, hds⟩ := hds
  obtain _ | ⟨ha, hds⟩ := hds
  obtain _ | ⟨hm, hds⟩ := hds
  cases hds
  cases ha
  cases hm
  rename_i vc
  -- the names
  refine b_cut (fun σ1 H1 => ∃ l us, σ1 = [some (.ref fp), some vc, some (.int at0), some (.int many), some (.ref l), none, none, none, none, none, none, none] ∧ Same H H1 ∧ H l = none ∧ H1 l = some (.lst us) ∧ DtAll M.K H1 us ((rs.map rowD).filterMap gPl ++ tabPl rs)) ?_ ?_
  · tm_at "go"
    refine e_lc (own := [("_law_row", 11)]) (Blk.of (N := N__law_part) (sc := defScope s__law_part) rfl rfl (by decide +kernel)) ?_
    refine lcT_F gPl ?_
    tm_at "go"
    refine ⟨rs.map rowD, hc, by rw [List.length_map]; have := R.len; omega, fun d v H' hm s3 hv => ?_, fun p us H3 s3 n3 g3 h3 => ?_⟩
    · obtain ⟨r, hr, rfl⟩ := List.mem_map.mp hm
      refine g_name (by tm_at "at") ⟨rfl, rfl, ts_one ?_⟩
      tm_at "go"
      rw [gPl_row]
      refine ⟨Same.refl _, ifd (fun c => ?_) (fun c => ?_)⟩
      · tm_at "go"
        exact ⟨Same.refl _, _, if_pos c, .str _⟩
      · exact if_neg c
    · refine e_callL dt ?_
      tm_at "go"
      refine ⟨_, _, .cons (hc.mono (tp_same s3)) .nil, ⟨rs, rfl, R, rfl⟩, fun l us2 H4 s4 n4 g4 h4 => ?_⟩
      have l1 := h3.len
      have l2 := h4.len
      have l3 := tabPl_le (rs := rs) fun q hq => (R.nm q hq).2.2
      have l4 : ((rs.map rowD).filterMap gPl).length ≤ rs.length := Nat.le_trans (List.length_filterMap_le ..) (by rw [List.length_map]; exact Nat.le_refl _)
      have l5 := R.len
      refine ro_cat (s4 _ _ g3) g4 (by omega) fun l6 H6 s6 n6 g6 => ?_
      exact ⟨l6, _, rfl, s3.trans (s4.trans s6), same_none (s3.trans s4) n6, g6, (h3.mono (tp_same (s4.trans s6))).app (h4.mono (tp_same s6))⟩
  rintro _ H1 ⟨l, us, rfl, s1, n1, g1, h1⟩
  -- the tables
  refine b_cut (fun σ1 H2 => ∃ l2 us2, σ1 = [some (.ref fp), some vc, some (.int at0), some (.int many), some (.ref l), some (.ref l2), none, none, none, none, none, none] ∧ Same H1 H2 ∧ H1 l2 = none ∧ H2 l2 = some (.lst us2) ∧ DtAll M.K H2 us2 ((rs.map rowD).filterMap gTb)) ?_ ?_
  · refine s_setLc (own := [("_law_row", 11)]) (by tm_at "at") (Blk.of (N := N__law_part) (sc := defScope s__law_part) rfl rfl (by decide +kernel)) ?_
    refine lcT_F gTb ?_
    tm_at "go"
    refine ⟨rs.map rowD, hc.mono (tp_same s1), by rw [List.length_map]; have := R.len; omega, fun d v H' hm s3 hv => ?_, fun p us H3 s3 n3 g3 h3 => ?_⟩
    · obtain ⟨r, hr, rfl⟩ := List.mem_map.mp hm
      refine g_name (by tm_at "at") ⟨rfl, rfl, ts_one ?_⟩
      tm_at "go"
      rw [gTb_row]
      refine ⟨Same.refl _, ifd (fun c => ?_) (fun c => ?_)⟩
      · tm_at "go"
        exact ⟨Same.refl _, _, if_pos c, .str _⟩
      · exact if_neg c
    · exact ⟨p, us, rfl, s3, n3, g3, h3⟩
  rintro _ H2 ⟨l2, us2, rfl, s2, n2, g2, h2⟩
  have s02 := s1.trans s2
  have nl : l ≠ fp := ne_feed hf (Same.refl _) n1
  have nl2 : l2 ≠ fp := ne_feed (hf.same s1) (Same.refl _) n2
  refine b_cut (fun σ1 H3 => ∃ way r s : Int, σ1 = [some (.ref fp), some vc, some (.int at0), some (.int many), some (.ref l), some (.ref l2), some (.int way), some (.int r), some (.int s), none, none, none] ∧ Kp fp H2 H3 ∧ Feed M.K H3 fp cl (n + 1 + 1 + 1) ∧ (0 ≤ way ∧ way < 12) ∧ (0 ≤ r ∧ r < 3) ∧ 0 ≤ s ∧ s < 3) ?_ ?_
  · tm_at "go"
    refine e_draw dn ?_
    tm_at "go"
    refine ⟨fp, cl, n, 12, rfl, rfl, hf.same s02, by omega, ⟨by decide, by decide⟩, fun way H3 w0 w1 k3 f3 => ?_⟩
    refine e_draw dn ?_
    tm_at "go"
    refine ⟨fp, cl, n + 1, 3, rfl, rfl, f3, by omega, ⟨by decide, by decide⟩, fun r H4 r0 r1 k4 f4 => ?_⟩
    refine e_draw dn ?_
    tm_at "go"
    refine ⟨fp, cl, n + 1 + 1, 3, rfl, rfl, f4, by omega, ⟨by decide, by decide⟩, fun s H5 q0 q1 k5 f5 => ?_⟩
    exact ⟨way, r, s, rfl, k3.trans (k4.trans k5), f5, ⟨w0, w1⟩, ⟨r0, r1⟩, q0, q1⟩
  rintro _ H3 ⟨way, r, s, rfl, k3, f3, ⟨w0, w1⟩, ⟨r0, r1⟩, q0, q1⟩
  have g3 := k3.k _ _ nl (s2 _ _ g1)
  have h3 := (h1.mono (tp_same s2)).mono k3.t
  have g23 := k3.k _ _ nl2 g2
  have h23 := h2.mono k3.t
  have k03 : Kp fp H H3 := (kp_same s02).trans k3
  have npos := nm_pos R
  have ngd := nm_gd R
  have nlen : ((rs.map rowD).filterMap gPl ++ tabPl rs).length ≤ 100 := by
    have l3 := tabPl_le (rs := rs) fun q hq => (R.nm q hq).2.2
    have l4 : ((rs.map rowD).filterMap gPl).length ≤ rs.length := Nat.le_trans (List.length_filterMap_le ..) (by rw [List.length_map]; exact Nat.le_refl _)
    have l5 := R.len
    rw [List.length_append]
    omega
  generalize (rs.map rowD).filterMap gPl ++ tabPl rs = nms at *
  -- a drawn name
  have pick : ∀ {σ : L2.St} {p p1 p2 p3 p4 p5 p6 p7 : Pos} {Q2 : VK}, σ[0]? = some (some (.ref fp)) → σ[4]? = some (some (.ref l)) → (∀ v d H4, Gd 1 243 d → Kp fp H3 H4 → Feed M.K H4 fp cl (n + 6) → Dt M.K H4 v d → Q2 v H4) →
      RE ⟨M, N__law_part, defScope s__law_part, 1, true, false, none⟩ (.Subscript (.Name "_law_names" p1) (.Call (.Name "_law_next" p2) [.Name "_law_source_here" p3, .Call (.Name "len" p4) [.Name "_law_names" p5] [] p6] [] p7) p) σ H3 Q2 := by
    intro σ p p1 p2 p3 p4 p5 p6 p7 Q2 e0 e4 kk
    refine e_ix (e_var (by tm_at "at") ?_ e4)
    refine e_draw dn (e_var (by tm_at "at") ?_ e0)
    refine e_callB (id := "len") b.len (by decide +kernel) (a_cons (e_var (by tm_at "at") (a_nil ?_) e4))
    refine rc_lenL (.of g3) ?_
    rw [h3.len]
    refine ⟨fp, cl, _, _, rfl, rfl, f3, by omega, ⟨by omega, by omega⟩, fun j H4 j0 j1 k4 f4 => ?_⟩
    exact rx_pick (.of (k4.k _ _ nl g3)) (h3.mono k4.t) j0 j1 fun v d hd hv => kk v d H4 (ngd d (List.mem_of_getElem? hd)) k4 (f4.up (by omega)) hv
  have done : ∀ v d H4, Gd 2 1248 d → Kp fp H3 H4 → Feed M.K H4 fp cl (n + 6) → Dt M.K H4 v d → Q v H4 := fun v d H4 gd k4 f4 hv => k d v H4 gd (k03.trans k4) f4 hv
  tm_at "go"
  refine ifd (fun c1 => ?_) (fun c1 => ?_)
  · tm_at "go"
    refine e_tupD ?_
    refine a_cons ?_
    refine e_str ?_
    refine a_cons ?_
    refine e_var (by tm_at "at") ?_
    refine a_cons ?_
    refine pick rfl rfl fun v d H4 gd4 k4 f4 hv => ?_
    tm_at "go"
    exact tupend (by tm_at "dts") (Nat.le_of_ble_eq_true rfl) fun v2 H5 s5 h5 => done _ _ _ (gd5 (all3 (gs (by decide +kernel) (Nat.le_of_ble_eq_true rfl)) (gi (by omega) (by omega)) gd4) (Nat.le_of_ble_eq_true rfl)) (k4.trans (kp_same s5)) (f4.same s5) h5
  tm_at "go"
  refine ifd (fun c2 => ?_) (fun c2 => ?_)
  · tm_at "go"
    refine e_tupD ?_
    refine a_cons ?_
    refine e_str ?_
    refine a_cons ?_
    refine pick rfl rfl fun v d H4 gd4 k4 f4 hv => ?_
    tm_at "go"
    exact tupend (by tm_at "dts") (Nat.le_of_ble_eq_true rfl) fun v2 H5 s5 h5 => done _ _ _ (gd5 (all3 (gs (by decide +kernel) (Nat.le_of_ble_eq_true rfl)) gd4 (gi (by omega) (by omega))) (Nat.le_of_ble_eq_true rfl)) (k4.trans (kp_same s5)) (f4.same s5) h5
  -- one of some tuples of small things
  have lst : ∀ {HX : Hp} {nx : Nat} (fx : Feed M.K HX fp cl nx) (lx : nx + 1 ≤ n + 6) (kx : Kp fp H3 HX) {σ : L2.St} {ts : List (List PyData)} {es : List Expr} {m : Int} {p1 p2 p3 p4 p5 p6 : Pos} {j0 : Nat} {Q2 : VK}, σ[0]? = some (some (.ref fp)) → m = ts.length → 0 < m ∧ m < 1000000 → (∀ ds ∈ ts, (∀ d ∈ ds, Gd 1 243 d) ∧ ds.length ≤ 5) →
      (∀ Q3 : List V → Hp → Prop, (∀ us H4, Same HX H4 → us.length ≤ 1000 → DtAll M.K H4 us (ts.map .tuple) → Q3 us H4) → RA ⟨M, N__law_part, defScope s__law_part, 1, true, false, none⟩ es σ HX Q3) → (∀ v d H4, Gd 2 1248 d → Kp fp H3 H4 → Feed M.K H4 fp cl (n + 6) → Dt M.K H4 v d → Q2 v H4) →
      RE ⟨M, N__law_part, defScope s__law_part, 1, true, false, none⟩ (.Subscript (.List es p1) (.Call (.Name "_law_next" p2) [.Name "_law_source_here" p3, .Constant (.int m) j0 p5] [] p6) p4) σ HX Q2 := by
    intro HX nx fx lx kx σ ts es m p1 p2 p3 p4 p5 p6 j0 Q2 e0 em hm hts hes kk
    refine e_ix ?_
    refine e_lstD ?_
    refine hes _ fun us H4 s4 lu hu => ?_
    refine ⟨lu, fun pl H5 s5 n5 g5 => ?_⟩
    refine e_draw dn (e_var (by tm_at "at") ?_ e0)
    refine e_int ?_
    refine ⟨fp, cl, _, _, rfl, rfl, fx.same (s4.trans s5), by omega, hm, fun j H6 j0 j1 k6 f6 => ?_⟩
    have npl : pl ≠ fp := ne_feed fx s4 n5
    refine rx_pick (.of (k6.k _ _ npl g5)) ((hu.mono (tp_same s5)).mono k6.t) j0 (by rw [List.length_map]; omega) fun v d hd hv => ?_
    rw [List.getElem?_map] at hd
    obtain ⟨ds, hds, rfl⟩ := Option.map_eq_some_iff.mp hd
    obtain ⟨a1, a2⟩ := hts ds (List.mem_of_getElem? hds)
    exact kk v _ H6 (gd5 a1 a2) (kx.trans ((kp_same (s4.trans s5)).trans k6)) (f6.up (by omega)) hv
  refine b_nil ?_
  refine b_cut (fun σ1 H4 => Same H3 H4 ∧ σ1 = [some (.ref fp), some vc, some (.int at0), some (.int many), some (.ref l), some (.ref l2), some (.int way), some (.int r), some (.int s), none, none, none]) ?_ ?_
  · tm_at "go"
    refine ifd (fun c3 => ?_) (fun c3 => ?_)
    · tm_at "go"
      refine e_lstD ?_
      tm_at "go"
      refine ⟨(Nat.le_of_ble_eq_true rfl), fun q9 H4 s4 n4 g4 => ?_⟩
      refine ro_neNil (n := 1) (s4 _ _ g23) (h23.mono (tp_same s4)) (fun d hd => ?_) (by decide) g4 ?_
      · obtain ⟨y, hy, e⟩ := List.mem_filterMap.mp hd
        obtain ⟨r, hr, rfl⟩ := List.mem_map.mp hy
        rw [gTb_row] at e
        split at e
        · cases e; exact shp_str (R.nm r hr).1
        · cases e
      refine ⟨_, rfl, ?_⟩
      have tgd : ∀ d ∈ (rs.map rowD).filterMap gTb, ∃ s0 : Str, d = .str s0 ∧ Gd 1 243 d := fun d hd => by
        obtain ⟨y, hy, e⟩ := List.mem_filterMap.mp hd
        obtain ⟨r, hr, rfl⟩ := List.mem_map.mp hy
        rw [gTb_row] at e
        split at e
        · cases e; exact ⟨_, rfl, gs (R.nm r hr).1 (by have := (R.nm r hr).2.1; omega)⟩
        · cases e
      generalize (rs.map rowD).filterMap gTb = tbs at *
      cases tbs with
      | nil =>
        refine iff0 ?_
        tm_at "go"
        exact ⟨s4, rfl⟩
      | cons d0 dt0 =>
        obtain ⟨s0, rfl, gs0⟩ := tgd d0 (List.mem_cons_self ..)
        obtain _ | ⟨hv0, hvs⟩ := h23
        cases hv0
        refine ift ?_
        refine b_one ?_
        refine s_ret ?_
        refine lst (f3.same s4) (by omega) (kp_same s4) (ts := [[.str "loadat", .int r, .str s0, .int s], [.str "storeat", .str s0, .int r, .int s]]) rfl rfl ⟨by decide, by decide⟩ (fun ds hds => ?_) (fun Q3 kk => ?_) (fun v d H5 g5 k5 f5 h5 => done v d H5 g5 k5 f5 h5)
        · simp only [List.mem_cons, List.not_mem_nil, or_false] at hds
          rcases hds with rfl | rfl
          · exact ⟨all4 (gs (by decide +kernel) (Nat.le_of_ble_eq_true rfl)) (gi (by omega) (by omega)) gs0 (gi (by omega) (by omega)), (Nat.le_of_ble_eq_true rfl)⟩
          · exact ⟨all4 (gs (by decide +kernel) (Nat.le_of_ble_eq_true rfl)) gs0 (gi (by omega) (by omega)) (gi (by omega) (by omega)), (Nat.le_of_ble_eq_true rfl)⟩
        · refine a_cons ?_
          refine e_tupD ?_
          tm_at "go"
          refine rx_list (.of (s4 _ _ g23)) (v := .str s0) (pl_at (j := 0) rfl rfl) ?_
          tm_at "go"
          refine tupend (by tm_at "dts") (Nat.le_of_ble_eq_true rfl) fun v5 H5 s5 h5 => ?_
          refine a_cons ?_
          refine e_tupD ?_
          tm_at "go"
          refine rx_list (.of (s5 _ _ (s4 _ _ g23))) (v := .str s0) (pl_at (j := 0) rfl rfl) ?_
          tm_at "go"
          refine tupend (by tm_at "dts") (Nat.le_of_ble_eq_true rfl) fun v6 H6 s6 h6 => ?_
          refine a_nil ?_
          exact kk _ _ (s5.trans s6) (Nat.le_of_ble_eq_true rfl) (.cons (h5.mono (tp_same s6)) (.cons h6 .nil))
    · tm_at "go"
      exact ⟨Same.refl _, rfl⟩
  rintro _ H4 ⟨s4, rfl⟩
  have f4 := f3.same s4
  have d4 : ∀ v d H5, Gd 2 1248 d → Kp fp H4 H5 → Feed M.K H5 fp cl (n + 6) → Dt M.K H5 v d → Q v H5 := fun v d H5 g5 k5 f5 h5 => done v d H5 g5 ((kp_same s4).trans k5) f5 h5
  tm_at "go"
  refine ifd (fun c5 => ?_) (fun c5 => ?_)
  · tm_at "go"
    refine e_tupD ?_
    tm_at "go"
    refine e_draw dn ?_
    tm_at "go"
    refine ⟨fp, cl, _, 4, rfl, rfl, f4, by omega, ⟨by decide, by decide⟩, fun j H5 j0 j1 k5 f5 => ?_⟩
    tm_at "go"
    exact tupend (by tm_at "dts") (Nat.le_of_ble_eq_true rfl) fun v2 H6 s6 h6 => d4 _ _ _ (gd5 (all3 (gs (by decide +kernel) (Nat.le_of_ble_eq_true rfl)) (gi (by omega) (by omega)) (gi (by omega) (by omega))) (Nat.le_of_ble_eq_true rfl)) (k5.trans (kp_same s6)) ((f5.same s6).up (by omega)) h6
  tm_at "go"
  refine ifd (fun c6 => ?_) (fun c6 => ?_)
  · tm_at "go"
    refine e_lstD ?_
    tm_at "go"
    refine ⟨(Nat.le_of_ble_eq_true rfl), fun pl H5 s5 n5 g5 => ?_⟩
    refine e_draw dn ?_
    tm_at "go"
    refine ⟨fp, cl, _, 10, rfl, rfl, f4.same s5, by omega, ⟨by decide, by decide⟩, fun j H6 j0 j1 k6 f6 => ?_⟩
    have npl : pl ≠ fp := ne_feed f4 (Same.refl _) n5
    refine rx_pick (ds := (["+", "-", "*", "least", "most", "=", "<", "<=", "div", "mod"] : List Str).map .str) (.of (k6.k _ _ npl g5)) (dtStrs ["+", "-", "*", "least", "most", "=", "<", "<=", "div", "mod"]) j0 (by show j < 10; exact j1) fun v d hd hv => ?_
    rw [List.getElem?_map] at hd
    obtain ⟨op, hop, rfl⟩ := Option.map_eq_some_iff.mp hd
    cases hv
    have gop : ∀ w ∈ (["+", "-", "*", "least", "most", "=", "<", "<=", "div", "mod"] : List Str), PyData.strOk w = true ∧ w.length ≤ 20 := by decide +kernel
    have go1 := gop op (List.mem_of_getElem? hop)
    refine b_cut (fun σ1 H7 => H7 = H6 ∧ ∃ op2 : Str, (PyData.strOk op2 = true ∧ op2.length ≤ 20) ∧ σ1 = [some (.ref fp), some vc, some (.int at0), some (.int many), some (.ref l), some (.ref l2), some (.int way), some (.int r), some (.int s), some (.str op2), none, none]) ?_ ?_
    · tm_at "go"
      refine ifd (fun c7 => ?_) (fun c7 => ?_)
      · tm_at "go"
        refine ifd (fun c8 => ?_) (fun c8 => ?_)
        · tm_at "go"
          exact ⟨rfl, "most", ⟨by decide +kernel, (Nat.le_of_ble_eq_true rfl)⟩, rfl⟩
        · tm_at "go"
          exact ⟨rfl, op, go1, rfl⟩
      · tm_at "go"
        exact ⟨rfl, op, go1, rfl⟩
    rintro _ _ ⟨rfl, op2, go2, rfl⟩
    tm_at "go"
    refine e_tupD ?_
    tm_at "go"
    refine e_draw dn ?_
    tm_at "go"
    refine ⟨fp, cl, _, 3, rfl, rfl, f6, by omega, ⟨by decide, by decide⟩, fun j2 H8 q2 q3 k8 f8 => ?_⟩
    tm_at "go"
    exact tupend (by tm_at "dts") (Nat.le_of_ble_eq_true rfl) fun v2 H9 s9 h9 => d4 _ _ _ (gd5 (all5 (gs (by decide +kernel) (Nat.le_of_ble_eq_true rfl)) (gs go2.1 go2.2) (gi (by omega) (by omega)) (gi (by omega) (by omega)) (gi (by omega) (by omega))) (Nat.le_of_ble_eq_true rfl)) (((kp_same s5).trans k6).trans (k8.trans (kp_same s9))) ((f8.same s9).up (by omega)) h9
  refine b_nil ?_
  tm_at "go"
  refine e_draw dn ?_
  tm_at "go"
  refine ⟨fp, cl, _, many - at0, rfl, rfl, f4, by omega, ⟨by omega, by omega⟩, fun j H5 j0 j1 k5 f5 => ?_⟩
  refine ro_add ?_
  refine b_one ?_
  refine s_ret ?_
  refine lst f5 (by omega) ((kp_same s4).trans k5) (ts := [[.str "unless", .int s, .int (at0 + 1 + j)], [.str "unless", .int r, .int (at0 + 1 + j)], [.str "jump", .int (at0 + 1 + j)], [.str "end"]]) rfl rfl ⟨by decide, by decide⟩ (fun ds hds => ?_) (fun Q3 kk => ?_) done
  · simp only [List.mem_cons, List.not_mem_nil, or_false] at hds
    rcases hds with rfl | rfl | rfl | rfl
    · exact ⟨all3 (gs (by decide +kernel) (Nat.le_of_ble_eq_true rfl)) (gi (by omega) (by omega)) (gi (by omega) (by omega)), (Nat.le_of_ble_eq_true rfl)⟩
    · exact ⟨all3 (gs (by decide +kernel) (Nat.le_of_ble_eq_true rfl)) (gi (by omega) (by omega)) (gi (by omega) (by omega)), (Nat.le_of_ble_eq_true rfl)⟩
    · exact ⟨all2 (gs (by decide +kernel) (Nat.le_of_ble_eq_true rfl)) (gi (by omega) (by omega)), (Nat.le_of_ble_eq_true rfl)⟩
    · exact ⟨fun d hd => by rw [List.mem_singleton.mp hd]; exact gs (by decide +kernel) (Nat.le_of_ble_eq_true rfl), (Nat.le_of_ble_eq_true rfl)⟩
  · refine a_cons ?_
    refine e_tupD ?_
    tm_at "go"
    refine tupend (by tm_at "dts") (Nat.le_of_ble_eq_true rfl) fun v1 H6 s6 h6 => ?_
    refine a_cons ?_
    refine e_tupD ?_
    tm_at "go"
    refine tupend (by tm_at "dts") (Nat.le_of_ble_eq_true rfl) fun v2 H7 s7 h7 => ?_
    refine a_cons ?_
    refine e_tupD ?_
    tm_at "go"
    refine tupend (by tm_at "dts") (Nat.le_of_ble_eq_true rfl) fun v3 H8 s8 h8 => ?_
    refine a_cons ?_
    refine e_tupD ?_
    tm_at "go"
    refine tupend (by tm_at "dts") (Nat.le_of_ble_eq_true rfl) fun v4 H9 s9 h9 => ?_
    refine a_nil ?_
    exact kk _ _ (s6.trans (s7.trans (s8.trans s9))) (Nat.le_of_ble_eq_true rfl) (.cons (h6.mono (tp_same (s7.trans (s8.trans s9)))) (.cons (h7.mono (tp_same (s8.trans s9))) (.cons (h8.mono (tp_same s9)) (.cons h9 .nil))))
def preCode : List PyData → Prop := fun ds => ∃ rs : List Row, ds = [cellsD rs, .int 8] ∧ RowsG rs
def rCode : List PyData → PyData → Prop := fun _ d => ∃ ds, d = .tuple ds ∧ ds.length ≤ 8 ∧ ∀ x ∈ ds, Gd 2 1248 x
theorem ok_code {f fd} (F : Fun M.K "_law_code" "_law_code" s__law_code f fd) (b : Bl M) (dn : dcNext M) (dp : Dc M "_law_part" ["_law_source_here", "_law_rows_here", "_law_at", "_law_many"] 2 (spD 6 prePart rIns M.K)) :
    FnG M.prog M.w M.K M.mg M.base CX0 3 f fd ["_law_source_here", "_law_rows_here", "_law_most"] (spD 49 preCode rCode M.K) := by
  refine fn_ok F sc__law_code (spD_len (n := 2) (by rintro ds ⟨rs, rfl, _⟩; rfl)) (fun H vs Q E h => ?_)
  obtain ⟨fp, cl, rest, ds, n, rfl, hf, hn, hds, ⟨rs, rfl, R⟩, k⟩ := h
  obtain _ | ⟨hc, hds⟩ := hds
  obtain _ | ⟨hm, hds⟩ := hds
  cases hds
  cases hm
  rename_i vc
  tm_at "go"
  refine e_draw dn ?_
  tm_at "go"
  refine ⟨fp, cl, _, 8, rfl, rfl, hf, by omega, ⟨by decide, by decide⟩, fun j H1 j0 j1 k1 f1 => ?_⟩
  tm_at "go"
  refine e_lc (own := [("_law_at", 4)]) (Blk.of (N := N__law_code) (sc := defScope s__law_code) rfl rfl (by decide +kernel)) ?_
  refine lc_R1 b.range ?_
  tm_at "go"
  refine ⟨by omega, fun D hD => ?_⟩
  have nD : D ≠ fp := ne_feed f1 (Same.refl _) hD
  refine ⟨fun t acc H' => ∃ es : List PyData, acc.length ≤ t ∧ es.length = t ∧ Kp fp H H' ∧ Feed M.K H' fp cl (n + 1 + 6 * t) ∧ H' D = some (.lst acc) ∧ DtAll M.K H' acc es ∧ ∀ e ∈ es, Gd 2 1248 e, ?_, ?_, ?_, ?_⟩
  · exact ⟨[], Nat.le_refl _, rfl, kp_mut k1 (kp_none k1 hD nD), f1.upd nD (ne_cl f1 (Same.refl _) hD), upd_same, .nil, fun _ h => nomatch h⟩
  · rintro t acc H' ⟨es, h, _⟩
    exact h
  · rintro t acc H2 ht ⟨es, la, le, k2, f2, g2, h2, he⟩
    have ht' : t < 8 := by omega
    refine g_name (by tm_at "at") ⟨rfl, ts_nil (ift ?_)⟩
    refine e_callD dp ?_
    tm_at "go"
    refine ⟨fp, cl, _, _, _, rfl, f2, by omega, .cons (hc.mono k2.t) (.cons (.int _) (.cons (.int _) .nil)), ⟨rs, _, _, rfl, R, by omega, by omega, by omega⟩, fun d v H3 hd k3 f3 hv => ?_⟩
    have g3 := k3.k _ _ nD g2
    have ku := kp_upd (o' := .lst (acc ++ [v])) g3 (fun _ e => nomatch e) (fun _ _ e => nomatch e)
    refine ⟨g3, es ++ [d], by rw [List.length_append]; exact Nat.succ_le_succ la, by rw [List.length_append, le]; rfl, kp_mut (k2.trans k3) (kp_none k1 hD nD), (f3.upd nD (ne_cl f1 (Same.refl _) hD)).up (by omega), upd_same, (h2.mono (k3.t.trans ku.t)).app (.cons (hv.mono ku.t) .nil), fun e he' => ?_⟩
    rcases List.mem_append.mp he' with h | h
    · exact he e h
    · rw [List.mem_singleton.mp h]; exact hd
  · rintro acc H2 ⟨es, la, le, k2, f2, g2, h2, he⟩
    tm_at "go"
    refine rc_tupL (.of g2) h2 fun v3 H3 s3 h3 => ?_
    exact k _ _ _ ⟨es, rfl, by omega, he⟩ (k2.trans (kp_same s3)) ((f2.same s3).up (by omega)) h3
end K

namespace K
open PySem PySem.Spec PyProof.Rows L2 G
variable {M : Md}
theorem strOk_of (s : String) : PyData.strOk (Str.ofString s) = true := by
  rw [Str.ofString_eq_toList]
  show (s.toList.map Char.toNat).toArray.all (· < 0x110000) = true
  rw [← Array.all_toList, List.all_eq_true]
  intro c hc
  obtain ⟨ch, _, rfl⟩ := List.mem_map.mp hc
  have := ch.valid
  refine decide_eq_true ?_
  rcases ch.valid with h | h
  · exact Nat.lt_trans h (by decide)
  · exact h.2
/-! ### the text of data is made of proper signs -/
def okC (l : List Nat) : Prop := ∀ c ∈ l, c < 0x110000
theorem strOk_iff {s : Str} : PyData.strOk s = true ↔ okC s.cps.toList := by
  show s.cps.all (· < 0x110000) = true ↔ _
  rw [← Array.all_toList, List.all_eq_true]
  exact ⟨fun h c hc => of_decide_eq_true (h c hc), fun h c hc => decide_eq_true (h c hc)⟩
theorem okC_app {a b : List Nat} : okC (a ++ b) ↔ okC a ∧ okC b := by
  unfold okC
  simp only [List.mem_append]
  exact ⟨fun h => ⟨fun c hc => h c (.inl hc), fun c hc => h c (.inr hc)⟩, fun h c hc => hc.elim (h.1 c) (h.2 c)⟩
theorem strOk_app {a b : Str} : PyData.strOk (a ++ b) = true ↔ PyData.strOk a = true ∧ PyData.strOk b = true := by
  rw [strOk_iff, strOk_iff, strOk_iff]
  have e : (a ++ b).cps.toList = a.cps.toList ++ b.cps.toList := by
    show (a.cps ++ b.cps).toList = _
    rw [Array.toList_append]
  rw [e, okC_app]
theorem okC_chars (l : List Char) : okC (l.map Char.toNat) := by
  intro c hc
  obtain ⟨ch, _, rfl⟩ := List.mem_map.mp hc
  rcases ch.valid with h | h
  · exact Nat.lt_trans h (by decide)
  · exact h.2
theorem okC_char {q c : Nat} (hc : c < 0x110000) : okC (Builtin.Str.reprChar q c) := by
  have hx : ∀ w : Nat, okC (List.replicate (w - ((Nat.toDigits 16 c).map Char.toNat).length) 48 ++ (Nat.toDigits 16 c).map Char.toNat) := fun w => okC_app.mpr ⟨fun d hd => by rw [(List.mem_replicate.mp hd).2]; decide, okC_chars _⟩
  unfold Builtin.Str.reprChar
  simp only
  repeat' split
  all_goals first
    | (intro d hd; simp only [List.mem_cons, List.not_mem_nil, or_false] at hd; rcases hd with rfl | rfl <;> first | decide | exact hc)
    | (intro d hd; simp only [List.mem_cons, List.not_mem_nil, or_false] at hd; subst hd; exact hc)
    | exact okC_app.mpr ⟨fun d hd => by simp only [List.mem_cons, List.not_mem_nil, or_false] at hd; rcases hd with rfl | rfl <;> decide, hx _⟩
theorem okC_fold {q : Nat} : ∀ (l : List Nat) (acc : Array Nat), okC l → okC acc.toList → okC (l.foldl (fun out c => out ++ (Builtin.Str.reprChar q c).toArray) acc).toList
  | [], acc, _, h => h
  | c :: l, acc, hl, h => by
    rw [List.foldl_cons]
    refine okC_fold l _ (fun d hd => hl d (List.mem_cons_of_mem _ hd)) ?_
    rw [Array.toList_append]
    exact okC_app.mpr ⟨h, okC_char (hl c (List.mem_cons_self ..))⟩
theorem strOk_repr {s : Str} (h : PyData.strOk s = true) : PyData.strOk (reprText s) = true := by
  rw [strOk_iff] at h ⊢
  have hq : reprQuote s < 0x110000 := by unfold reprQuote; split <;> decide
  unfold reprText
  generalize reprQuote s = q at *
  obtain ⟨⟨l⟩⟩ := s
  have e : Array.foldl (fun out c => out ++ (Builtin.Str.reprChar q c).toArray) #[q] (⟨l⟩ : Array Nat) = l.foldl (fun out c => out ++ (Builtin.Str.reprChar q c).toArray) #[q] := by simp
  show okC (Array.push (Array.foldl (fun out c => out ++ (Builtin.Str.reprChar q c).toArray) #[q] (⟨l⟩ : Array Nat)) q).toList
  have e2 : ∀ A : Array Nat, (Array.push A q).toList = A.toList ++ [q] := fun A => by simp
  rw [e2]
  refine okC_app.mpr ⟨?_, fun d hd => ?_⟩
  · rw [e]
    refine okC_fold _ _ h fun d hd => ?_
    have h2 : d ∈ [q] := by simpa using hd
    rw [List.mem_singleton.mp h2]; exact hq
  · rw [List.mem_singleton.mp hd]; exact hq
theorem strOk_from : ∀ (ts : List Str) (k : Nat) (acc : Str), (∀ t ∈ ts, PyData.strOk t = true) → PyData.strOk acc = true → PyData.strOk (textFrom k acc ts) = true
  | [], _, _, _, h => h
  | t :: ts, k, acc, ht, h => by
    refine strOk_from ts (k + 1) _ (fun u hu => ht u (List.mem_cons_of_mem _ hu)) ?_
    exact strOk_app.mpr ⟨strOk_app.mpr ⟨h, strOk_of _⟩, ht t (List.mem_cons_self ..)⟩
theorem strOk_join {sep : Str} (hs : PyData.strOk sep = true) : ∀ ts : List Str, (∀ t ∈ ts, PyData.strOk t = true) → PyData.strOk (Str.join sep ts) = true
  | [], _ => strOk_iff.mpr fun c hc => nomatch hc
  | [t], h => h t (List.mem_cons_self ..)
  | t :: u :: ts, h => strOk_app.mpr ⟨strOk_app.mpr ⟨h t (List.mem_cons_self ..), hs⟩, strOk_join hs (u :: ts) fun x hx => h x (List.mem_cons_of_mem _ hx)⟩
mutual
theorem shown_ok {L : Nat} : ∀ d : PyData, gd L d = true → PyData.strOk d.shown = true
  | .none, _ => by simp only [PyData.shown]; exact strOk_of _
  | .bool b, _ => by simp only [PyData.shown]; cases b <;> exact strOk_of _
  | .int i, _ => by simp only [PyData.shown]; exact strOk_of _
  | .str s, h => by simp only [PyData.shown]; exact strOk_repr (by simpa [gd] using h)
  | .list ds, h => by
    simp only [PyData.shown]
    exact strOk_app.mpr ⟨strOk_from _ _ _ (shown_oks ds (by simpa [gd] using h)) (strOk_of _), strOk_of _⟩
  | .tuple ds, h => by
    simp only [PyData.shown]
    exact strOk_app.mpr ⟨strOk_app.mpr ⟨strOk_of _, strOk_join (strOk_of _) _ (shown_oks ds (by simpa [gd] using h))⟩, strOk_of _⟩
  | .dict _, h => by simp [gd] at h
theorem shown_oks {L : Nat} : ∀ ds : List PyData, gds L ds = true → ∀ t ∈ PyData.shownAll ds, PyData.strOk t = true
  | [], _, t, ht => by simp only [PyData.shownAll] at ht; cases ht
  | d :: ds, h, t, ht => by
    have h1 : gd L d = true ∧ gds L ds = true := by simpa [gds] using h
    simp only [PyData.shownAll] at ht
    rcases List.mem_cons.mp ht with rfl | ht
    · exact shown_ok d h1.1
    · exact shown_oks ds h1.2 t ht
end
/-! ### repr(v) of any data -/
def rRepG (K : PySem.W.Frag) : List V → Hp → VK → Prop := fun vs H Q => ∃ x d, vs = [x] ∧ Dt K H x d ∧ Shw 60 1000000 d ∧ Q (.str d.shown) H
theorem cr_repG {X : Cx} (quiet : X.A.guards = some []) (hu : X.A.units + 64 < cLine) : CallR X (.builtin "repr") (rRepG X.K) := by
  intro pins st σ H vs us Q J rv z
  obtain ⟨x, d, rfl, hd, sw, k⟩ := z
  obtain ⟨u, rfl, ru⟩ := vals1 rv
  have h2 := sw.len
  cases hd with
  | non =>
    cases ru
    exact P.repr_of_none ⟨.str _, H, J.tok _, ⟨_, rfl⟩, k⟩
  | bl b =>
    cases ru
    refine P.repr_of_bool ⟨.str _, H, J.tok _, ⟨_, rfl⟩, ?_⟩
    cases b <;> exact k
  | int i =>
    obtain ⟨t, rfl⟩ := ru
    have hs : i.natAbs.log2 < 1920 := by have := sw.ok; simpa [PyData.showable] using this
    exact P.repr_of_int hs ⟨.str _, H, J.tok _, ⟨_, rfl⟩, k⟩
  | str s =>
    obtain ⟨t, rfl⟩ := ru
    simp only [PyData.shown] at h2
    exact P.repr_of_str ⟨.str _, H, J.tok _, ⟨_, rfl⟩, by simpa only [PyData.shown] using k⟩ (by rw [sizeLine_eq]; omega)
  | tup h1 h3 =>
    obtain ⟨as, rd⟩ := Dp.reads J _ _ u (Dt.dp (.tup h1 h3)) ru
    cases ru
    have h1 := sw.dep
    refine repr_of_reads' rd sw.ok (fun h => by rw [sw.nod] at h; cases h) quiet (by omega) (fun _ _ e => e) (fun h' u tk keep => ?_) (by rw [sizeLine_eq]; omega)
    exact ⟨.str _, H, J.kept (t' := tk) keep, ⟨u, rfl⟩, k⟩
  | lst h1 h3 =>
    obtain ⟨as, rd⟩ := Dp.reads J _ _ u (Dt.dp (.lst h1 h3)) ru
    cases ru
    have h1 := sw.dep
    refine repr_of_reads' rd sw.ok (fun h => by rw [sw.nod] at h; cases h) quiet (by omega) (fun _ _ e => e) (fun h' u tk keep => ?_) (by rw [sizeLine_eq]; omega)
    exact ⟨.str _, H, J.kept (t' := tk) keep, ⟨u, rfl⟩, k⟩
theorem rc_repG {c : Cd} {H : Hp} {Q : VK} {x : V} {d : PyData} (hd : Dt c.K H x d) (sw : Shw 60 1000000 d) (q : Q (.str d.shown) H) (hq : c.g = true := by rfl) : RC c (.builtin "repr") [x] H Q :=
  rc_of (r := rRepG c.K) (fun X h => by rw [← h.K]; exact cr_repG (h.gd hq) h.room.units) ⟨x, d, rfl, hd, sw, q⟩
end K

namespace G
open PySem PySem.Spec PyProof.Rows L2
/-! ### calls with keywords only -/
section
variable {X : Cx} {k : Nat} {f : Addr} {fd : FuncData} {ps ks : List Str} {sp : Sp} {x : Str} {p pos : Pos} {kws : List Keyword} {t : TA} {E : XK} {CX : CXT}
/-- with keywords only -/
theorem peE_kw {g : List Value → List Value} {gV : List V → List V} (F : FnOk X.prog X.w X.K X.mg X.base CX k f fd ps sp) (room : Room k X.A) (hx : Passes CX X E) (gl : Gl X x) (hm : X.mg x = some (.ref f)) (kp : PySem.W.keepIn X.K (.ref f) = true)
    (bn : ∀ (s : Shared) (ws : List Value), ws.length = ks.length → BindsTo s fd ⟨[], ks.zip ws⟩ (ps.zip (g ws))) (rel : ∀ (zs : List V) (ws : List Value), Vals zs ws → zs.length = ks.length → Vals (gV zs) (g ws)) (hkw : PK X kws t)
    (h1 : (backToKw pos (keywordEach kws X.env)).all (·.1.isSome) = true) (h2 : (backToKw pos (keywordEach kws X.env)).filterMap (·.1) = ks) (hdb : (x == ("__debug__" : Str)) = false)
    (h3 : ((backTo pos (starEach [] X.env)).any (·.1) || (backToKw pos (keywordEach kws X.env)).any (·.1.isNone)) = false) :
    PE X (.Call (.Name x p) [] kws pos) (fun σ H Q => t σ H fun zs H2 => zs.length = ks.length ∧ sp (gV zs) H2 Q E) := by
  constructor
  intro pins st σ H Q J z
  apply wpAny_Call_Name_kw
  apply ld_glob J gl hm _ hdb
  refine PySem.W.callWith_KW0 (h₀ := X.base) J.ok.mod.kin kp h1 ?_ h3
  refine thn (hkw.run pos pins st σ H _ J z) fun ws s1 ⟨zs, H1, J1, rz, lz, q⟩ => ⟨J1.kIn, ?_⟩
  rw [h2]
  have r2 := rel zs ws rz lz
  refine wpAny_call (codeAny_mono (F.run X.A X.stack s1 H1 ⟨[], ks.zip ws⟩ (g ws) (gV zs) Q E room J1.env0 (bn s1 ws (rz.length.symm.trans lz)) r2 q) fun r s2 z => ?_)
  match r, z with
  | .ok (.ret u), z => exact J1.after z
  | .error u, z => exact hx _ _ _ _ u s2 J1 z
end
/-- a def that is called with keywords only -/
structure DcK (c : Md) (x : Str) (ps ks : List Str) (gV : List V → List V) (k : Nat) (sp : Sp) : Prop where
  ex : ∃ (f : Addr) (fd : FuncData) (g : List Value → List Value), FnG c.prog c.w c.K c.mg c.base noX k f fd ps sp ∧ c.mg x = some (.ref f) ∧ PySem.W.keepIn c.K (.ref f) = true ∧ (∀ (s : Shared) (ws : List Value), ws.length = ks.length → BindsTo s fd ⟨[], ks.zip ws⟩ (ps.zip (g ws))) ∧
    ∀ (zs : List V) (ws : List Value), Vals zs ws → zs.length = ks.length → Vals (gV zs) (g ws)
section
variable {c : Cd} {σ : L2.St} {H : Hp} {Q : VK} {pos : Pos}
theorem k_nil {Q : List V → Hp → Prop} (q : Q [] H) : RPK c [] σ H Q := rk_of (fun _ _ => pk_nil) q
theorem k_cons {Q : List V → Hp → Prop} {nm : Option Str} {e : Expr} {kpos : Pos} {kws : List Keyword} (q : RE c e σ H fun x H1 => RPK c kws σ H1 fun xs H2 => Q (x :: xs) H2) : RPK c (⟨nm, e, kpos⟩ :: kws) σ H Q :=
  rk_of (fun X h => pk_cons (pe_re h) (pk_rk h)) q
theorem e_kw {x : Str} {p : Pos} {kws : List Keyword} {ps ks : List Str} {gV : List V → List V} {k : Nat} {sp : Sp} (D : DcK c.toMd x ps ks gV k sp) (q : RPK c kws σ H fun zs H1 => zs.length = ks.length ∧ sp (gV zs) H1 Q fun _ _ _ => False) (hk : k ≤ c.k := by exact Nat.le_of_ble_eq_true rfl) (hg : c.sc.names.lookup x = some .globalImplicit := by rfl)
    (h1 : ∀ env, (backToKw pos (keywordEach kws env)).all (·.1.isSome) = true := by intro _; rfl) (h2 : ∀ env, (backToKw pos (keywordEach kws env)).filterMap (·.1) = ks := by intro _; rfl) (hdb : (x == ("__debug__" : Str)) = false := by decide)
    (h3 : ∀ env, ((backTo pos (starEach [] env)).any (·.1) || (backToKw pos (keywordEach kws env)).any (·.1.isNone)) = false := by intro _; rfl) : RE c (.Call (.Name x p) [] kws pos) σ H Q := by
  obtain ⟨f, fd, g, F, hm, hkp, hb, hr⟩ := D.ex
  refine re_of (t := fun σ H Q => RPK c kws σ H fun zs H2 => zs.length = ks.length ∧ sp (gV zs) H2 Q fun _ _ _ => False) (fun X h => ?_) q
  refine peE_kw (CX := noX) (E := fun _ _ _ => False) (k := k) (f := f) (fd := fd) (ps := ps) (ks := ks) (sp := sp) (g := g) (gV := gV) ?_ (h.room.mono hk) (fun _ _ _ _ _ _ _ z => z.elim) (gl_of h hg) (by rw [h.mg]; exact hm) (by rw [h.K]; exact hkp) hb hr (pk_rk h) (h1 _) (h2 _) hdb (h3 _)
  rw [h.prog, h.w, h.K, h.mg, h.base]; exact F
end
end G

namespace K
open PySem L2 G
/-! ### code for rules: instructions, and what a step of a machine does -/
inductive Pl where
  | cell (n : Str)
  | tab (n : Str) (k : Nat)
def Pl.d : Pl → PyData
  | .cell n => .str n
  | .tab n k => .tuple [.str n, .int k]
inductive Ins where
  | load (r : Nat) (p : Pl)
  | store (p : Pl) (r : Nat)
  | loadat (r : Nat) (t : Str) (s : Nat)
  | storeat (t : Str) (r s : Nat)
  | cst (r : Nat) (v : Int)
  | op (o : Str) (r a b : Nat)
  | unless (s t : Nat)
  | jump (t : Nat)
  | fin
def Ins.d : Ins → PyData
  | .load r p => .tuple [.str "load", .int r, p.d]
  | .store p r => .tuple [.str "store", p.d, .int r]
  | .loadat r t s => .tuple [.str "loadat", .int r, .str t, .int s]
  | .storeat t r s => .tuple [.str "storeat", .str t, .int r, .int s]
  | .cst r v => .tuple [.str "const", .int r, .int v]
  | .op o r a b => .tuple [.str "do", .str o, .int r, .int a, .int b]
  | .unless s t => .tuple [.str "unless", .int s, .int t]
  | .jump t => .tuple [.str "jump", .int t]
  | .fin => .tuple [.str "end"]
def codeD (code : List Ins) : PyData := .tuple (code.map Ins.d)
def Pl.spot (rs : List Row) : Pl → Option Int
  | .cell n => fIdx rs n none 0
  | .tab n k => fIdx rs n (some k) 0
def gS (sl : List Int) (r : Nat) : Int := sl.getD r 0
def spotOf (rs : List Row) (sl : List Int) : Ins → Option Int
  | .load _ p => p.spot rs
  | .store p _ => p.spot rs
  | .loadat _ t s => fIdx rs t (some (gS sl s)) 0
  | .storeat t r _ => fIdx rs t (some (gS sl r)) 0
  | _ => none
def valOf (sl : List Int) : Ins → Option Int
  | .cst _ v => some v
  | .op o _ a b => if (o = "div" ∨ o = "mod") ∧ gS sl b < 1 then none else some (bin2 o (gS sl a) (gS sl b))
  | _ => none
def slotOf : Ins → Nat
  | .cst r _ => r
  | .op _ r _ _ => r
  | _ => 0
inductive Out where
  | go (at_ : Nat) (sl : List Int)
  | ev (w : Str) (c v : Int) (at_ : Nat) (sl : List Int) (vals : St1)
  | fault (at_ : Nat) (sl : List Int)
  | over (at_ : Nat) (sl : List Int)
/-- a step that touches a cell -/
def touchI (rs : List Row) (I : Ins) (i : Nat) (sl : List Int) (vals : St1) : Out := match spotOf rs sl I with
  | none => .fault i sl
  | some c => match I with
    | .load r _ => .ev "load" c (gt vals c) (i + 1) (sl.set r (gt vals c)) vals
    | .loadat r _ _ => .ev "load" c (gt vals c) (i + 1) (sl.set r (gt vals c)) vals
    | .store _ r => .ev "store" c (gS sl r) (i + 1) sl (vals.set c.toNat (gS sl r))
    | .storeat _ _ s => .ev "store" c (gS sl s) (i + 1) sl (vals.set c.toNat (gS sl s))
    | _ => .over i sl
def oneI (rs : List Row) (I : Ins) (i : Nat) (sl : List Int) (vals : St1) : Out := match I with
  | .fin => .over i sl
  | .jump t => .go t sl
  | .unless s t => .go (if gS sl s = 0 then t else i + 1) sl
  | .cst r v => .go (i + 1) (sl.set r v)
  | .op o r a b => match valOf sl (.op o r a b) with
    | none => .fault i sl
    | some v => .go (i + 1) (sl.set r v)
  | I => touchI rs I i sl vals
def stepO (rs : List Row) (code : List Ins) (i : Nat) (sl : List Int) (vals : St1) : Out := match code[i]? with
  | none => .over i sl
  | some I => oneI rs I i sl vals
/-- n silent steps, then one that is not -/
def Runs (rs : List Row) (code : List Ins) : Nat → Nat → List Int → St1 → Out → Prop
  | 0, i, sl, vals, o => stepO rs code i sl vals = o ∧ ∀ a s, o ≠ .go a s
  | n + 1, i, sl, vals, o => ∃ a s, stepO rs code i sl vals = .go a s ∧ Runs rs code n a s vals o
abbrev Evs := List (Str × Int × Int)
/-- alone, with n touches -/
def AlR (rs : List Row) (code : List Ins) : Nat → Nat → List Int → St1 → Option St1 → Evs → Prop
  | 0, i, sl, vals, o, es => ∃ n a s, (Runs rs code n i sl vals (.fault a s) ∧ o = none ∧ es = []) ∨ (Runs rs code n i sl vals (.over a s) ∧ o = some vals ∧ es = [])
  | k + 1, i, sl, vals, o, es => ∃ n w c v a s vs es', Runs rs code n i sl vals (.ev w c v a s vs) ∧ AlR rs code k a s vs o es' ∧ es = (w, c, v) :: es'
def ops10 : List Str := ["+", "-", "*", "least", "most", "=", "<", "<=", "div", "mod"]
/-- what a machine may do to the numbers: L the last index, K the bits of constants, q 1 where it may multiply (ahead of index 2 alone); what the others may still do (S steps, T products); B the bits at most -/
structure Bud where
  L : Nat
  K : Nat
  q : Nat
  S : Nat
  T : Nat
  B : Nat
def Bud.m (c : Bud) (i : Nat) : Nat := if i ≤ 1 then c.q else 0
def Bud.pot (c : Bud) (e i : Nat) : Nat := (e + (c.L - i) + c.S) * 2 ^ (c.m i + c.T)
theorem Bud.m_mono (c : Bud) {i j : Nat} (h : i ≤ j) : c.m j ≤ c.m i := by
  unfold Bud.m
  by_cases e : j ≤ 1
  · rw [if_pos e, if_pos (by omega)]
    exact Nat.le_refl _
  · rw [if_neg e]
    exact Nat.zero_le _
theorem Bud.pot_le (c : Bud) {e f i j : Nat} (h : i ≤ j) (h2 : f + (c.L - j) ≤ e + (c.L - i)) : c.pot f j ≤ c.pot e i :=
  Nat.mul_le_mul (by omega) (Nat.pow_le_pow_right (by decide) (Nat.add_le_add_right (c.m_mono h) _))
theorem Bud.e_le (c : Bud) {e i : Nat} : e ≤ c.pot e i := by
  refine Nat.le_trans (by omega : e ≤ e + (c.L - i) + c.S) (Nat.le_mul_of_pos_right _ (Nat.pow_pos (by decide)))
theorem Bud.pot_sq (c : Bud) {e : Nat} (hL : 2 ≤ c.L) (hq : c.q = 1) : c.pot (2 * e) 2 ≤ c.pot e 1 := by
  have h1 : c.m 2 = 0 := if_neg (by decide)
  have h2 : c.m 1 = 1 := (if_pos (by decide)).trans hq
  unfold Bud.pot
  rw [h1, h2, Nat.zero_add, Nat.pow_add, Nat.pow_one, ← Nat.mul_assoc]
  exact Nat.mul_le_mul_right _ (by omega)
def InsOk (rs : List Row) (c : Bud) (i : Nat) : Ins → Prop
  | .load r p => r < 32 ∧ (p.spot rs).isSome = true
  | .store p r => r < 32 ∧ (p.spot rs).isSome = true
  | .loadat r _ s => r < 32 ∧ s < 32
  | .storeat _ r s => r < 32 ∧ s < 32
  | .cst r v => r < 32 ∧ v.natAbs < 2 ^ c.K
  | .op o r a b => r < 32 ∧ a < 32 ∧ b < 32 ∧ o ∈ ops10 ∧ (o = "*" → i ≤ 1 ∧ c.q = 1)
  | .unless s t => s < 32 ∧ i < t ∧ t ≤ c.L
  | .jump t => i < t ∧ t ≤ c.L
  | .fin => True
structure CodeOk (rs : List Row) (c : Bud) (code : List Ins) : Prop where
  len : code.length ≤ c.L
  lim : c.L ≤ 20
  top : c.B ≤ 1800
  tot : total rs ≤ 10
  ins : ∀ i I, code[i]? = some I → InsOk rs c i I
/-- the machine at i, all numbers below 2 ^ e -/
structure AtE (rs : List Row) (c : Bud) (e i : Nat) (sl : List Int) (vals : St1) : Prop where
  sl32 : sl.length = 32
  vl : vals.length = total rs
  sb : ∀ x ∈ sl, x.natAbs < 2 ^ e
  vb : ∀ x ∈ vals, x.natAbs < 2 ^ e
  z : i = 0 → ∀ x ∈ sl, x = 0
  one : 1 ≤ e
  K : c.K ≤ e
  pot : c.pot e i ≤ c.B
def At (rs : List Row) (c : Bud) (i : Nat) (sl : List Int) (vals : St1) : Prop := ∃ e, AtE rs c e i sl vals
theorem gS_mem {sl : List Int} {r : Nat} (h : r < sl.length) : gS sl r ∈ sl := by
  unfold gS
  rw [List.getD_eq_getElem?_getD, List.getElem?_eq_getElem h]
  exact List.getElem_mem h
theorem gS_get {sl : List Int} {r : Nat} (h : r < sl.length) : sl[r]? = some (gS sl r) := by
  unfold gS
  rw [List.getD_eq_getElem?_getD, List.getElem?_eq_getElem h]
  rfl
theorem pow_up {x : Int} {e f : Nat} (h : x.natAbs < 2 ^ e) (l : e ≤ f) : x.natAbs < 2 ^ f := Nat.lt_of_lt_of_le h (Nat.pow_le_pow_right (by decide) l)
theorem bin2_pow {o : Str} {a b : Int} {e : Nat} (ho : o ∈ ops10) (he : 1 ≤ e) (ha : a.natAbs < 2 ^ e) (hb : b.natAbs < 2 ^ e) (hd : o = "div" ∨ o = "mod" → 1 ≤ b) (hx : o ≠ "*") : (bin2 o a b).natAbs < 2 ^ (e + 1) := by
  have ep : 2 ^ (e + 1) = 2 * 2 ^ e := by rw [Nat.pow_succ, Nat.mul_comm]
  have p1 : 2 ≤ 2 ^ e := by
    have := Nat.pow_le_pow_right (n := 2) (by decide) he
    simpa using this
  have cb : ∀ p : Bool, (if p = true then (1 : Int) else 0).natAbs < 2 ^ (e + 1) := fun p => by
    rw [ep]
    cases p with
    | true => rw [if_pos rfl]; show 1 < _; omega
    | false => rw [if_neg (by decide)]; show 0 < _; omega
  simp only [ops10, List.mem_cons, List.not_mem_nil, or_false] at ho
  unfold bin2
  rcases ho with rfl | rfl | rfl | rfl | rfl | rfl | rfl | rfl | rfl | rfl
  · rw [if_pos rfl]; omega
  · rw [if_neg (by decide), if_pos rfl]; omega
  · exact absurd rfl hx
  · rw [if_neg (by decide), if_neg (by decide), if_neg (by decide), if_neg (by decide), if_neg (by decide), if_pos rfl]; split <;> omega
  · rw [if_neg (by decide), if_neg (by decide), if_neg (by decide), if_neg (by decide), if_neg (by decide), if_neg (by decide), if_pos rfl]; split <;> omega
  · rw [if_neg (by decide), if_neg (by decide), if_neg (by decide), if_neg (by decide), if_neg (by decide), if_neg (by decide), if_neg (by decide)]; exact cb _
  · rw [if_neg (by decide), if_neg (by decide), if_neg (by decide), if_neg (by decide), if_neg (by decide), if_neg (by decide), if_neg (by decide)]; exact cb _
  · rw [if_neg (by decide), if_neg (by decide), if_neg (by decide), if_neg (by decide), if_neg (by decide), if_neg (by decide), if_neg (by decide)]; exact cb _
  · have := hd (.inl rfl)
    rw [if_neg (by decide), if_neg (by decide), if_neg (by decide), if_pos rfl]
    have := Int.natAbs_ediv_le_natAbs a b
    omega
  · have := hd (.inr rfl)
    rw [if_neg (by decide), if_neg (by decide), if_neg (by decide), if_neg (by decide), if_pos rfl]
    have h1 := Int.emod_nonneg a (show b ≠ 0 by omega)
    have h2 := Int.emod_lt_of_pos a (show 0 < b by omega)
    omega
theorem bin2_mul {a b : Int} : bin2 "*" a b = a * b := by
  unfold bin2
  rw [if_neg (by decide), if_neg (by decide), if_pos rfl]
theorem set_mem {α : Type} {l : List α} {i : Nat} {a x : α} (h : x ∈ l.set i a) : x ∈ l ∨ x = a := List.mem_or_eq_of_mem_set h
section
variable {rs : List Row} {c : Bud} {code : List Ins} {e i : Nat} {sl : List Int} {vals : St1}
theorem At.sl32 (A : At rs c i sl vals) : sl.length = 32 := let ⟨_, h⟩ := A; h.sl32
theorem At.vl (A : At rs c i sl vals) : vals.length = total rs := let ⟨_, h⟩ := A; h.vl
theorem At.small (A : At rs c i sl vals) : ∀ x ∈ sl, x.natAbs < 2 ^ c.B := fun x hx => let ⟨_, h⟩ := A; pow_up (h.sb x hx) (Nat.le_trans c.e_le h.pot)
theorem At.smallV (A : At rs c i sl vals) : ∀ x ∈ vals, x.natAbs < 2 ^ c.B := fun x hx => let ⟨_, h⟩ := A; pow_up (h.vb x hx) (Nat.le_trans c.e_le h.pot)
theorem AtE.on (A : AtE rs c e i sl vals) {j : Nat} (h : i < j) : AtE rs c e j sl vals := ⟨A.sl32, A.vl, A.sb, A.vb, fun z => by omega, A.one, A.K, Nat.le_trans (c.pot_le (by omega) (by omega)) A.pot⟩
theorem AtE.putS (A : AtE rs c e i sl vals) {f r : Nat} {v : Int} (hf : e ≤ f) (hp : c.pot f (i + 1) ≤ c.B) (hv : v.natAbs < 2 ^ f) : AtE rs c f (i + 1) (sl.set r v) vals := by
  refine ⟨by rw [List.length_set]; exact A.sl32, A.vl, fun x hx => ?_, fun x hx => pow_up (A.vb x hx) hf, fun z => (by omega), Nat.le_trans A.one hf, Nat.le_trans A.K hf, hp⟩
  rcases set_mem hx with h | rfl
  · exact pow_up (A.sb x h) hf
  · exact hv
theorem AtE.put (A : AtE rs c e i sl vals) (iL : i < c.L) {r : Nat} {v : Int} (hv : v.natAbs < 2 ^ (e + 1)) : AtE rs c (e + 1) (i + 1) (sl.set r v) vals := A.putS (by omega) (Nat.le_trans (c.pot_le (by omega) (by omega)) A.pot) hv
theorem AtE.keep (A : AtE rs c e i sl vals) {n : Nat} {v : Int} (hv : v.natAbs < 2 ^ e) : AtE rs c e (i + 1) sl (vals.set n v) := by
  refine ⟨A.sl32, by rw [List.length_set]; exact A.vl, A.sb, fun x hx => ?_, fun z => (by omega), A.one, A.K, Nat.le_trans (c.pot_le (by omega) (by omega)) A.pot⟩
  rcases set_mem hx with h | rfl
  · exact A.vb x h
  · exact hv
theorem gt_mem {j : Int} (h0 : 0 ≤ j) (h1 : j < vals.length) : gt vals j ∈ vals := by
  unfold gt
  have h : j.toNat < vals.length := by omega
  rw [List.getD_eq_getElem?_getD, List.getElem?_eq_getElem h]
  exact List.getElem_mem h
theorem spot_in {I : Ins} {j : Int} (h : spotOf rs sl I = some j) : 0 ≤ j ∧ j < total rs := by
  have key : ∀ {s : Str} {k : Option Int}, fIdx rs s k 0 = some j → 0 ≤ j ∧ j < total rs := fun h => by
    have := fIdx_in h
    omega
  cases I with
  | load r p => cases p <;> exact key h
  | store p r => cases p <;> exact key h
  | loadat r t s => exact key h
  | storeat t r s => exact key h
  | cst r v => cases h
  | op o r a b => cases h
  | «unless» s t => cases h
  | jump t => cases h
  | fin => cases h
/-- what a step leaves -/
def OutE (rs : List Row) (c : Bud) (e i : Nat) (vals : St1) : Out → Prop
  | .go a s => i < a ∧ a ≤ c.L ∧ ∃ f, e ≤ f ∧ AtE rs c f a s vals
  | .ev w j v a s vs => (w = "load" ∨ w = "store") ∧ a = i + 1 ∧ (∃ f, e ≤ f ∧ AtE rs c f a s vs) ∧ 0 ≤ j ∧ j < 10 ∧ v.natAbs < 2 ^ c.B
  | _ => True
theorem one_ok (C : CodeOk rs c code) {I : Ins} (hI : code[i]? = some I) (A : AtE rs c e i sl vals) : OutE rs c e i vals (oneI rs I i sl vals) := by
  have ok := C.ins i I hI
  have il := (List.getElem?_eq_some_iff.mp hI).1
  have len := C.len
  have iL : i < c.L := by omega
  have eB : e ≤ c.B := Nat.le_trans c.e_le A.pot
  have val : ∀ {j : Int}, 0 ≤ j → j < total rs → (gt vals j).natAbs < 2 ^ e := fun h0 h1 => A.vb _ (gt_mem h0 (by rw [A.vl]; exact h1))
  have slt : ∀ {r : Nat}, r < 32 → (gS sl r).natAbs < 2 ^ e := fun h => A.sb _ (gS_mem (by rw [A.sl32]; exact h))
  have tot := C.tot
  have tch : ∀ j, spotOf rs sl I = some j → 0 ≤ j ∧ j < total rs := fun j h => spot_in h
  cases I with
  | fin => trivial
  | jump t =>
    obtain ⟨h1, h2⟩ := ok
    exact ⟨h1, h2, e, Nat.le_refl _, A.on h1⟩
  | «unless» s t =>
    obtain ⟨_, h1, h2⟩ := ok
    show i < (if gS sl s = 0 then t else i + 1) ∧ _
    split
    · exact ⟨h1, h2, e, Nat.le_refl _, A.on h1⟩
    · exact ⟨by omega, by omega, e, Nat.le_refl _, A.on (by omega)⟩
  | cst r v =>
    obtain ⟨_, h1⟩ := ok
    exact ⟨by omega, by omega, e + 1, by omega, A.put iL (pow_up h1 (Nat.le_trans A.K (by omega)))⟩
  | op o r a b =>
    obtain ⟨_, h1, h2, h3, h4⟩ := ok
    unfold oneI
    show OutE rs c e i vals (match valOf sl (.op o r a b) with | none => .fault i sl | some v => .go (i + 1) (sl.set r v))
    unfold valOf
    show OutE rs c e i vals (match (if (o = "div" ∨ o = "mod") ∧ gS sl b < 1 then none else some (bin2 o (gS sl a) (gS sl b))) with | none => .fault i sl | some v => .go (i + 1) (sl.set r v))
    split
    · trivial
    · rename_i v hv
      split at hv
      · cases hv
      · rename_i nd
        cases hv
        have ha := slt h1
        have hb := slt h2
        by_cases ho : o = "*"
        · subst ho
          obtain ⟨i1, q1⟩ := h4 rfl
          rw [bin2_mul]
          by_cases iz : i = 0
          · have z := A.z iz _ (gS_mem (show a < sl.length by rw [A.sl32]; exact h1))
            refine ⟨by omega, by omega, e + 1, by omega, A.put iL ?_⟩
            rw [z, Int.zero_mul]
            exact Nat.pow_pos (by decide)
          · obtain rfl : i = 1 := by omega
            refine ⟨by omega, by omega, 2 * e, by omega, A.putS (by omega) (Nat.le_trans (c.pot_sq (by omega) q1) A.pot) ?_⟩
            rw [Nat.two_mul, Int.natAbs_mul, Nat.pow_add]
            exact Nat.mul_lt_mul'' ha hb
        · exact ⟨by omega, by omega, e + 1, by omega, A.put iL (bin2_pow h3 A.one ha hb (fun h => by have : ¬ gS sl b < 1 := fun z => nd ⟨h, z⟩; omega) ho)⟩
  | load r p =>
    show OutE rs c e i vals (touchI rs (.load r p) i sl vals)
    unfold touchI
    cases h : spotOf rs sl (.load r p) with
    | none => trivial
    | some j =>
      obtain ⟨j0, j1⟩ := tch j h
      have hv := val j0 j1
      exact ⟨.inl rfl, rfl, ⟨e + 1, by omega, A.put iL (pow_up hv (by omega))⟩, j0, by omega, pow_up hv eB⟩
  | loadat r t s =>
    show OutE rs c e i vals (touchI rs (.loadat r t s) i sl vals)
    unfold touchI
    cases h : spotOf rs sl (.loadat r t s) with
    | none => trivial
    | some j =>
      obtain ⟨j0, j1⟩ := tch j h
      have hv := val j0 j1
      exact ⟨.inl rfl, rfl, ⟨e + 1, by omega, A.put iL (pow_up hv (by omega))⟩, j0, by omega, pow_up hv eB⟩
  | store p r =>
    show OutE rs c e i vals (touchI rs (.store p r) i sl vals)
    unfold touchI
    cases h : spotOf rs sl (.store p r) with
    | none => trivial
    | some j =>
      obtain ⟨j0, j1⟩ := tch j h
      have hv := slt ok.1
      exact ⟨.inr rfl, rfl, ⟨e, Nat.le_refl _, A.keep hv⟩, j0, by omega, pow_up hv eB⟩
  | storeat t r s =>
    show OutE rs c e i vals (touchI rs (.storeat t r s) i sl vals)
    unfold touchI
    cases h : spotOf rs sl (.storeat t r s) with
    | none => trivial
    | some j =>
      obtain ⟨j0, j1⟩ := tch j h
      have hv := slt ok.2
      exact ⟨.inr rfl, rfl, ⟨e, Nat.le_refl _, A.keep hv⟩, j0, by omega, pow_up hv eB⟩
theorem step_okE (C : CodeOk rs c code) (A : AtE rs c e i sl vals) : OutE rs c e i vals (stepO rs code i sl vals) := by
  unfold stepO
  cases h : code[i]? with
  | none => trivial
  | some I => exact one_ok C h A
def OutOk (rs : List Row) (c : Bud) (i : Nat) (vals : St1) : Out → Prop
  | .go a s => i < a ∧ a ≤ c.L ∧ At rs c a s vals
  | .ev w j v a s vs => (w = "load" ∨ w = "store") ∧ a = i + 1 ∧ At rs c a s vs ∧ 0 ≤ j ∧ j < 10 ∧ v.natAbs < 2 ^ c.B
  | _ => True
theorem outE_ok {o : Out} (h : OutE rs c e i vals o) : OutOk rs c i vals o := by
  cases o with
  | go a s =>
    obtain ⟨h1, h2, f, _, h3⟩ := h
    exact ⟨h1, h2, f, h3⟩
  | ev w j v a s vs =>
    obtain ⟨h1, h2, ⟨f, _, h3⟩, h4⟩ := h
    exact ⟨h1, h2, ⟨f, h3⟩, h4⟩
  | fault a s => trivial
  | over a s => trivial
theorem step_ok (C : CodeOk rs c code) (A : At rs c i sl vals) : OutOk rs c i vals (stepO rs code i sl vals) := by
  obtain ⟨e, A⟩ := A
  exact outE_ok (step_okE C A)
end
/-- a run from a step to the next touch, fault or end -/
theorem runs_ex {rs : List Row} {c : Bud} {code : List Ins} (C : CodeOk rs c code) : ∀ (m e i : Nat) (sl : List Int) (vals : St1), c.L + 1 - i ≤ m → AtE rs c e i sl vals → ∃ n o, Runs rs code n i sl vals o
  | m, e, i, sl, vals, hm, A => by
    have k := step_okE C A
    cases h : stepO rs code i sl vals with
    | go a s =>
      rw [h] at k
      obtain ⟨h1, h2, f, _, h3⟩ := k
      match m, hm with
      | 0, hm => omega
      | m + 1, hm =>
        obtain ⟨n, o, r⟩ := runs_ex C m f a s vals (by omega) h3
        exact ⟨n + 1, o, a, s, h, r⟩
    | ev w j v a s vs => exact ⟨0, .ev w j v a s vs, h, fun _ _ z => nomatch z⟩
    | fault a s => exact ⟨0, .fault a s, h, fun _ _ z => nomatch z⟩
    | over a s => exact ⟨0, .over a s, h, fun _ _ z => nomatch z⟩
/-- where it leaves the machine -/
theorem runs_E {rs : List Row} {c : Bud} {code : List Ins} (C : CodeOk rs c code) : ∀ (n e i : Nat) (sl : List Int) (vals : St1) {w : Str} {j v : Int} {a : Nat} {s : List Int} {vs : St1}, Runs rs code n i sl vals (.ev w j v a s vs) → AtE rs c e i sl vals →
    i < a ∧ a ≤ c.L ∧ (w = "load" ∨ w = "store") ∧ (∃ f, e ≤ f ∧ AtE rs c f a s vs) ∧ 0 ≤ j ∧ j < 10 ∧ v.natAbs < 2 ^ c.B
  | 0, e, i, sl, vals, w, j, v, a, s, vs, R, A => by
    have z := step_okE C A
    have aL : i < code.length := by
      cases h : code[i]? with
      | some I => exact (List.getElem?_eq_some_iff.mp h).1
      | none =>
        have := R.1
        unfold stepO at this
        rw [h] at this
        cases this
    rw [R.1] at z
    obtain ⟨z1, z2, z3⟩ := z
    have := C.len
    exact ⟨by omega, by omega, z1, z3⟩
  | n + 1, e, i, sl, vals, w, j, v, a, s, vs, R, A => by
    obtain ⟨b, s1, h, R⟩ := R
    have z := step_okE C A
    rw [h] at z
    obtain ⟨z1, z2, f, ef, z3⟩ := z
    obtain ⟨y1, y2, y3, ⟨g, fg, y4⟩, y5⟩ := runs_E C n f b s1 vals R z3
    exact ⟨Nat.lt_trans z1 y1, y2, y3, ⟨g, Nat.le_trans ef fg, y4⟩, y5⟩
end K

namespace K
open PySem PySem.Spec PyProof.Rows L2 G
variable {M : Md}
/-! ### instructions, as data -/
def wd : Ins → Str
  | .load .. => "load" | .store .. => "store" | .loadat .. => "loadat" | .storeat .. => "storeat" | .cst .. => "const" | .op .. => "do" | .unless .. => "unless" | .jump .. => "jump" | .fin => "end"
def args : Ins → List PyData
  | .load r p => [.int r, p.d]
  | .store p r => [p.d, .int r]
  | .loadat r t s => [.int r, .str t, .int s]
  | .storeat t r s => [.str t, .int r, .int s]
  | .cst r v => [.int r, .int v]
  | .op o r a b => [.str o, .int r, .int a, .int b]
  | .unless s t => [.int s, .int t]
  | .jump t => [.int t]
  | .fin => []
theorem ins_d (I : Ins) : I.d = .tuple (.str (wd I) :: args I) := by cases I <;> rfl
theorem inC {c : Cd} {σ : L2.St} {H : Hp} {Q : VK} {e : Expr} {es : List Expr} {x1 : Nat} {tp : Pos} (ws : List Str) (q : RE c e σ H fun x H1 => ∃ w, x = .str w ∧ RA c es σ H1 fun xs H2 => DtAll c.K H2 xs (ws.map .str) ∧ xs.length ≤ 1000 ∧ ∀ H3, Same H2 H3 → Q (.bl (decide (w ∈ ws))) H3) :
    RE c e σ H fun x H1 => RE c (.Tuple es x1 tp) σ H1 fun y H2 => RQ c .In x y H2 Q := by
  refine RE.mono (fun x H1 z => ?_) q
  obtain ⟨w, rfl, z⟩ := z
  refine e_tupD (RA.mono (fun xs H2 z => ?_) z)
  obtain ⟨h1, h2, k⟩ := z
  exact ⟨_, h1, h2, fun v H3 s3 h3 => ro_inST h3 (k H3 s3)⟩
def tpD : Ins → PyData
  | .load _ p => p.d
  | .store p _ => p.d
  | .loadat _ t _ => .str t
  | .storeat t _ _ => .str t
  | _ => .none
def rTP : List PyData → PyData → Prop := fun ds d => ∃ I : Ins, ds = [I.d] ∧ d = tpD I
abbrev dcTP (M : Md) : Prop := Dc M "touched_place" ["instruction"] 1 (spF rTP M.K)
theorem ok_tp {f fd} (F : Fun M.K "touched_place" "touched_place" s_touched_place f fd) (b : Bl M) : FnG M.prog M.w M.K M.mg M.base CX0 1 f fd ["instruction"] (spF rTP M.K) := by
  refine fn_ok F sc_touched_place (fun vs H Q E h => ?_) (fun H vs Q E h => ?_)
  · obtain ⟨_, _, h, ⟨I, rfl, _⟩, _⟩ := h
    exact h.len
  obtain ⟨_, _, h, ⟨I, rfl, rfl⟩, k⟩ := h
  obtain _ | ⟨hi, h⟩ := h
  cases h
  rename_i vi
  have hi0 := hi
  rw [ins_d] at hi
  refine b_cons (s_if (t_cmp (inC ["load", "loadat"] ?_)))
  tm_at "go"
  refine rx_str hi (pl_at (j := 0) rfl rfl) ?_
  tm_at "go"
  refine ⟨dtStrs ["load", "loadat"], (Nat.le_of_ble_eq_true rfl), fun H1 s1 => ?_⟩
  refine ⟨_, rfl, ifd (fun c1 => ?_) (fun c1 => ?_)⟩
  · obtain ⟨r, p, m, e⟩ : ∃ r p, ∃ m : List PyData, I.d = .tuple (.str (wd I) :: .int r :: p :: m) ∧ p = tpD I := by
      cases I <;> first | exact ⟨_, _, _, rfl, rfl⟩ | (simp only [wd] at c1; exact absurd c1 (by decide))
    rw [← e.2] at k
    rw [e.1] at hi0
    tm_at "go"
    refine rx_tup (hi0.mono (tp_same s1)) (pl_at (j := 2) rfl rfl) fun v1 h1 => ?_
    exact k _ _ s1 h1
  refine b_nil ?_
  refine b_cons (s_if (t_cmp (inC ["store", "storeat"] ?_)))
  tm_at "go"
  refine rx_str (hi.mono (tp_same s1)) (pl_at (j := 0) rfl rfl) ?_
  tm_at "go"
  refine ⟨dtStrs ["store", "storeat"], (Nat.le_of_ble_eq_true rfl), fun H2 s2 => ?_⟩
  refine ⟨_, rfl, ifd (fun c2 => ?_) (fun c2 => ?_)⟩
  · obtain ⟨p, m, e⟩ : ∃ p, ∃ m : List PyData, I.d = .tuple (.str (wd I) :: p :: m) ∧ p = tpD I := by
      cases I <;> first | exact ⟨_, _, rfl, rfl⟩ | (simp only [wd] at c2; exact absurd c2 (by decide))
    rw [← e.2] at k
    rw [e.1] at hi0
    tm_at "go"
    refine rx_tup (hi0.mono (tp_same (s1.trans s2))) (pl_at (j := 1) rfl rfl) fun v1 h1 => ?_
    exact k _ _ (s1.trans s2) h1
  · tm_at "go"
    refine k _ _ (s1.trans s2) ?_
    have e : tpD I = PyData.none := by
      cases I <;> first | rfl | (simp only [wd] at c1; exact absurd (by decide) c1) | (simp only [wd] at c2; exact absurd (by decide) c2) | (simp only [wd] at c2; exact absurd c2 (by decide))
    rw [e]
    exact .non
def isSet : Ins → Bool
  | .cst .. => true | .op .. => true | _ => false
def isJmp : Ins → Bool
  | .unless .. => true | .jump .. => true | _ => false
def isTch : Ins → Bool
  | .load .. => true | .store .. => true | .loadat .. => true | .storeat .. => true | _ => false
def rSl : List PyData → PyData → Prop := fun ds d => ∃ I : Ins, ds = [I.d] ∧ isSet I = true ∧ d = .int (slotOf I)
abbrev dcSl (M : Md) : Prop := Dc M "_slot_of" ["instruction"] 1 (spF rSl M.K)
theorem ok_slot {f fd} (F : Fun M.K "_slot_of" "_slot_of" s__slot_of f fd) (b : Bl M) : FnG M.prog M.w M.K M.mg M.base CX0 1 f fd ["instruction"] (spF rSl M.K) := by
  refine fn_ok F sc__slot_of (fun vs H Q E h => ?_) (fun H vs Q E h => ?_)
  · obtain ⟨_, _, h, ⟨I, rfl, _⟩, _⟩ := h
    exact h.len
  obtain ⟨_, _, h, ⟨I, rfl, hs, rfl⟩, k⟩ := h
  obtain _ | ⟨hi, h⟩ := h
  cases h
  rename_i vi
  cases I with
  | cst r v =>
    have hi : Dt M.K H vi (.tuple [.str "const", .int r, .int v]) := hi
    tm_at "go"
    exact k _ _ (Same.refl _) (.int _)
  | op o r a b =>
    have hi : Dt M.K H vi (.tuple [.str "do", .str o, .int r, .int a, .int b]) := hi
    tm_at "go"
    exact k _ _ (Same.refl _) (.int _)
  | _ => cases hs
def nextOf (sl : List Int) (i : Nat) : Ins → Nat
  | .jump t => t
  | .unless s t => if gS sl s = 0 then t else i + 1
  | _ => 0
theorem sl_at {sl : List Int} {r : Nat} (h : r < sl.length) : atI (sl.map PyData.int) (r : Int) = some (.int (gS sl r)) := pl_at (j := r) rfl (by rw [List.getElem?_map, gS_get h]; rfl)
def rNx : List PyData → PyData → Prop := fun ds d => ∃ (I : Ins) (i : Nat) (sl : List Int), ds = [I.d, .int i, stD sl] ∧ isJmp I = true ∧ (∀ s t, I = .unless s t → s < sl.length) ∧ d = .int (nextOf sl i I)
abbrev dcNx (M : Md) : Prop := Dc M "_index_behind" ["instruction", "at", "slots"] 1 (spF rNx M.K)
theorem ok_nx {f fd} (F : Fun M.K "_index_behind" "_index_behind" s__index_behind f fd) (b : Bl M) : FnG M.prog M.w M.K M.mg M.base CX0 1 f fd ["instruction", "at", "slots"] (spF rNx M.K) := by
  refine fn_ok F sc__index_behind (fun vs H Q E h => ?_) (fun H vs Q E h => ?_)
  · obtain ⟨_, _, h, ⟨I, i, sl, rfl, _⟩, _⟩ := h
    exact h.len
  obtain ⟨_, _, h, ⟨I, i, sl, rfl, hs, hr, rfl⟩, k⟩ := h
  obtain _ | ⟨hi, h⟩ := h
  obtain _ | ⟨h1, h⟩ := h
  obtain _ | ⟨h2, h⟩ := h
  cases h
  cases h1
  rename_i vi v2
  have h2 : Dt M.K H v2 (.tuple (sl.map .int)) := h2
  cases I with
  | jump t =>
    have hi : Dt M.K H vi (.tuple [.str "jump", .int t]) := hi
    tm_at "go"
    exact k _ _ (Same.refl _) (.int _)
  | «unless» s t =>
    have hi : Dt M.K H vi (.tuple [.str "unless", .int s, .int t]) := hi
    have lt := hr s t rfl
    tm_at "go"
    refine rx_int h2 (sl_at lt) ?_
    tm_at "go"
    refine ifd (fun c => ?_) (fun c => ?_)
    · tm_at "go"
      refine k _ _ (Same.refl _) ?_
      show Dt _ _ _ (.int ((if gS sl s = 0 then t else i + 1 : Nat) : Int))
      rw [if_pos c]
      exact .int _
    · tm_at "go"
      refine k _ _ (Same.refl _) ?_
      show Dt _ _ _ (.int ((if gS sl s = 0 then t else i + 1 : Nat) : Int))
      rw [if_neg c]
      exact .int _
  | _ => cases hs
def rVal : List PyData → PyData → Prop := fun ds d => ∃ (I : Ins) (sl : List Int), ds = [I.d, stD sl] ∧ isSet I = true ∧ (∀ o r a b, I = .op o r a b → a < sl.length ∧ b < sl.length) ∧ (∀ x ∈ sl, x.natAbs < 2 ^ 1800) ∧ d = optD (valOf sl I)
abbrev dcVl (M : Md) : Prop := Dc M "_value_of" ["instruction", "slots"] 3 (spF rVal M.K)
set_option maxHeartbeats 1000000 in
theorem ok_val {f fd} (F : Fun M.K "_value_of" "_value_of" s__value_of f fd) (b : Bl M) (d2 : Dc M "value_of_two" ["op", "one", "other"] 2 (spF rTwo M.K)) : FnG M.prog M.w M.K M.mg M.base CX0 3 f fd ["instruction", "slots"] (spF rVal M.K) := by
  refine fn_ok F sc__value_of (fun vs H Q E h => ?_) (fun H vs Q E h => ?_)
  · obtain ⟨_, _, h, ⟨I, sl, rfl, _⟩, _⟩ := h
    exact h.len
  obtain ⟨_, _, h, ⟨I, sl, rfl, hs, hr, sm, rfl⟩, k⟩ := h
  obtain _ | ⟨hi, h⟩ := h
  obtain _ | ⟨h2, h⟩ := h
  cases h
  rename_i vi v2
  have h2 : Dt M.K H v2 (.tuple (sl.map .int)) := h2
  cases I with
  | cst r v =>
    have hi : Dt M.K H vi (.tuple [.str "const", .int r, .int v]) := hi
    tm_at "go"
    exact k _ _ (Same.refl _) (.int _)
  | op o r a b =>
    have hi : Dt M.K H vi (.tuple [.str "do", .str o, .int r, .int a, .int b]) := hi
    obtain ⟨la, lb⟩ := hr o r a b rfl
    have wa := sm _ (gS_mem la)
    have wb := sm _ (gS_mem lb)
    refine b_cut (fun σ1 H1 => σ1 = [some vi, some v2, none, none, none, none] ∧ H = H1) ?_ ?_
    · tm_at "go"
      exact ⟨rfl, rfl⟩
    rintro _ _ ⟨rfl, rfl⟩
    refine b_cut (fun σ1 H1 => σ1 = [some vi, some v2, some (.int r), some (.str o), some (.int a), some (.int b)] ∧ H = H1) ?_ ?_
    · refine s_asg (e_var (by tm_at "at") ?_)
      obtain ⟨t, xs, rfl, ht, hd⟩ := hi.tupE
      obtain _ | ⟨e1, hd⟩ := hd
      obtain _ | ⟨e2, hd⟩ := hd
      obtain _ | ⟨e3, hd⟩ := hd
      obtain _ | ⟨e4, hd⟩ := hd
      obtain _ | ⟨e5, hd⟩ := hd
      cases hd
      cases e1; cases e2; cases e3; cases e4; cases e5
      refine g_tup ht (gs_cons (g_name (by tm_at "at") (gs_cons (g_name (by tm_at "at") (gs_cons (g_name (by tm_at "at") (gs_cons (g_name (by tm_at "at") (gs_cons (g_name (by tm_at "at") (gs_nil ?_)))))))))))
      exact ⟨rfl, rfl⟩
    rintro _ _ ⟨rfl, rfl⟩
    refine b_cut (fun σ1 H1 => σ1 = [some vi, some v2, some (.int r), some (.str o), some (.int a), some (.int b)] ∧ Same H H1 ∧ ¬ ((o = "div" ∨ o = "mod") ∧ gS sl b < 1)) ?_ ?_
    · refine s_if (t_w (w_and (t_cmp (inC ["div", "mod"] ?_))))
      tm_at "go"
      refine ⟨dtStrs ["div", "mod"], (Nat.le_of_ble_eq_true rfl), fun H1 s1 => ?_⟩
      refine ⟨_, rfl, ifd (fun c1 => ?_) (fun c1 => ?_)⟩
      · have c1 : o = "div" ∨ o = "mod" := by simpa using c1
        tm_at "go"
        refine rx_int (h2.mono (tp_same s1)) (sl_at lb) ?_
        tm_at "go"
        refine ifd (fun c2 => ?_) (fun c2 => ?_)
        · tm_at "go"
          refine k _ _ s1 ?_
          show Dt _ _ _ (optD (if (o = "div" ∨ o = "mod") ∧ gS sl b < 1 then none else some (bin2 o (gS sl a) (gS sl b))))
          rw [if_pos ⟨c1, c2⟩]
          exact .non
        · tm_at "go"
          exact ⟨rfl, s1, fun z => c2 z.2⟩
      · have c1 : ¬ (o = "div" ∨ o = "mod") := by simpa using c1
        tm_at "go"
        exact ⟨rfl, s1, fun z => c1 z.1⟩
    rintro _ H1 ⟨rfl, s1, nz⟩
    refine b_one (s_ret (e_callF d2 ?_))
    tm_at "go"
    refine rx_int (h2.mono (tp_same s1)) (sl_at la) ?_
    tm_at "go"
    refine rx_int (h2.mono (tp_same s1)) (sl_at lb) ?_
    tm_at "go"
    refine ⟨_, _, .cons (.str _) (.cons (.int _) (.cons (.int _) .nil)), ⟨o, gS sl a, gS sl b, rfl, ⟨wa, wb⟩, fun z => ?_, rfl⟩, fun v H2 s2 h3 => ?_⟩
    · have : ¬ gS sl b < 1 := fun y => nz ⟨z, y⟩
      omega
    · refine k _ _ (s1.trans s2) ?_
      show Dt _ _ _ (optD (if (o = "div" ∨ o = "mod") ∧ gS sl b < 1 then none else some (bin2 o (gS sl a) (gS sl b))))
      rw [if_neg nz]
      exact h3
  | _ => cases hs
theorem set_cut {α : Type} {l : List α} {i : Nat} {a : α} (h : i < l.length) : l.take i ++ [a] ++ l.drop (i + 1) = l.set i a := by
  rw [List.set_eq_take_append_cons_drop, if_pos h, List.append_assoc]
  rfl
def rRep : List PyData → PyData → Prop := fun ds d => ∃ (l : List Int) (i : Nat) (v : Int), ds = [stD l, .int i, .int v] ∧ i < l.length ∧ l.length ≤ 1000 ∧ d = stD (l.set i v)
abbrev dcRp (M : Md) : Prop := Dc M "_replaced" ["values", "index", "value"] 1 (spF rRep M.K)
theorem cutT {ds : List PyData} (n : Nat) : G.cutD ds none (some (n : Int)) = ds.take n := by
  unfold G.cutD
  rw [HT.sIx_none, HT.sIx_nat, List.drop_zero, Nat.sub_zero]
  by_cases h : n ≤ ds.length
  · rw [Nat.min_eq_left h]
  · rw [Nat.min_eq_right (by omega), List.take_length, List.take_of_length_le (by omega)]
theorem cutF {ds : List PyData} (n : Nat) : G.cutD ds (some (n : Int)) none = ds.drop n := by
  unfold G.cutD
  rw [HT.sIx_none, HT.sIx_nat]
  by_cases h : n ≤ ds.length
  · rw [Nat.min_eq_left h, List.take_of_length_le (by rw [List.length_drop]; exact Nat.le_refl _)]
  · rw [Nat.min_eq_right (by omega), List.drop_length, List.drop_of_length_le (by omega), List.take_nil]
theorem ok_rep {f fd} (F : Fun M.K "_replaced" "_replaced" s__replaced f fd) (b : Bl M) : FnG M.prog M.w M.K M.mg M.base CX0 1 f fd ["values", "index", "value"] (spF rRep M.K) := by
  refine fn_ok F sc__replaced (fun vs H Q E h => ?_) (fun H vs Q E h => ?_)
  · obtain ⟨_, _, h, ⟨l, i, v, rfl, _⟩, _⟩ := h
    exact h.len
  obtain ⟨_, _, h, ⟨l, i, v, rfl, il, few, rfl⟩, k⟩ := h
  obtain _ | ⟨h1, h⟩ := h
  obtain _ | ⟨h2, h⟩ := h
  obtain _ | ⟨h3, h⟩ := h
  cases h
  cases h2
  cases h3
  rename_i v1
  have h1 : Dt M.K H v1 (.tuple (l.map .int)) := h1
  have lm : (l.map PyData.int).length = l.length := List.length_map ..
  tm_at "go"
  refine rsl_tup h1 fun va Ha sa ha => ?_
  rw [cutT] at ha
  tm_at "go"
  refine e_tupD (a_cons (e_var (by tm_at "at") (a_nil ?_)))
  refine tupend (ds := [.int v]) (.cons (.int _) .nil) (Nat.le_of_ble_eq_true rfl) fun vb Hb sb hb => ?_
  refine ro_catT (ha.mono (tp_same sb)) hb (by rw [List.length_take, lm]; show _ + 1 ≤ _; omega) fun vc Hc sc hc => ?_
  tm_at "go"
  have sabc := sa.trans (sb.trans sc)
  rw [show ((i : Int) + 1) = ((i + 1 : Nat) : Int) from rfl]
  refine rsl_tup (h1.mono (tp_same sabc)) fun vd Hd sd hd => ?_
  rw [cutF] at hd
  refine ro_catT (hc.mono (tp_same sd)) hd (by rw [List.length_append, List.length_take, List.length_drop, lm]; show _ + 1 + _ ≤ _; omega) fun ve He se he => ?_
  refine k _ _ (sabc.trans (sd.trans se)) ?_
  have e : ((l.map PyData.int).take i ++ [PyData.int v] ++ (l.map PyData.int).drop (i + 1)) = (l.set i v).map .int := by
    rw [set_cut (by rw [lm]; exact il), List.map_set]
  rw [e] at he
  exact he
end K

namespace K
open PySem PySem.Spec PyProof.Rows L2 G
variable {M : Md}
/-! ### a step of a machine, by the program -/
def rCell : List PyData → PyData → Prop := fun ds d => ∃ (rs : List Row) (I : Ins) (sl : List Int), ds = [cellsD rs, I.d, stD sl] ∧ isTch I = true ∧ (∀ r t s, I = .loadat r t s → s < sl.length) ∧ (∀ t r s, I = .storeat t r s → r < sl.length) ∧ d = optD (spotOf rs sl I)
abbrev dcCe (M : Md) : Prop := Dc M "_touched_cell" ["cells", "instruction", "slots"] 3 (spF rCell M.K)
abbrev dcFn (M : Md) : Prop := Dc M "found_index" ["cells", "name", "key"] 2 (spF rFound M.K)
set_option maxHeartbeats 1000000 in
theorem ok_cell {f fd} (F : Fun M.K "_touched_cell" "_touched_cell" s__touched_cell f fd) (b : Bl M) (dt : dcTP M) (df : dcFn M) : FnG M.prog M.w M.K M.mg M.base CX0 3 f fd ["cells", "instruction", "slots"] (spF rCell M.K) := by
  refine fn_ok F sc__touched_cell (fun vs H Q E h => ?_) (fun H vs Q E h => ?_)
  · obtain ⟨_, _, h, ⟨rs, I, sl, rfl, _⟩, _⟩ := h
    exact h.len
  obtain ⟨_, _, h, ⟨rs, I, sl, rfl, ht, hl, hs, rfl⟩, k⟩ := h
  obtain _ | ⟨hc, h⟩ := h
  obtain _ | ⟨hi, h⟩ := h
  obtain _ | ⟨h2, h⟩ := h
  cases h
  rename_i vc vi v2
  have h2 : Dt M.K H v2 (.tuple (sl.map .int)) := h2
  refine b_cut (fun σ1 H1 => σ1 = [some vc, some vi, some v2, some (.str (wd I)), none] ∧ H = H1) ?_ ?_
  · refine s_set (by tm_at "at") ?_
    have hi' := hi
    rw [ins_d] at hi'
    tm_at "go"
    refine rx_str hi' (pl_at (j := 0) rfl rfl) ?_
    exact ⟨rfl, rfl⟩
  rintro _ _ ⟨rfl, rfl⟩
  refine b_cut (fun σ1 H1 => ∃ vp, σ1 = [some vc, some vi, some v2, some (.str (wd I)), some vp] ∧ Same H H1 ∧ Dt M.K H1 vp (tpD I)) ?_ ?_
  · refine s_set (by tm_at "at") (e_callF dt ?_)
    tm_at "go"
    refine ⟨_, _, .cons hi .nil, ⟨I, rfl, rfl⟩, fun v H1 s1 h1 => ?_⟩
    exact ⟨v, rfl, s1, h1⟩
  rintro _ H1 ⟨vp, rfl, s1, hp⟩
  have hc1 := hc.mono (tp_same s1)
  have h21 := h2.mono (tp_same s1)
  cases I with
  | load r p =>
    cases p with
    | cell n =>
      cases hp
      tm_at "go"
      refine t_val ?_
      tm_at "go"
      refine rc_isTup (d := .str n) (.str n) ?_
      refine ⟨_, rfl, iff0 ?_⟩
      tm_at "go"
      refine e_callF df ?_
      tm_at "go"
      exact ⟨_, _, .cons hc1 (.cons (.str n) (.cons .non .nil)), ⟨rs, n, none, rfl, rfl⟩, fun v H2 s2 hv => k v H2 (s1.trans s2) hv⟩
    | tab n j =>
      have hp : Dt M.K H1 vp (.tuple [.str n, .int j]) := hp
      tm_at "go"
      refine t_val ?_
      tm_at "go"
      refine rc_isTup hp ?_
      refine ⟨_, rfl, ift ?_⟩
      tm_at "go"
      refine e_callF df ?_
      tm_at "go"
      exact ⟨_, _, .cons hc1 (.cons (.str n) (.cons (.int j) .nil)), ⟨rs, n, some j, rfl, rfl⟩, fun v H2 s2 hv => k v H2 (s1.trans s2) hv⟩
  | store p r =>
    cases p with
    | cell n =>
      cases hp
      tm_at "go"
      refine t_val ?_
      tm_at "go"
      refine rc_isTup (d := .str n) (.str n) ?_
      refine ⟨_, rfl, iff0 ?_⟩
      tm_at "go"
      refine e_callF df ?_
      tm_at "go"
      exact ⟨_, _, .cons hc1 (.cons (.str n) (.cons .non .nil)), ⟨rs, n, none, rfl, rfl⟩, fun v H2 s2 hv => k v H2 (s1.trans s2) hv⟩
    | tab n j =>
      have hp : Dt M.K H1 vp (.tuple [.str n, .int j]) := hp
      tm_at "go"
      refine t_val ?_
      tm_at "go"
      refine rc_isTup hp ?_
      refine ⟨_, rfl, ift ?_⟩
      tm_at "go"
      refine e_callF df ?_
      tm_at "go"
      exact ⟨_, _, .cons hc1 (.cons (.str n) (.cons (.int j) .nil)), ⟨rs, n, some j, rfl, rfl⟩, fun v H2 s2 hv => k v H2 (s1.trans s2) hv⟩
  | loadat r t s =>
    have hi1 : Dt M.K H1 vi (.tuple [.str "loadat", .int r, .str t, .int s]) := hi.mono (tp_same s1)
    cases hp
    tm_at "go"
    refine e_callF df ?_
    tm_at "go"
    refine rx_int h21 (sl_at (hl r t s rfl)) ?_
    tm_at "go"
    exact ⟨_, _, .cons hc1 (.cons (.str t) (.cons (.int _) .nil)), ⟨rs, t, some (gS sl s), rfl, rfl⟩, fun v H2 s2 hv => k v H2 (s1.trans s2) hv⟩
  | storeat t r s =>
    have hi1 : Dt M.K H1 vi (.tuple [.str "storeat", .str t, .int r, .int s]) := hi.mono (tp_same s1)
    cases hp
    tm_at "go"
    refine e_callF df ?_
    tm_at "go"
    refine rx_int h21 (sl_at (hs t r s rfl)) ?_
    tm_at "go"
    exact ⟨_, _, .cons hc1 (.cons (.str t) (.cons (.int _) .nil)), ⟨rs, t, some (gS sl r), rfl, rfl⟩, fun v H2 s2 hv => k v H2 (s1.trans s2) hv⟩
  | _ => cases ht
/-- a step's outcome, as data -/
def outD (vals : St1) : Out → PyData
  | .fault a s => .tuple [.tuple [.str "fault", .int (a : Nat), .none, .none], .tuple [.none, stD s], stD vals]
  | .over a s => .tuple [.tuple [.str "end", .int (a : Nat), .none, .none], .tuple [.none, stD s], stD vals]
  | .ev w c v a s vs => .tuple [.tuple [.str w, .int ((a - 1 : Nat) : Int), .int c, .int v], .tuple [.int (a : Nat), stD s], stD vs]
  | .go _ _ => .none
theorem gt_atI {vals : St1} {j : Int} (h0 : 0 ≤ j) (h1 : j < vals.length) : atI (vals.map PyData.int) j = some (.int (gt vals j)) := by
  have h : j.toNat < vals.length := by omega
  refine pl_at (j := j.toNat) (by omega) ?_
  unfold gt
  rw [List.getElem?_map, List.getD_eq_getElem?_getD, List.getElem?_eq_getElem h]
  rfl
theorem atI_neg1 {xs : List PyData} {d : PyData} (ne : xs ≠ []) (h : xs.getLast ne = d) : atI xs (-1) = some d := by
  have l : 0 < xs.length := List.length_pos_iff.mpr ne
  unfold atI ixN
  rw [if_neg (by decide), if_pos (by omega)]
  have e : ((-1 : Int) + (xs.length : Int)).toNat = xs.length - 1 := by omega
  rw [e, ← h, List.getLast_eq_getElem]
  exact List.getElem?_eq_getElem (by omega)
def rTch : List PyData → PyData → Prop := fun ds d => ∃ (rs : List Row) (I : Ins) (i : Nat) (sl : List Int) (vals : St1) (c : Bud), ds = [cellsD rs, I.d, .tuple [.int i, stD sl], stD vals] ∧ isTch I = true ∧ At rs c i sl vals ∧ total rs ≤ 10 ∧ InsOk rs c i I ∧ d = outD vals (touchI rs I i sl vals)
abbrev dcTc (M : Md) : Prop := Dc M "_touching_step" ["cells", "instruction", "run", "values"] 4 (spF rTch M.K)
theorem tch_load {I : Ins} (h : wd I ∈ (["load", "loadat"] : List Str)) : ∃ r m, I.d = .tuple (.str (wd I) :: .int (r : Nat) :: m) ∧ (∀ rs c i, InsOk rs c i I → r < 32) ∧ ∀ rs i sl vals j, spotOf rs sl I = some j → touchI rs I i sl vals = .ev "load" j (gt vals j) (i + 1) (sl.set r (gt vals j)) vals := by
  cases I with
  | load r p => exact ⟨r, _, rfl, fun _ _ _ h => h.1, fun rs i sl vals j h => by unfold touchI; rw [h]⟩
  | loadat r t s => exact ⟨r, _, rfl, fun _ _ _ h => h.1, fun rs i sl vals j h => by unfold touchI; rw [h]⟩
  | _ => simp only [wd] at h; exact absurd h (by decide)
theorem tch_store {I : Ins} (ht : isTch I = true) (h : ¬ wd I ∈ (["load", "loadat"] : List Str)) : ∃ r ds, I.d = .tuple ds ∧ atI ds (-1) = some (.int (r : Nat)) ∧ (∀ rs c i, InsOk rs c i I → r < 32) ∧ ∀ rs i sl vals j, spotOf rs sl I = some j → touchI rs I i sl vals = .ev "store" j (gS sl r) (i + 1) sl (vals.set j.toNat (gS sl r)) := by
  cases I with
  | store p r => exact ⟨r, _, rfl, atI_neg1 (by simp) rfl, fun _ _ _ h => h.1, fun rs i sl vals j h => by unfold touchI; rw [h]⟩
  | storeat t r s => exact ⟨s, _, rfl, atI_neg1 (by simp) rfl, fun _ _ _ h => h.2, fun rs i sl vals j h => by unfold touchI; rw [h]⟩
  | load r p => simp only [wd] at h; exact absurd (by decide) h
  | loadat r t s => simp only [wd] at h; exact absurd (by decide) h
  | _ => cases ht
set_option maxHeartbeats 2000000 in
theorem ok_tch {f fd} (F : Fun M.K "_touching_step" "_touching_step" s__touching_step f fd) (b : Bl M) (dc : dcCe M) (dr : dcRp M) : FnG M.prog M.w M.K M.mg M.base CX0 4 f fd ["cells", "instruction", "run", "values"] (spF rTch M.K) := by
  refine fn_ok F sc__touching_step (fun vs H Q E h => ?_) (fun H vs Q E h => ?_)
  · obtain ⟨_, _, h, ⟨rs, I, i, sl, vals, c, rfl, _⟩, _⟩ := h
    exact h.len
  obtain ⟨_, _, h, ⟨rs, I, i, sl, vals, c, rfl, ht, A, tot, ok, rfl⟩, k⟩ := h
  obtain _ | ⟨hc, h⟩ := h
  obtain _ | ⟨hi, h⟩ := h
  obtain _ | ⟨hr, h⟩ := h
  obtain _ | ⟨hv, h⟩ := h
  cases h
  rename_i vc vi vr vv
  have hvt : Dt M.K H vv (.tuple (vals.map .int)) := hv
  refine b_cut (fun σ1 H1 => ∃ v5, σ1 = [some vc, some vi, some vr, some vv, some (.int i), some v5, none, none] ∧ H = H1 ∧ Dt M.K H v5 (stD sl)) ?_ ?_
  · refine s_asg (e_var (by tm_at "at") ?_)
    refine g_unp2 (by tm_at "at") (by tm_at "at") hr fun v4 v5 h4 h5 => ?_
    cases h4
    exact ⟨v5, rfl, rfl, h5⟩
  rintro _ _ ⟨v5, rfl, rfl, h5⟩
  refine b_cut (fun σ1 H1 => ∃ v6, σ1 = [some vc, some vi, some vr, some vv, some (.int i), some v5, some v6, none] ∧ Same H H1 ∧ Dt M.K H1 v6 (optD (spotOf rs sl I))) ?_ ?_
  · refine s_set (by tm_at "at") (e_callF dc ?_)
    tm_at "go"
    refine ⟨_, _, .cons hc (.cons hi (.cons h5 .nil)), ⟨rs, I, sl, rfl, ht, fun r t s e => ?_, fun t r s e => ?_, rfl⟩, fun v H1 s1 h1 => ?_⟩
    · subst e
      rw [A.sl32]
      exact ok.2
    · subst e
      rw [A.sl32]
      exact ok.1
    · exact ⟨v, rfl, s1, h1⟩
  rintro _ H1 ⟨v6, rfl, s1, h6⟩
  have h51 := h5.mono (tp_same s1)
  have hv1 := hv.mono (tp_same s1)
  have hi1 := hi.mono (tp_same s1)
  have hvt1 : Dt M.K H1 vv (.tuple (vals.map .int)) := hv1
  cases hsp : spotOf rs sl I with
  | none =>
    rw [hsp] at h6
    cases h6
    have e : touchI rs I i sl vals = .fault i sl := by unfold touchI; rw [hsp]
    rw [e] at k
    tm_at "go"
    refine e_tupD (a_cons (e_tupD ?_))
    tm_at "go"
    refine tupend (ds := [.str "fault", .int (i : Nat), .none, .none]) (.cons (.str _) (.cons (.int _) (.cons .non (.cons .non .nil)))) (Nat.le_of_ble_eq_true rfl) fun w1 Ha sa ha => ?_
    refine a_cons (e_tupD ?_)
    tm_at "go"
    refine tupend (ds := [.none, stD sl]) (.cons .non (.cons (h51.mono (tp_same sa)) .nil)) (Nat.le_of_ble_eq_true rfl) fun w2 Hb sb hb => ?_
    tm_at "go"
    have sab := sa.trans sb
    refine tupend (ds := [.tuple [.str "fault", .int (i : Nat), .none, .none], .tuple [.none, stD sl], stD vals]) (.cons (ha.mono (tp_same sb)) (.cons hb (.cons (hv1.mono (tp_same sab)) .nil))) (Nat.le_of_ble_eq_true rfl) fun w3 Hc sc hc3 => ?_
    exact k _ _ (s1.trans (sab.trans sc)) hc3
  | some j =>
    rw [hsp] at h6
    cases h6
    obtain ⟨j0, j1⟩ := spot_in hsp
    have jl : j < vals.length := by rw [A.vl]; exact j1
    refine b_cut (fun σ1 H2 => σ1 = [some vc, some vi, some vr, some vv, some (.int i), some v5, some (.int j), none] ∧ H1 = H2) ?_ ?_
    · tm_at "go"
      exact ⟨rfl, rfl⟩
    rintro _ _ ⟨rfl, rfl⟩
    have hi1' := hi1
    rw [ins_d] at hi1'
    refine b_cons (s_if (t_cmp (inC ["load", "loadat"] ?_)))
    tm_at "go"
    refine rx_str hi1' (pl_at (j := 0) rfl rfl) ?_
    tm_at "go"
    refine ⟨dtStrs ["load", "loadat"], (Nat.le_of_ble_eq_true rfl), fun H2 s2 => ?_⟩
    have s12 := s1.trans s2
    refine ⟨_, rfl, ifd (fun c1 => ?_) (fun c1 => ?_)⟩
    · obtain ⟨r, m, ed, r32, et⟩ := tch_load c1
      rw [et rs i sl vals j hsp] at k
      have hid := hi1.mono (tp_same s2)
      rw [ed] at hid
      refine b_cut (fun σ1 H3 => σ1 = [some vc, some vi, some vr, some vv, some (.int i), some v5, some (.int j), some (.int (gt vals j))] ∧ H2 = H3) ?_ ?_
      · refine s_set (by tm_at "at") ?_
        tm_at "go"
        refine rx_int (hvt1.mono (tp_same s2)) (gt_atI j0 jl) ?_
        exact ⟨rfl, rfl⟩
      rintro _ _ ⟨rfl, rfl⟩
      tm_at "go"
      refine e_tupD (a_cons (e_tupD ?_))
      tm_at "go"
      refine tupend (ds := [.str "load", .int (i : Nat), .int j, .int (gt vals j)]) (.cons (.str _) (.cons (.int _) (.cons (.int _) (.cons (.int _) .nil)))) (Nat.le_of_ble_eq_true rfl) fun w1 Ha sa ha => ?_
      refine a_cons (e_tupD ?_)
      tm_at "go"
      refine e_callF dr ?_
      tm_at "go"
      refine rx_int (hid.mono (tp_same sa)) (pl_at (j := 1) rfl rfl) ?_
      tm_at "go"
      refine ⟨_, _, .cons (h51.mono (tp_same (s2.trans sa))) (.cons (.int _) (.cons (.int _) .nil)), ⟨sl, r, gt vals j, rfl, by rw [A.sl32]; exact r32 rs c i ok, by rw [A.sl32]; decide, rfl⟩, fun w2 Hb sb hb => ?_⟩
      tm_at "go"
      refine tupend (ds := [.int ((i + 1 : Nat) : Int), stD (sl.set r (gt vals j))]) (.cons (.int _) (.cons hb .nil)) (Nat.le_of_ble_eq_true rfl) fun w3 Hc sc hc3 => ?_
      tm_at "go"
      have sabc := sa.trans (sb.trans sc)
      refine tupend (ds := [.tuple [.str "load", .int (i : Nat), .int j, .int (gt vals j)], .tuple [.int ((i + 1 : Nat) : Int), stD (sl.set r (gt vals j))], stD vals]) (.cons (ha.mono (tp_same (sb.trans sc))) (.cons hc3 (.cons (hv1.mono (tp_same (s2.trans sabc))) .nil))) (Nat.le_of_ble_eq_true rfl) fun w4 Hd sd hd => ?_
      exact k _ _ (s12.trans (sabc.trans sd)) hd
    · obtain ⟨r, m, ed, em, r32, et⟩ := tch_store ht c1
      rw [et rs i sl vals j hsp] at k
      have hid := hi1.mono (tp_same s2)
      rw [ed] at hid
      have lt : r < sl.length := by rw [A.sl32]; exact r32 rs c i ok
      refine b_nil ?_
      refine b_cut (fun σ1 H3 => σ1 = [some vc, some vi, some vr, some vv, some (.int i), some v5, some (.int j), some (.int (gS sl r))] ∧ H2 = H3) ?_ ?_
      · refine s_set (by tm_at "at") ?_
        tm_at "go"
        refine rx_int hid em ?_
        tm_at "go"
        have h52 : Dt M.K H2 v5 (.tuple (sl.map .int)) := h51.mono (tp_same s2)
        refine rx_int h52 (sl_at lt) ?_
        exact ⟨rfl, rfl⟩
      rintro _ _ ⟨rfl, rfl⟩
      tm_at "go"
      refine e_tupD (a_cons (e_tupD ?_))
      tm_at "go"
      refine tupend (ds := [.str "store", .int (i : Nat), .int j, .int (gS sl r)]) (.cons (.str _) (.cons (.int _) (.cons (.int _) (.cons (.int _) .nil)))) (Nat.le_of_ble_eq_true rfl) fun w1 Ha sa ha => ?_
      refine a_cons (e_tupD ?_)
      tm_at "go"
      refine tupend (ds := [.int ((i + 1 : Nat) : Int), stD sl]) (.cons (.int _) (.cons (h51.mono (tp_same (s2.trans sa))) .nil)) (Nat.le_of_ble_eq_true rfl) fun w2 Hb sb hb => ?_
      refine a_cons (e_callF dr ?_)
      tm_at "go"
      have sab := sa.trans sb
      refine ⟨_, _, .cons (hv1.mono (tp_same (s2.trans sab))) (.cons (.int _) (.cons (.int _) .nil)), ⟨vals, j.toNat, gS sl r, by rw [show ((j.toNat : Nat) : Int) = j by omega], by omega, by rw [A.vl]; omega, rfl⟩, fun w3 Hc sc hc3 => ?_⟩
      tm_at "go"
      refine tupend (ds := [.tuple [.str "store", .int (i : Nat), .int j, .int (gS sl r)], .tuple [.int ((i + 1 : Nat) : Int), stD sl], stD (vals.set j.toNat (gS sl r))]) (.cons (ha.mono (tp_same (sb.trans sc))) (.cons (hb.mono (tp_same sc)) (.cons hc3 .nil))) (Nat.le_of_ble_eq_true rfl) fun w4 Hd sd hd => ?_
      exact k _ _ (s12.trans (sab.trans (sc.trans sd))) hd
end K

namespace K
open PySem PySem.Spec PyProof.Rows L2 G
variable {M : Md}
/-! ### the machine's run, by the program -/
def sl0 : List Int := List.replicate 32 0
def spFr (K : PySem.W.Frag) : Sp := fun vs H Q _ => vs = [] ∧ ∀ v H', Same H H' → Dt K H' v (.tuple [.int 0, stD sl0]) → Q v H'
abbrev dcFr (M : Md) : Prop := Dc M "first_run" [] 1 (spFr M.K)
theorem rep_dts {K : PySem.W.Frag} {H : Hp} {xs : List V} {ds : List PyData} (h : DtAll K H xs ds) : ∀ k : Nat, DtAll K H (List.replicate k xs).flatten (List.replicate k ds).flatten
  | 0 => .nil
  | k + 1 => by
    rw [List.replicate_succ, List.replicate_succ, List.flatten_cons, List.flatten_cons]
    exact h.app (rep_dts h k)
theorem ro_repT {c : Cd} {H : Hp} {Q : VK} {x : V} {ds : List PyData} {k : Nat} (h : Dt c.K H x (.tuple ds)) (hne : ds ≠ []) (hk : 2 ≤ k ∧ k ≤ 1000) (hl : ds.length ≤ 1000) (q : ∀ v H2, Same H H2 → Dt c.K H2 v (.tuple (List.replicate k ds).flatten) → Q v H2) : RO c .Mult x (.int k) H Q := by
  obtain ⟨a, xs, rfl, ht, hd⟩ := h.tupE
  have ln := hd.len
  refine ro_of (r := rRepT c.K) (fun X h => by rw [← h.K]; exact op_repT) ⟨a, k, xs, rfl, rfl, ht, fun e => hne ?_, by omega, by omega, by omega, fun p hp => q _ _ (same_new hp) ?_⟩
  · rw [e] at ln
    exact List.eq_nil_of_length_eq_zero ln.symm
  · rw [Int.toNat_natCast]
    exact .tup (.of upd_same) (rep_dts (hd.mono (tp_same (same_new hp))) k)
theorem ok_first {f fd} (F : Fun M.K "first_run" "first_run" s_first_run f fd) (b : Bl M) (hS : ∃ u, M.mg "SLOTS" = some u ∧ RelV (.int 32) u) : FnG M.prog M.w M.K M.mg M.base CX0 1 f fd [] (spFr M.K) := by
  refine fn_ok F sc_first_run (fun vs H Q E h => by rw [h.1]; rfl) (fun H vs Q E h => ?_)
  obtain ⟨rfl, k⟩ := h
  obtain ⟨u, hu, ru⟩ := hS
  tm_at "go"
  refine e_tupD (a_cons (e_int (a_cons (e_bin (e_tupD (a_cons (e_int (a_nil ?_))))))))
  refine tupend (ds := [.int 0]) (.cons (.int 0) .nil) (Nat.le_of_ble_eq_true rfl) fun v1 H1 s1 h1 => ?_
  refine e_glob hu ru ?_
  refine ro_repT (k := 32) h1 (by simp) (by decide) (Nat.le_of_ble_eq_true rfl) fun v2 H2 s2 h2 => ?_
  refine a_nil ?_
  refine tupend (ds := [.int 0, stD sl0]) (.cons (.int 0) (.cons h2 .nil)) (Nat.le_of_ble_eq_true rfl) fun v3 H3 s3 h3 => ?_
  exact k _ _ (s1.trans (s2.trans s3)) h3
def rStep : List PyData → PyData → Prop := fun ds d => (∃ (rs : List Row) (code : List Ins) (c : Bud) (n i : Nat) (sl : List Int) (vals : St1) (o : Out), ds = [cellsD rs, codeD code, .tuple [.int (i : Nat), stD sl], stD vals] ∧ CodeOk rs c code ∧ At rs c i sl vals ∧ Runs rs code n i sl vals o ∧ d = outD vals o) ∨
  ∃ (rs : List Row) (code : List Ins) (s : List Int) (vals : St1), ds = [cellsD rs, codeD code, .tuple [.none, stD s], stD vals] ∧ d = .tuple [.tuple [.str "end", .none, .none, .none], .tuple [.none, stD s], stD vals]
abbrev dcSt (M : Md) : Prop := Dc M "step_of" ["cells", "code", "run", "values"] 5 (spF rStep M.K)
theorem ro_neS {c : Cd} {H : Hp} {Q : VK} {i j : Str} (q : Q (.bl (!decide (i = j))) H) : RQ c .NotEq (.str i) (.str j) H Q := ro_ne rfl (by
  have e : decide (V.str i = V.str j) = decide (i = j) := decide_eq_decide.mpr ⟨fun h => V.str.inj h, fun h => by rw [h]⟩
  rw [e]; exact q)
theorem wd_end {I : Ins} : wd I = "end" ↔ I = .fin := by
  cases I <;> simp only [wd] <;> first | exact ⟨fun _ => rfl, fun _ => rfl⟩ | exact ⟨fun h => absurd h (by decide), fun h => nomatch h⟩
theorem tch_out {rs : List Row} {I : Ins} {i : Nat} {sl : List Int} {vals : St1} (h : isTch I = true) : oneI rs I i sl vals = touchI rs I i sl vals := by cases I <;> first | rfl | cases h
theorem tch_tp {I : Ins} : isTch I = false ↔ tpD I = .none := by
  cases I with
  | load r p => cases p <;> exact ⟨fun h => (nomatch h), fun h => nomatch h⟩
  | store p r => cases p <;> exact ⟨fun h => (nomatch h), fun h => nomatch h⟩
  | _ => first | exact ⟨fun _ => rfl, fun _ => rfl⟩ | exact ⟨fun h => (nomatch h), fun h => nomatch h⟩
set_option maxHeartbeats 4000000 in
theorem ok_step {f fd} (F : Fun M.K "step_of" "step_of" s_step_of f fd) (b : Bl M) (dtp : dcTP M) (dtc : dcTc M) (dnx : dcNx M) (dvl : dcVl M) (dsl : dcSl M) (drp : dcRp M) : FnG M.prog M.w M.K M.mg M.base CX0 5 f fd ["cells", "code", "run", "values"] (spF rStep M.K) := by
  refine fn_ok F sc_step_of (fun vs H Q E h => ?_) (fun H vs Q E h => ?_)
  · obtain ⟨_, _, h, r, _⟩ := h
    rcases r with ⟨rs, code, c, n, i, sl, vals, o, rfl, _⟩ | ⟨rs, code, sl, vals, rfl, _⟩
    · exact h.len
    · exact h.len
  obtain ⟨_, _, h, r, k⟩ := h
  rcases r with ⟨rs, code, c, n, i, sl, vals, o, rfl, C, A, R, rfl⟩ | ⟨rs, code, sl, vals, rfl, rfl⟩
  case inr =>
    obtain _ | ⟨hc, h⟩ := h
    obtain _ | ⟨hd, h⟩ := h
    obtain _ | ⟨hr, h⟩ := h
    obtain _ | ⟨hv, h⟩ := h
    cases h
    rename_i vc vd vr vv
    refine b_cut (fun σ1 H1 => ∃ v5, σ1 = [some vc, some vd, some vr, some vv, some .non, some v5, none, none] ∧ H = H1 ∧ Dt M.K H v5 (stD sl)) ?_ ?_
    · refine s_asg (e_var (by tm_at "at") ?_)
      refine g_unp2 (by tm_at "at") (by tm_at "at") hr fun v4 v5 h4 h5 => ?_
      cases h4
      exact ⟨v5, rfl, rfl, h5⟩
    rintro _ _ ⟨v5, rfl, rfl, h5⟩
    refine b_cut (fun σ1 H1 => σ1 = [some vc, some vd, some vr, some vv, some .non, some v5, none, none] ∧ H = H1) ?_ ?_
    · refine s_while (fun m σ' H' => σ' = [some vc, some vd, some vr, some vv, some .non, some v5, none, none] ∧ H = H') 0 ⟨rfl, rfl⟩ ?_
      rintro m _ _ ⟨rfl, rfl⟩
      refine t_w (e := .BoolOp _ _ _) (w_and (t_cmp ?_))
      tm_at "run"
      refine ifnF rfl ?_
      exact ⟨rfl, rfl⟩
    rintro _ _ ⟨rfl, rfl⟩
    tm_at "go"
    refine e_tupD (a_cons (e_tupD ?_))
    tm_at "go"
    refine tupend (ds := [.str "end", .none, .none, .none]) (.cons (.str _) (.cons .non (.cons .non (.cons .non .nil)))) (Nat.le_of_ble_eq_true rfl) fun w1 Ha sa ha => ?_
    refine a_cons (e_tupD ?_)
    tm_at "go"
    refine tupend (ds := [.none, stD sl]) (.cons .non (.cons (h5.mono (tp_same sa)) .nil)) (Nat.le_of_ble_eq_true rfl) fun w2 Hb sb hb => ?_
    tm_at "go"
    have sab := sa.trans sb
    refine tupend (ds := [.tuple [.str "end", .none, .none, .none], .tuple [.none, stD sl], stD vals]) (.cons (ha.mono (tp_same sb)) (.cons hb (.cons (hv.mono (tp_same sab)) .nil))) (Nat.le_of_ble_eq_true rfl) fun w3 Hc sc hc3 => ?_
    exact k _ _ (sab.trans sc) hc3
  obtain _ | ⟨hc, h⟩ := h
  obtain _ | ⟨hd, h⟩ := h
  obtain _ | ⟨hr, h⟩ := h
  obtain _ | ⟨hv, h⟩ := h
  cases h
  rename_i vc vd vr vv
  have hd : Dt M.K H vd (.tuple (code.map Ins.d)) := hd
  refine b_cut (fun σ1 H1 => ∃ v5, σ1 = [some vc, some vd, some vr, some vv, some (.int (i : Nat)), some v5, none, none] ∧ H = H1 ∧ Dt M.K H v5 (stD sl)) ?_ ?_
  · refine s_asg (e_var (by tm_at "at") ?_)
    refine g_unp2 (by tm_at "at") (by tm_at "at") hr fun v4 v5 h4 h5 => ?_
    cases h4
    exact ⟨v5, rfl, rfl, h5⟩
  rintro _ _ ⟨v5, rfl, rfl, h5⟩
  refine b_cut (fun σ1 H1 => ∃ (a : Nat) (s : List Int) (v5 : V) (w6 w7 : Option V), σ1 = [some vc, some vd, some vr, some vv, some (.int (a : Nat)), some v5, w6, w7] ∧ Same H H1 ∧ Dt M.K H1 v5 (stD s) ∧ o = .over a s) ?_ ?_
  · refine s_while (fun m σ' H' => ∃ (a : Nat) (s : List Int) (v5 : V) (w6 w7 : Option V), σ' = [some vc, some vd, some vr, some vv, some (.int (a : Nat)), some v5, w6, w7] ∧ Same H H' ∧ Dt M.K H' v5 (stD s) ∧ At rs c a s vals ∧ Runs rs code m a s vals o) n ⟨i, sl, v5, none, none, rfl, Same.refl _, h5, A, R⟩ ?_
    rintro m σ' H1 ⟨a, s, v5, w6, w7, rfl, s1, h5, A, R⟩
    have hc1 := hc.mono (tp_same s1)
    have hd1 := hd.mono (tp_same s1)
    have hv1 := hv.mono (tp_same s1)
    -- at the code's end
    have ends : stepO rs code a s vals = .over a s → o = .over a s := fun e => by
      cases m with
      | zero => exact R.1.symm.trans e
      | succ m =>
        obtain ⟨b1, s1, h, _⟩ := R
        rw [e] at h
        cases h
    refine t_w (e := .BoolOp _ _ _) (w_and (t_cmp ?_))
    tm_at "go"
    refine rc_lenT hd1 ?_
    tm_at "go"
    rw [List.length_map]
    refine ifd (fun c1 => ?_) (fun c1 => ?_)
    · have al : a < code.length := by omega
      obtain ⟨I, hI⟩ : ∃ I, code[a]? = some I := ⟨_, List.getElem?_eq_getElem al⟩
      have at_d : atI (code.map Ins.d) (a : Nat) = some I.d := pl_at (j := a) rfl (by rw [List.getElem?_map, hI]; rfl)
      have so : stepO rs code a s vals = oneI rs I a s vals := by unfold stepO; rw [hI]
      have ok := C.ins a I hI
      refine w_and1 (t_cmp ?_)
      tm_at "go"
      refine rx_tup hd1 at_d fun vi0 hi0 => ?_
      have hi0' := hi0
      rw [ins_d] at hi0'
      tm_at "go"
      refine rx_str hi0' (pl_at (j := 0) rfl rfl) ?_
      tm_at "go"
      refine ro_neS ?_
      refine ⟨_, rfl, ?_⟩
      by_cases ce : wd I = "end"
      · rw [decide_eq_true ce]
        refine iff0 ?_
        refine ⟨a, s, v5, w6, w7, rfl, s1, h5, ends ?_⟩
        rw [so, wd_end.mp ce]
        rfl
      rw [decide_eq_false ce]
      refine ift ?_
      refine b_cut (fun σ2 H2 => ∃ vi, σ2 = [some vc, some vd, some vr, some vv, some (.int (a : Nat)), some v5, some vi, w7] ∧ H1 = H2 ∧ Dt M.K H1 vi I.d) ?_ ?_
      · refine s_set (by tm_at "at") ?_
        tm_at "go"
        refine rx_tup hd1 at_d fun vi hi => ?_
        exact ⟨vi, rfl, rfl, hi⟩
      rintro _ _ ⟨vi, rfl, rfl, hi⟩
      have hi' := hi
      rw [ins_d] at hi'
      refine b_cons (s_if (t_cmp (e_callF dtp ?_)))
      tm_at "go"
      refine ⟨_, _, .cons hi .nil, ⟨I, rfl, rfl⟩, fun vt H2 s2 h2 => ?_⟩
      have s12 := s1.trans s2
      tm_at "go"
      cases ht : isTch I with
      | true =>
        have nn : ¬ vt = V.non := fun e => by
          subst e
          have : tpD I ≠ .none := fun z => by rw [tch_tp.mpr z] at ht; cases ht
          cases I with
          | load r p => cases p <;> cases h2
          | store p r => cases p <;> cases h2
          | loadat r t s => cases h2
          | storeat t r s => cases h2
          | _ => cases ht
        rw [decide_eq_false nn]
        refine ift ?_
        refine b_one (s_ret (e_callF dtc ?_))
        tm_at "go"
        refine e_tupD ?_
        tm_at "go"
        refine tupend (ds := [.int (a : Nat), stD s]) (.cons (.int _) (.cons (h5.mono (tp_same s2)) .nil)) (Nat.le_of_ble_eq_true rfl) fun w1 Ha sa ha => ?_
        tm_at "go"
        have s2a := s2.trans sa
        refine ⟨_, _, .cons (hc1.mono (tp_same s2a)) (.cons (hi.mono (tp_same s2a)) (.cons ha (.cons (hv1.mono (tp_same s2a)) .nil))), ⟨rs, I, a, s, vals, c, rfl, ht, A, C.tot, ok, rfl⟩, fun w2 Hb sb hb => ?_⟩
        refine k _ _ (s1.trans (s2a.trans sb)) ?_
        rw [← tch_out ht, ← so] at hb
        cases m with
        | zero =>
          rw [R.1] at hb
          exact hb
        | succ m =>
          obtain ⟨b1, b2, h, _⟩ := R
          rw [so, tch_out ht] at h
          unfold touchI at h
          split at h
          · cases h
          · cases I <;> cases h
      | false =>
        have nn : vt = V.non := by
          rw [tch_tp.mp ht] at h2
          cases h2
          rfl
        rw [decide_eq_true nn]
        refine iff0 ?_
        refine b_nil ?_
        refine b_one (s_if (t_cmp (inC ["jump", "unless"] ?_)))
        tm_at "go"
        refine rx_str (hi'.mono (tp_same s2)) (pl_at (j := 0) rfl rfl) ?_
        tm_at "go"
        refine ⟨dtStrs ["jump", "unless"], (Nat.le_of_ble_eq_true rfl), fun H3 s3 => ?_⟩
        have s13 := s12.trans s3
        have h53 := h5.mono (tp_same (s2.trans s3))
        have hi3 := hi.mono (tp_same (s2.trans s3))
        refine ⟨_, rfl, ifd (fun cj => ?_) (fun cj => ?_)⟩
        · have hj : isJmp I = true := by cases I <;> first | rfl | (simp only [wd] at cj; exact absurd cj (by decide))
          have e1 : oneI rs I a s vals = .go (nextOf s a I) s := by cases I <;> first | rfl | cases hj
          refine b_one (s_set (by tm_at "at") (e_callF dnx ?_))
          tm_at "go"
          refine ⟨_, _, .cons hi3 (.cons (.int _) (.cons h53 .nil)), ⟨I, a, s, rfl, hj, fun x t e => ?_, rfl⟩, fun w2 Hb sb hb => ?_⟩
          · subst e
            rw [A.sl32]
            exact ok.1
          · cases hb
            cases m with
            | zero => exact absurd (R.1.symm.trans (so.trans e1)) (R.2 _ _)
            | succ m =>
              obtain ⟨b1, b2, h, R⟩ := R
              rw [so, e1] at h
              cases h
              have z := step_ok C A
              rw [so, e1] at z
              exact ⟨m, Nat.lt_succ_self _, _, s, v5, some vi, w7, rfl, s13.trans sb, h53.mono (tp_same sb), z.2.2, R⟩
        · have hs : isSet I = true := by
            cases I <;> first | rfl | (simp only [wd] at cj; exact absurd (by decide) cj) | exact absurd rfl ce | cases ht
          have e1 : oneI rs I a s vals = match valOf s I with | none => .fault a s | some v => .go (a + 1) (s.set (slotOf I) v) := by cases I <;> first | rfl | cases hs
          refine b_cut (fun σ2 H4 => ∃ w, σ2 = [some vc, some vd, some vr, some vv, some (.int (a : Nat)), some v5, some vi, some w] ∧ Same H3 H4 ∧ Dt M.K H4 w (optD (valOf s I))) ?_ ?_
          · refine s_set (by tm_at "at") (e_callF dvl ?_)
            tm_at "go"
            refine ⟨_, _, .cons hi3 (.cons h53 .nil), ⟨I, s, rfl, hs, fun o r x y e => ?_, fun x hx => pow_up (A.small x hx) C.top, rfl⟩, fun w H4 s4 h4 => ?_⟩
            · subst e
              rw [A.sl32]
              exact ⟨ok.2.1, ok.2.2.1⟩
            · exact ⟨w, rfl, s4, h4⟩
          rintro _ H4 ⟨w, rfl, s4, hw⟩
          have s14 := s13.trans s4
          have h54 := h53.mono (tp_same s4)
          cases hval : valOf s I with
          | none =>
            rw [hval] at hw e1
            cases hw
            have e1 : oneI rs I a s vals = .fault a s := e1
            refine b_cons ?_
            tm_at "go"
            refine e_tupD (a_cons (e_tupD ?_))
            tm_at "go"
            refine tupend (ds := [.str "fault", .int (a : Nat), .none, .none]) (.cons (.str _) (.cons (.int _) (.cons .non (.cons .non .nil)))) (Nat.le_of_ble_eq_true rfl) fun w1 Ha sa ha => ?_
            refine a_cons (e_tupD ?_)
            tm_at "go"
            refine tupend (ds := [.none, stD s]) (.cons .non (.cons (h54.mono (tp_same sa)) .nil)) (Nat.le_of_ble_eq_true rfl) fun w2 Hb sb hb => ?_
            tm_at "go"
            have sab := s14.trans (sa.trans sb)
            refine tupend (ds := [.tuple [.str "fault", .int (a : Nat), .none, .none], .tuple [.none, stD s], stD vals]) (.cons (ha.mono (tp_same sb)) (.cons hb (.cons (hv.mono (tp_same sab)) .nil))) (Nat.le_of_ble_eq_true rfl) fun w3 Hc sc hc3 => ?_
            refine k _ _ (sab.trans sc) ?_
            cases m with
            | zero =>
              rw [← R.1, so, e1]
              exact hc3
            | succ m =>
              obtain ⟨b1, b2, h, _⟩ := R
              rw [so, e1] at h
              cases h
          | some x =>
            rw [hval] at hw e1
            cases hw
            have e1 : oneI rs I a s vals = .go (a + 1) (s.set (slotOf I) x) := e1
            have z := step_ok C A
            rw [so, e1] at z
            refine b_cut (fun σ2 H5 => σ2 = [some vc, some vd, some vr, some vv, some (.int (a : Nat)), some v5, some vi, some (.int x)] ∧ H4 = H5) ?_ ?_
            · tm_at "go"
              exact ⟨rfl, rfl⟩
            rintro _ _ ⟨rfl, rfl⟩
            have s32 : slotOf I < s.length := by
              rw [A.sl32]
              cases I with
              | cst r v => exact ok.1
              | op o r x y => exact ok.1
              | _ => cases hs
            refine b_cut (fun σ2 H5 => ∃ v6, σ2 = [some vc, some vd, some vr, some vv, some (.int (a : Nat)), some v6, some vi, some (.int x)] ∧ Same H4 H5 ∧ Dt M.K H5 v6 (stD (s.set (slotOf I) x))) ?_ ?_
            · refine s_set (by tm_at "at") (e_callF drp ?_)
              refine a_cons (e_var (by tm_at "at") (a_cons (e_callF dsl ?_)))
              tm_at "go"
              refine ⟨_, _, .cons (hi3.mono (tp_same s4)) .nil, ⟨I, rfl, hs, rfl⟩, fun w1 Ha sa ha => ?_⟩
              cases ha
              tm_at "go"
              refine ⟨_, _, .cons (h54.mono (tp_same sa)) (.cons (.int _) (.cons (.int _) .nil)), ⟨s, slotOf I, x, rfl, s32, by rw [A.sl32]; decide, rfl⟩, fun w2 Hb sb hb => ?_⟩
              exact ⟨w2, rfl, sa.trans sb, hb⟩
            rintro _ H5 ⟨v6, rfl, s5, h6⟩
            tm_at "go"
            cases m with
            | zero => exact absurd (R.1.symm.trans (so.trans e1)) (R.2 _ _)
            | succ m =>
              obtain ⟨b1, b2, h, R⟩ := R
              rw [so, e1] at h
              cases h
              exact ⟨m, Nat.lt_succ_self _, a + 1, _, v6, some vi, some (.int x), rfl, s14.trans s5, h6, z.2.2, R⟩
    · refine ⟨a, s, v5, w6, w7, rfl, s1, h5, ends ?_⟩
      unfold stepO
      rw [List.getElem?_eq_none (by omega)]
  rintro _ H1 ⟨a, s, v5, w6, w7, rfl, s1, h5, rfl⟩
  tm_at "go"
  refine e_tupD (a_cons (e_tupD ?_))
  tm_at "go"
  refine tupend (ds := [.str "end", .int (a : Nat), .none, .none]) (.cons (.str _) (.cons (.int _) (.cons .non (.cons .non .nil)))) (Nat.le_of_ble_eq_true rfl) fun w1 Ha sa ha => ?_
  refine a_cons (e_tupD ?_)
  tm_at "go"
  refine tupend (ds := [.none, stD s]) (.cons .non (.cons (h5.mono (tp_same sa)) .nil)) (Nat.le_of_ble_eq_true rfl) fun w2 Hb sb hb => ?_
  tm_at "go"
  have sab := s1.trans (sa.trans sb)
  refine tupend (ds := [.tuple [.str "end", .int (a : Nat), .none, .none], .tuple [.none, stD s], stD vals]) (.cons (ha.mono (tp_same sb)) (.cons hb (.cons (hv.mono (tp_same sab)) .nil))) (Nat.le_of_ble_eq_true rfl) fun w3 Hc sc hc3 => ?_
  exact k _ _ (sab.trans sc) hc3
end K

namespace G
open PySem PySem.Spec PyProof.Rows L2
/-! ### enumerate over a tuple -/
set_option maxHeartbeats 1000000 in
theorem enum_newT (tp : Addr) (items : Array Value) (n : Nat) (dct : Option Addr) (sl : Array (Option Value)) :
    Meets (Builtin.«enumerate.__new__» ⟨[.type "enumerate", .ref tp], []⟩) (fun _ R st => st.heap.get? tp = some ⟨.type "tuple", dct, .seq items n, sl⟩ ∧
      R (.ok (.ret (.ref (st.heap.push { cls := .type "tuple_iterator", data := .fields #[.ref tp, .int 0 0] }).objs.size)))
        { st with heap := (st.heap.push { cls := .type "tuple_iterator", data := .fields #[.ref tp, .int 0 0] }).push { cls := .type "enumerate", data := .fields #[.none, .bool false, .ref st.heap.objs.size, rawInt 0, .none, .none] } }) :=
  .of_wp fun prog w A R st h => by
    obtain ⟨hp, g, d, tk, os⟩ := st
    obtain ⟨here, h⟩ := h
    have hsub := sub_enumerate
    have tup : Heap.IsTuple (Shared.heap ⟨hp, g, d, tk, os⟩) tp items := ⟨_, here, rfl, n, rfl⟩
    wp_walk using wpAny_loadPart' here
    refine wpAny_stack_any fun st => wpAny_pure ?_
    split
    · rename_i c _ _ _ _ _
      cases (c == Value.type "enumerate")
      · wp_walk using wpAny_loadPart' here, wpAny_pyIter_tuple tup
        exact ⟨_, rfl, h⟩
      · wp_walk using wpAny_loadPart' here, wpAny_pyIter_tuple tup
        exact ⟨_, rfl, h⟩
    · wp_walk using wpAny_loadPart' here, wpAny_pyIter_tuple tup
      exact ⟨_, rfl, h⟩
section
variable {prog : Program} {w : World} {A : Around} {E : Value → Shared → Prop} {s : Shared}
theorem call_enumT {tp : Addr} {items : Array Value} {Q : Value → Shared → Prop} (ht : s.heap.IsTuple tp items)
    (go : ∀ h', IsEnum h' (s.heap.objs.size + 1) s.heap.objs.size 0 .none → h'.IsTupleIter s.heap.objs.size tp 0 →
      (∀ b o, s.heap.get? b = some o → h'.get? b = some o) → Q (.ref (s.heap.objs.size + 1)) { s with heap := h' }) :
    wpAny (model prog w) A (call (.type "enumerate") [.ref tp]) Q E s := by
  obtain ⟨⟨c, dct, dt, sl⟩, here, hc, n, hd⟩ := ht
  obtain rfl : c = .type "tuple" := hc
  obtain rfl : dt = .seq items n := hd
  refine callType_new F.called_enumerate (by decide) (F.typeCall_enumerate_1 _) (F.newCall_enumerate_1 _) (fun obj => F.args_object_init_2 obj _) F.entry_enumerate_new
    (enum_newT tp items n dct sl) ⟨here, ?_⟩
  have z1 : (s.heap.push { cls := .type "tuple_iterator", data := .fields #[.ref tp, .int 0 0] }).objs.size = s.heap.objs.size + 1 := Heap.size_push ..
  have en := Heap.get?_push_size (s.heap.push { cls := .type "tuple_iterator", data := .fields #[.ref tp, .int 0 0] })
    (o := { cls := .type "enumerate", data := .fields #[.none, .bool false, .ref s.heap.objs.size, rawInt 0, .none, .none] }) rfl
  show _ ∧ _
  rw [z1] at en ⊢
  exact ⟨⟨_, en, rfl⟩, go _ en ⟨_, Heap.get?_push_of_some _ (Heap.get?_push_size _ rfl), rfl, rfl⟩ fun b o x => Heap.get?_push_of_some _ (Heap.get?_push_of_some _ x)⟩
end
theorem tup_ne_iter {h : Heap} {b it : Addr} {i : Nat} {its : Array Value} (p : h.IsTuple b its) (q : h.IsTupleIter it b i) : b ≠ it := by
  rintro rfl
  obtain ⟨o1, e1, c1, _⟩ := p
  obtain ⟨o2, e2, c2, _⟩ := q
  rw [e1] at e2
  cases e2
  rw [c1] at c2
  exact absurd (Value.type.inj c2) (by decide)
/-- the items of the tuple at b, each in a new pair behind its place -/
def Itet (K : PySem.W.Frag) (b : Addr) (n : Nat) : It := ⟨fun i H => ∃ ys, SqT K H b ys ∧ ys.length = n ∧ i < n,
  fun i H v H' => ∃ (T : Addr) (y : V), v = .ref T ∧ H T = none ∧ H' = upd H T (.tup [.int (i : Nat), y]) ∧ ∀ ys, SqT K H b ys → ys[i]? = some y, fun i H => ∃ ys, SqT K H b ys ∧ ys.length = n ∧ n ≤ i⟩
section
variable {P : Program} {w : World} {K : PySem.W.Frag}
theorem turn_enumT {elts : List Expr} {kk : Nat} {tpos : Pos} (b en si : Addr) (n : Nat) (apart : en ≠ si) :
    Turn P w K (.Tuple elts kk tpos) (Itet K b n) [en, si] en (fun i h => (∃ old, IsEnum h en si ((i : Nat) : Int) old) ∧ h.IsTupleIter si b i ∧ i ≤ n) := by
  have both : ∀ {b : Addr}, b ∈ [en, si] → b = en ∨ b = si := fun {b} h => by simpa using h
  refine { mem := by simp, obj := ?_, keep := ?_, item := ?_, done := ?_, self := ?_ }
  · rintro i h ⟨⟨old, he⟩, ⟨o, ho, _, hd⟩, _⟩ b hb
    rcases both hb with rfl | rfl
    · exact ⟨_, he, fun v q => nomatch q⟩
    · exact ⟨o, ho, fun v q => by rw [hd] at q; exact nomatch q⟩
  · rintro i h h' ⟨⟨old, he⟩, hs, le⟩ kept
    exact ⟨⟨old, kept en (by simp) _ he⟩, hs.at fun o q => kept si (by simp) o q, le⟩
  · rintro X rfl rfl rfl calm i pins st σ H E I far ⟨⟨old, he⟩, hs, _⟩ ⟨ys, hq, hn, lt⟩
    obtain ⟨its, rv, pt, _⟩ := I.tuple hq
    obtain ⟨y, hy⟩ : ∃ y, ys[i]? = some y := ⟨_, List.getElem?_eq_getElem (by omega)⟩
    obtain ⟨u, hu, ru⟩ := rv.get hy
    have ne := tup_ne_iter pt hs
    have D := Draws.tuple (prog := X.prog) (w := X.w) (A := X.A.in1) (I.ok.hd calm) si b ne its.toArray
    have len := rv.length
    have lt1 := Heap.lt_size he
    have lt2 : si < st.heap.objs.size := by obtain ⟨_, q, _⟩ := hs; exact Heap.lt_size q
    have ptT : st.heap.IsTuple b its.toArray := pt
    have ben : b ≠ en := by
      rintro rfl
      obtain ⟨o1, e1, c1, _⟩ := pt
      rw [he] at e1
      cases e1
      exact absurd (Value.type.inj c1) (by decide)
    refine wpAny_pyNext_enum_itemD D he ⟨hs, ptT⟩ (by rw [List.size_toArray]; omega) apart (by simp [apart, ben.symm]) fun x h1 tk item out hs1 pair _ stay => ?_
    have ex : x = u := by
      have : its.toArray[i]? = some u := by simpa using hu
      rw [this] at item
      exact (Option.some.inj item).symm
    subst ex
    refine ⟨_, rfl, wpAny_letOwnedTupleGo_enum (s := { st with heap := h1, toks := tk + 1 }) out fun h2 he2 but => ?_⟩
    have pair2 : h2.get? st.heap.objs.size = some { cls := .type "tuple", data := .seq #[.int i tk, x] } := (but.2 _ (Nat.ne_of_gt lt1)).trans pair
    have made : ObjOk X.prog X.w (upd H st.heap.objs.size (.tup [.int (i : Nat), y])) h2 st.heap.objs.size (.tup [.int (i : Nat), y]) :=
      ⟨by show 2 ≤ sizeLine; decide, _, .cons ⟨_, rfl⟩ (.cons ru .nil), ⟨_, pair2, rfl, _, rfl⟩⟩
    have J : Inv X pins σ (upd H st.heap.objs.size (.tup [.int (i : Nat), y])) { st with heap := h2, toks := tk + 1 } := by
      refine I.turnedNew (ch := [en, si]) (fun b o nb q => ?_) far (Nat.le_refl _) made
      have n1 : b ≠ en := fun e => nb (by simp [e])
      have n2 : b ≠ si := fun e => nb (by simp [e])
      exact (but.2 b n1).trans (stay b o n1 (by simp [n2]) q)
    refine ⟨.ref st.heap.objs.size, _, J, rfl, ⟨_, y, rfl, I.hok.fresh (Nat.le_refl _), rfl, fun zs hz => by rw [I.tuple_inj hz hq]; exact hy⟩, ⟨⟨x, ?_⟩, hs1.1.at fun o q => (but.2 si apart.symm).trans q, by omega⟩, fun b hb => ?_⟩
    · have e1 : ((i + 1 : Nat) : Int) = (i : Int) + 1 := by omega
      rw [e1]
      exact he2
    · have lb : b < st.heap.objs.size := by
        rcases both hb with rfl | rfl
        · exact lt1
        · exact lt2
      rw [upd_ne (Nat.ne_of_lt lb)]
      exact (far b hb).1
  · rintro X rfl rfl rfl calm i pins st σ H E I far ⟨⟨old, he⟩, hs, le⟩ ⟨ys, hq, hn, ge⟩
    obtain ⟨its, rv, pt, _⟩ := I.tuple hq
    have ne := tup_ne_iter pt hs
    have D := Draws.tuple (prog := X.prog) (w := X.w) (A := X.A.in1) (I.ok.hd calm) si b ne its.toArray
    have len := rv.length
    obtain ⟨f0, f1, _, f3, f4, f5⟩ := far si (by simp)
    have ei : i = its.toArray.size := by rw [List.size_toArray]; omega
    subst ei
    exact wpAny_pyNext_enum_endD D he ⟨hs, pt⟩ fun h' but => ⟨rfl, I.turned (t' := st.toks) (fun b o nb q => but b o nb q) f0 f1 f3 f4 f5⟩
  · rintro A i st Q E ⟨⟨_, he⟩, _, _⟩ q
    exact wpAny_pyIter_enum he q
theorem pi_enumT {X : Cx} {e : Expr} {ta : TA} {p pos tpos : Pos} {elts : List Expr} {kk : Nat} (gl : Gl X "enumerate") (none_ : X.mg "enumerate" = none) (ha : PA X [e] ta) (hs : starEach [e] X.env = [(false, eval e X.env)]) :
    PI X (.Tuple elts kk tpos) (.Call (.Name "enumerate" p) [e] [] pos) (fun σ H R => ta σ H fun vs H1 => ∃ b ys, vs = [.ref b] ∧ SqT X.K H1 b ys ∧ R (Itet X.K b ys.length) H1) := by
  constructor
  intro pins st σ H R I want
  have args := ha.run pos pins st σ H _ I want
  refine Call_ (ld_blt I gl none_ boot_enumerate ?_)
  refine PyProof.Rows.callWith_type1 (thn args fun us s1 got => ?_) hs rfl
  obtain ⟨vs, H1, I1, rv, b, ys, rfl, hq, q⟩ := got
  match us, rv with
  | [_], .cons rfl .nil =>
    obtain ⟨its, rv2, pt, _⟩ := I1.tuple hq
    refine call_enumT (show s1.heap.IsTuple b its.toArray from pt) fun h' he hsi keep => wpAny_pyIter_enum he ?_
    have I2 : Inv X pins σ H1 { s1 with heap := h' } := I1.kept (t' := s1.toks) keep
    have T := turn_enumT (P := X.prog) (w := X.w) (K := X.K) (elts := elts) (kk := kk) (tpos := tpos) b (s1.heap.objs.size + 1) s1.heap.objs.size ys.length (Nat.succ_ne_self _)
    refine ⟨_, _, _, _, H1, rfl, I2, T, ⟨⟨.none, he⟩, hsi, Nat.zero_le _⟩, fun b hb => ?_, q⟩
    have old : s1.heap.objs.size ≤ b := by
      rcases (by simpa using hb : b = s1.heap.objs.size + 1 ∨ b = s1.heap.objs.size) with rfl | rfl
      · exact Nat.le_succ _
      · exact Nat.le_refl _
    exact I1.fpOk old (I1.hok.fresh old)
end
/-! ### zip of a list and a tuple -/
/-- the items of the list at a beside those of the tuple at b, in new pairs -/
def Itlt (K : PySem.W.Frag) (a b : Addr) (n : Nat) : It :=
  ⟨fun i H => ∃ xs ys, SqL K H a xs ∧ xs.length = n ∧ SqT K H b ys ∧ ys.length = n ∧ i < n,
    fun i H v H' => ∃ (T : Addr) (x y : V), v = .ref T ∧ H T = none ∧ H' = upd H T (.tup [x, y]) ∧ (∀ xs, SqL K H a xs → xs[i]? = some x) ∧ ∀ ys, SqT K H b ys → ys[i]? = some y,
    fun i H => ∃ xs ys, SqL K H a xs ∧ xs.length = n ∧ SqT K H b ys ∧ ys.length = n ∧ n ≤ i⟩
set_option maxHeartbeats 400000 in
theorem turn_zipLT {P : Program} {w : World} {K : PySem.W.Frag} {elts : List Expr} {kk : Nat} {tpos : Pos} (a b z TI TO i1 i2 : Addr) (n : Nat) (S : ZipSep2 z TI TO i1 i2 [i1, a] [i2, b]) (ha1 : a ≠ i1) :
    Turn P w K (.Tuple elts kk tpos) (Itlt K a b n) [z, TI, TO, i1, i2] z (fun i h => (IsZip h z TI TO .none ∧ IsPair h TI (.ref i1) (.ref i2) ∧ (∃ x y, IsPair h TO x y) ∧ h.IsListIter i1 a i ∧ h.IsTupleIter i2 b i) ∧ i ≤ n) where
  mem := by simp
  obj := fun i h st c hc => by
    obtain ⟨⟨hz, hTI, ⟨x, y, hTO⟩, ⟨o1, e1, _, d1⟩, ⟨o2, e2, _, d2⟩⟩, _⟩ := st
    have e' : c = z ∨ c = TI ∨ c = TO ∨ c = i1 ∨ c = i2 := by simpa using hc
    rcases e' with q | q | q | q | q
    · rw [q]; exact ⟨_, hz, fun v q => nomatch q⟩
    · rw [q]; exact ⟨_, hTI, fun v q => nomatch q⟩
    · rw [q]; exact ⟨_, hTO, fun v q => nomatch q⟩
    · rw [q]; exact ⟨o1, e1, fun v q => by rw [d1] at q; cases q⟩
    · rw [q]; exact ⟨o2, e2, fun v q => by rw [d2] at q; cases q⟩
  keep := fun i h h' st k => by
    obtain ⟨⟨hz, hTI, ⟨x, y, hTO⟩, h1, h2⟩, le⟩ := st
    exact ⟨⟨k z (by simp) _ hz, k TI (by simp) _ hTI, ⟨x, y, k TO (by simp) _ hTO⟩, h1.at fun o q => k i1 (by simp) o q, h2.at fun o q => k i2 (by simp) o q⟩, le⟩
  item := by
    intro X hP hw hK hc i pins s σ H E I hf st hg
    subst hP hw hK
    obtain ⟨⟨hz, hTI, ⟨x0, y0, hTO⟩, h1, h2⟩, le1⟩ := st
    obtain ⟨xs, ys, hqx, hm, hqy, hn, lt1⟩ := hg
    obtain ⟨its1, rv1, p1, _⟩ := I.list hqx
    obtain ⟨its2, rv2, p2, _⟩ := I.tuple hqy
    have l1 := rv1.length
    have l2 := rv2.length
    obtain ⟨x, hx⟩ : ∃ x, xs[i]? = some x := ⟨_, List.getElem?_eq_getElem (by omega)⟩
    obtain ⟨u1, hu1, ru1⟩ := rv1.get hx
    obtain ⟨y, hy⟩ : ∃ y, ys[i]? = some y := ⟨_, List.getElem?_eq_getElem (by omega)⟩
    obtain ⟨u2, hu2, ru2⟩ := rv2.get hy
    have hzl : z < s.heap.objs.size := Heap.lt_size hz
    have D1 := Draws.list (prog := X.prog) (w := X.w) (A := X.A.in1) (I.ok.hd hc) i1 a ha1 its1.toArray
    have D2 := Draws.tuple (prog := X.prog) (w := X.w) (A := X.A.in1) (I.ok.hd hc) i2 b (tup_ne_iter p2 h2) its2.toArray
    refine wpAny_pyNext_zipD2_item S D1 D2 hz hTI hTO ⟨h1, p1.isList⟩ ⟨h2, p2⟩ (by rw [List.size_toArray]; omega) (by rw [List.size_toArray]; omega) fun x1 x2 h' tk it1 it2 z' TO' h1' h2' hT hsz hk => ?_
    have ex1 : x1 = u1 := by
      have : its1.toArray[i]? = some u1 := by simpa using hu1
      rw [this] at it1
      exact (Option.some.inj it1).symm
    have ex2 : x2 = u2 := by
      have : its2.toArray[i]? = some u2 := by simpa using hu2
      rw [this] at it2
      exact (Option.some.inj it2).symm
    subst ex1
    subst ex2
    refine ⟨_, rfl, wpAny_letOwnedTupleGo_zip (s := { s with heap := h', toks := tk }) z' fun h'' z'' sb => ?_⟩
    have hT2 : h''.get? s.heap.objs.size = some { cls := .type "tuple", data := .seq #[x1, x2] } := (sb.2 _ (Nat.ne_of_gt hzl)).trans hT
    have new : ObjOk X.prog X.w (upd H s.heap.objs.size (.tup [x, y])) h'' s.heap.objs.size (.tup [x, y]) :=
      ⟨by show 2 ≤ sizeLine; decide, [x1, x2], .cons ru1 (.cons ru2 .nil), ⟨_, hT2, rfl, _, rfl⟩⟩
    have I1 : Inv X pins σ (upd H s.heap.objs.size (.tup [x, y])) { s with heap := h'', toks := tk } :=
      I.turnedNew (ch := [z, TI, TO, i1, i2]) (fun c o hb q => (sb.2 c (fun q' => hb (by simp [q']))).trans (hk c o (fun q' => hb (by simp [q'])) (fun q' => hb (by simp [q'])) (fun q' => hb (by simp [q'])) (fun q' => hb (by simp [q'])) q)) hf (Nat.le_refl _) new
    have zi1 : i1 ≠ z := fun e => S.zf1 (by simp [e])
    have zi2 : i2 ≠ z := fun e => S.zf2 (by simp [e])
    refine ⟨.ref s.heap.objs.size, _, I1, rfl, ⟨_, x, y, rfl, I.hok.fresh (Nat.le_refl _), rfl, fun l hl => by rw [I.list_inj hl hqx]; exact hx, fun l hl => by rw [I.tuple_inj hl hqy]; exact hy⟩, ⟨⟨z'', ?_, ⟨x1, x2, ?_⟩, ?_, ?_⟩, by omega⟩, fun c hcm => ?_⟩
    · exact (sb.2 _ S.TIz).trans (hk _ _ S.TIz S.TITO S.TIi1 S.TIi2 hTI)
    · exact (sb.2 _ S.TOz).trans TO'
    · exact h1'.1.at fun o q => (sb.2 _ zi1).trans q
    · exact h2'.1.at fun o q => (sb.2 _ zi2).trans q
    · have hlt : c < s.heap.objs.size := by
        have e' : c = z ∨ c = TI ∨ c = TO ∨ c = i1 ∨ c = i2 := by simpa using hcm
        rcases e' with q | q | q | q | q
        · rw [q]; exact hzl
        · rw [q]; exact Heap.lt_size hTI
        · rw [q]; exact Heap.lt_size hTO
        · rw [q]; obtain ⟨_, e1, _⟩ := h1; exact Heap.lt_size e1
        · rw [q]; obtain ⟨_, e2, _⟩ := h2; exact Heap.lt_size e2
      rw [upd_ne (Nat.ne_of_lt hlt)]
      exact (hf c hcm).1
  done := by
    intro X hP hw hK hc i pins s σ H E I hf st hg
    subst hP hw hK
    obtain ⟨⟨hz, hTI, ⟨x0, y0, hTO⟩, h1, h2⟩, le1⟩ := st
    obtain ⟨xs, ys, hqx, hm, hqy, hn, ge⟩ := hg
    obtain ⟨its1, rv1, p1, _⟩ := I.list hqx
    obtain ⟨its2, rv2, p2, _⟩ := I.tuple hqy
    have l1 := rv1.length
    have l2 := rv2.length
    have D1 := Draws.list (prog := X.prog) (w := X.w) (A := X.A.in1) (I.ok.hd hc) i1 a ha1 its1.toArray
    have D2 := Draws.tuple (prog := X.prog) (w := X.w) (A := X.A.in1) (I.ok.hd hc) i2 b (tup_ne_iter p2 h2) its2.toArray
    have sz1 : its1.toArray.size = xs.length := by rw [List.size_toArray]; exact l1.symm
    have sz2 : its2.toArray.size = ys.length := by rw [List.size_toArray]; exact l2.symm
    exact wpAny_pyNext_zipD2_end S D1 D2 hz hTI hTO ⟨h1, p1.isList⟩ ⟨h2, p2⟩ (by rw [sz1]; omega) (by rw [sz2]; omega) (by rw [sz1, sz2]; omega) fun h' tk hk => ⟨rfl, I.turnedL (t' := tk) (ch := [z, TI, TO, i1, i2]) (fun c o hb q =>
      hk c o (fun q' => hb (by simp [q'])) (fun q' => hb (by simp [q'])) (fun q' => hb (by simp [q'])) (fun q' => hb (by simp [q'])) q) hf⟩
  self := fun A i s Q E st h => wpAny_pyIter_zip st.1.1 h
theorem neA {a b : Nat} (h : ¬ a = b) : @Ne Addr a b := h
theorem nmem2 {a b c : Addr} (h : a ≠ b) (h2 : a ≠ c) : a ∉ [b, c] := fun z => by
  rcases List.mem_cons.mp z with z | z
  · exact h z
  · exact h2 (List.mem_singleton.mp z)
theorem zs_le {n c : Addr} (h : c ∈ [n + 4, n + 2, n + 3, n, n + 1]) : n ≤ c := by
  have e' : c = n + 4 ∨ c = n + 2 ∨ c = n + 3 ∨ c = n ∨ c = n + 1 := by simpa using h
  rcases e' with z | z | z | z | z
  · rw [z]; exact Nat.le_add_right _ _
  · rw [z]; exact Nat.le_add_right _ _
  · rw [z]; exact Nat.le_add_right _ _
  · rw [z]; exact Nat.le_refl _
  · rw [z]; exact Nat.le_add_right _ _
theorem zsepLT {n a b : Nat} (ha : a < n) (h : b < n) : ZipSep2 (n + 4) (n + 2) (n + 3) n (n + 1) [n, a] [n + 1, b] :=
  ⟨neA (a := n + 2) (b := n + 4) (by omega), neA (a := n + 3) (b := n + 4) (by omega), neA (a := n + 2) (b := n + 3) (by omega), neA (a := n + 2) (b := n) (by omega), List.mem_cons_self ..,
    nmem2 (neA (a := n + 4) (b := n) (by omega)) (neA (a := n + 4) (b := a) (by omega)), nmem2 (neA (a := n + 3) (b := n) (by omega)) (neA (a := n + 3) (b := a) (by omega)), neA (a := n + 2) (b := n + 1) (by omega), List.mem_cons_self ..,
    nmem2 (neA (a := n + 4) (b := n + 1) (by omega)) (neA (a := n + 4) (b := b) (by omega)), nmem2 (neA (a := n + 3) (b := n + 1) (by omega)) (neA (a := n + 3) (b := b) (by omega)),
    nmem2 (neA (a := n) (b := n + 1) (by omega)) (neA (a := n) (b := b) (by omega)), nmem2 (neA (a := n + 1) (b := n) (by omega)) (neA (a := n + 1) (b := a) (by omega))⟩
set_option maxHeartbeats 400000 in
theorem pi_zipLT {X : Cx} {e e2 : Expr} {ta : TA} {p pos tpos : Pos} {elts : List Expr} {kk : Nat} (hg : Gl X "zip") (hm : X.mg "zip" = none) (ha : PA X [e, e2] ta)
    (hs : starEach [e, e2] X.env = (false, eval e X.env) :: starEach [e2] X.env := by rfl) (hpl : (backTo pos (starEach [e2] X.env)).any (·.1) = false := by rfl) :
    PI X (.Tuple elts kk tpos) (.Call (.Name "zip" p) [e, e2] [] pos) (fun σ H R => ta σ H fun vs H1 => ∃ a b xs ys, vs = [.ref a, .ref b] ∧ SqL X.K H1 a xs ∧ SqT X.K H1 b ys ∧ xs.length = ys.length ∧ R (Itlt X.K a b ys.length) H1) := by
  refine ⟨fun pins s σ H R I h => ?_⟩
  refine Call_ (ld_blt I hg hm PyProof.Rows.boot_zip (PyProof.Rows.callWith_type1 (thn (ha.run pos pins s σ H _ I h) fun us s1 ⟨vs, H1, I1, r1, q1⟩ => ?_) hs hpl))
  obtain ⟨a, b, xs, ys, ex, hx, hy, hl, q1⟩ := q1
  subst ex
  cases r1 with
  | cons r rr =>
    cases rr with
    | cons r' rr =>
      cases rr
      cases r
      cases r'
      obtain ⟨its1, rv1, p1, _⟩ := I1.list hx
      obtain ⟨its2, rv2, p2, _⟩ := I1.tuple hy
      obtain ⟨o1, ho1, _⟩ := id p1.isList
      obtain ⟨o2, ho2, _⟩ := id p2
      have la : a < s1.heap.objs.size := Heap.lt_size ho1
      have lb : b < s1.heap.objs.size := Heap.lt_size ho2
      refine zip_begins2 (begins_list a its1.toArray) (begins_tuple b its2.toArray) p1.isList p2 fun h' hz hTI hTO h1 h2 hsz keep => wpAny_pyIter_zip hz ?_
      have I2 : Inv X pins σ H1 { s1 with heap := h' } := I1.kept (t' := s1.toks) keep
      exact ⟨s1.heap.objs.size + 4, [s1.heap.objs.size + 4, s1.heap.objs.size + 2, s1.heap.objs.size + 3, s1.heap.objs.size, s1.heap.objs.size + 1], _, _, H1, rfl, I2, turn_zipLT a b _ _ _ _ _ ys.length (zsepLT la lb) (Nat.ne_of_lt la), ⟨⟨hz, hTI, ⟨_, _, hTO⟩, ⟨_, h1, rfl, rfl⟩, ⟨_, h2, rfl, rfl⟩⟩, Nat.zero_le _⟩, fun c hcm => I1.fpOk (zs_le hcm) (I1.hok.fresh (zs_le hcm)), q1⟩
end G

namespace G
open PySem PySem.Spec PyProof.Rows L2
/-- the items of the tuple at a beside those of the list at b, in new pairs -/
def Ittl (K : PySem.W.Frag) (a b : Addr) (n : Nat) : It :=
  ⟨fun i H => ∃ xs ys, SqT K H a xs ∧ xs.length = n ∧ SqL K H b ys ∧ ys.length = n ∧ i < n,
    fun i H v H' => ∃ (T : Addr) (x y : V), v = .ref T ∧ H T = none ∧ H' = upd H T (.tup [x, y]) ∧ (∀ xs, SqT K H a xs → xs[i]? = some x) ∧ ∀ ys, SqL K H b ys → ys[i]? = some y,
    fun i H => ∃ xs ys, SqT K H a xs ∧ xs.length = n ∧ SqL K H b ys ∧ ys.length = n ∧ n ≤ i⟩
set_option maxHeartbeats 400000 in
theorem turn_zipTL {P : Program} {w : World} {K : PySem.W.Frag} {elts : List Expr} {kk : Nat} {tpos : Pos} (a b z TI TO i1 i2 : Addr) (n : Nat) (S : ZipSep2 z TI TO i1 i2 [i1, a] [i2, b]) (hb1 : b ≠ i2) :
    Turn P w K (.Tuple elts kk tpos) (Ittl K a b n) [z, TI, TO, i1, i2] z (fun i h => (IsZip h z TI TO .none ∧ IsPair h TI (.ref i1) (.ref i2) ∧ (∃ x y, IsPair h TO x y) ∧ h.IsTupleIter i1 a i ∧ h.IsListIter i2 b i) ∧ i ≤ n) where
  mem := by simp
  obj := fun i h st c hc => by
    obtain ⟨⟨hz, hTI, ⟨x, y, hTO⟩, ⟨o1, e1, _, d1⟩, ⟨o2, e2, _, d2⟩⟩, _⟩ := st
    have e' : c = z ∨ c = TI ∨ c = TO ∨ c = i1 ∨ c = i2 := by simpa using hc
    rcases e' with q | q | q | q | q
    · rw [q]; exact ⟨_, hz, fun v q => nomatch q⟩
    · rw [q]; exact ⟨_, hTI, fun v q => nomatch q⟩
    · rw [q]; exact ⟨_, hTO, fun v q => nomatch q⟩
    · rw [q]; exact ⟨o1, e1, fun v q => by rw [d1] at q; cases q⟩
    · rw [q]; exact ⟨o2, e2, fun v q => by rw [d2] at q; cases q⟩
  keep := fun i h h' st k => by
    obtain ⟨⟨hz, hTI, ⟨x, y, hTO⟩, h1, h2⟩, le⟩ := st
    exact ⟨⟨k z (by simp) _ hz, k TI (by simp) _ hTI, ⟨x, y, k TO (by simp) _ hTO⟩, h1.at fun o q => k i1 (by simp) o q, h2.at fun o q => k i2 (by simp) o q⟩, le⟩
  item := by
    intro X hP hw hK hc i pins s σ H E I hf st hg
    subst hP hw hK
    obtain ⟨⟨hz, hTI, ⟨x0, y0, hTO⟩, h1, h2⟩, le1⟩ := st
    obtain ⟨xs, ys, hqx, hm, hqy, hn, lt1⟩ := hg
    obtain ⟨its1, rv1, p1, _⟩ := I.tuple hqx
    obtain ⟨its2, rv2, p2, _⟩ := I.list hqy
    have l1 := rv1.length
    have l2 := rv2.length
    obtain ⟨x, hx⟩ : ∃ x, xs[i]? = some x := ⟨_, List.getElem?_eq_getElem (by omega)⟩
    obtain ⟨u1, hu1, ru1⟩ := rv1.get hx
    obtain ⟨y, hy⟩ : ∃ y, ys[i]? = some y := ⟨_, List.getElem?_eq_getElem (by omega)⟩
    obtain ⟨u2, hu2, ru2⟩ := rv2.get hy
    have hzl : z < s.heap.objs.size := Heap.lt_size hz
    have D1 := Draws.tuple (prog := X.prog) (w := X.w) (A := X.A.in1) (I.ok.hd hc) i1 a (tup_ne_iter p1 h1) its1.toArray
    have D2 := Draws.list (prog := X.prog) (w := X.w) (A := X.A.in1) (I.ok.hd hc) i2 b hb1 its2.toArray
    refine wpAny_pyNext_zipD2_item S D1 D2 hz hTI hTO ⟨h1, p1⟩ ⟨h2, p2.isList⟩ (by rw [List.size_toArray]; omega) (by rw [List.size_toArray]; omega) fun x1 x2 h' tk it1 it2 z' TO' h1' h2' hT hsz hk => ?_
    have ex1 : x1 = u1 := by
      have : its1.toArray[i]? = some u1 := by simpa using hu1
      rw [this] at it1
      exact (Option.some.inj it1).symm
    have ex2 : x2 = u2 := by
      have : its2.toArray[i]? = some u2 := by simpa using hu2
      rw [this] at it2
      exact (Option.some.inj it2).symm
    subst ex1
    subst ex2
    refine ⟨_, rfl, wpAny_letOwnedTupleGo_zip (s := { s with heap := h', toks := tk }) z' fun h'' z'' sb => ?_⟩
    have hT2 : h''.get? s.heap.objs.size = some { cls := .type "tuple", data := .seq #[x1, x2] } := (sb.2 _ (Nat.ne_of_gt hzl)).trans hT
    have new : ObjOk X.prog X.w (upd H s.heap.objs.size (.tup [x, y])) h'' s.heap.objs.size (.tup [x, y]) :=
      ⟨by show 2 ≤ sizeLine; decide, [x1, x2], .cons ru1 (.cons ru2 .nil), ⟨_, hT2, rfl, _, rfl⟩⟩
    have I1 : Inv X pins σ (upd H s.heap.objs.size (.tup [x, y])) { s with heap := h'', toks := tk } :=
      I.turnedNew (ch := [z, TI, TO, i1, i2]) (fun c o hb q => (sb.2 c (fun q' => hb (by simp [q']))).trans (hk c o (fun q' => hb (by simp [q'])) (fun q' => hb (by simp [q'])) (fun q' => hb (by simp [q'])) (fun q' => hb (by simp [q'])) q)) hf (Nat.le_refl _) new
    have zi1 : i1 ≠ z := fun e => S.zf1 (by simp [e])
    have zi2 : i2 ≠ z := fun e => S.zf2 (by simp [e])
    refine ⟨.ref s.heap.objs.size, _, I1, rfl, ⟨_, x, y, rfl, I.hok.fresh (Nat.le_refl _), rfl, fun l hl => by rw [I.tuple_inj hl hqx]; exact hx, fun l hl => by rw [I.list_inj hl hqy]; exact hy⟩, ⟨⟨z'', ?_, ⟨x1, x2, ?_⟩, ?_, ?_⟩, by omega⟩, fun c hcm => ?_⟩
    · exact (sb.2 _ S.TIz).trans (hk _ _ S.TIz S.TITO S.TIi1 S.TIi2 hTI)
    · exact (sb.2 _ S.TOz).trans TO'
    · exact h1'.1.at fun o q => (sb.2 _ zi1).trans q
    · exact h2'.1.at fun o q => (sb.2 _ zi2).trans q
    · have hlt : c < s.heap.objs.size := by
        have e' : c = z ∨ c = TI ∨ c = TO ∨ c = i1 ∨ c = i2 := by simpa using hcm
        rcases e' with q | q | q | q | q
        · rw [q]; exact hzl
        · rw [q]; exact Heap.lt_size hTI
        · rw [q]; exact Heap.lt_size hTO
        · rw [q]; obtain ⟨_, e1, _⟩ := h1; exact Heap.lt_size e1
        · rw [q]; obtain ⟨_, e2, _⟩ := h2; exact Heap.lt_size e2
      rw [upd_ne (Nat.ne_of_lt hlt)]
      exact (hf c hcm).1
  done := by
    intro X hP hw hK hc i pins s σ H E I hf st hg
    subst hP hw hK
    obtain ⟨⟨hz, hTI, ⟨x0, y0, hTO⟩, h1, h2⟩, le1⟩ := st
    obtain ⟨xs, ys, hqx, hm, hqy, hn, ge⟩ := hg
    obtain ⟨its1, rv1, p1, _⟩ := I.tuple hqx
    obtain ⟨its2, rv2, p2, _⟩ := I.list hqy
    have l1 := rv1.length
    have l2 := rv2.length
    have D1 := Draws.tuple (prog := X.prog) (w := X.w) (A := X.A.in1) (I.ok.hd hc) i1 a (tup_ne_iter p1 h1) its1.toArray
    have D2 := Draws.list (prog := X.prog) (w := X.w) (A := X.A.in1) (I.ok.hd hc) i2 b hb1 its2.toArray
    have sz1 : its1.toArray.size = xs.length := by rw [List.size_toArray]; exact l1.symm
    have sz2 : its2.toArray.size = ys.length := by rw [List.size_toArray]; exact l2.symm
    exact wpAny_pyNext_zipD2_end S D1 D2 hz hTI hTO ⟨h1, p1⟩ ⟨h2, p2.isList⟩ (by rw [sz1]; omega) (by rw [sz2]; omega) (by rw [sz1, sz2]; omega) fun h' tk hk => ⟨rfl, I.turnedL (t' := tk) (ch := [z, TI, TO, i1, i2]) (fun c o hb q =>
      hk c o (fun q' => hb (by simp [q'])) (fun q' => hb (by simp [q'])) (fun q' => hb (by simp [q'])) (fun q' => hb (by simp [q'])) q) hf⟩
  self := fun A i s Q E st h => wpAny_pyIter_zip st.1.1 h
set_option maxHeartbeats 400000 in
theorem pi_zipTL {X : Cx} {e e2 : Expr} {ta : TA} {p pos tpos : Pos} {elts : List Expr} {kk : Nat} (hg : Gl X "zip") (hm : X.mg "zip" = none) (ha : PA X [e, e2] ta)
    (hs : starEach [e, e2] X.env = (false, eval e X.env) :: starEach [e2] X.env := by rfl) (hpl : (backTo pos (starEach [e2] X.env)).any (·.1) = false := by rfl) :
    PI X (.Tuple elts kk tpos) (.Call (.Name "zip" p) [e, e2] [] pos) (fun σ H R => ta σ H fun vs H1 => ∃ a b xs ys, vs = [.ref a, .ref b] ∧ SqT X.K H1 a xs ∧ SqL X.K H1 b ys ∧ xs.length = ys.length ∧ R (Ittl X.K a b ys.length) H1) := by
  refine ⟨fun pins s σ H R I h => ?_⟩
  refine Call_ (ld_blt I hg hm PyProof.Rows.boot_zip (PyProof.Rows.callWith_type1 (thn (ha.run pos pins s σ H _ I h) fun us s1 ⟨vs, H1, I1, r1, q1⟩ => ?_) hs hpl))
  obtain ⟨a, b, xs, ys, ex, hx, hy, hl, q1⟩ := q1
  subst ex
  cases r1 with
  | cons r rr =>
    cases rr with
    | cons r' rr =>
      cases rr
      cases r
      cases r'
      obtain ⟨its1, rv1, p1, _⟩ := I1.tuple hx
      obtain ⟨its2, rv2, p2, _⟩ := I1.list hy
      obtain ⟨o1, ho1, _⟩ := id p1
      obtain ⟨o2, ho2, _⟩ := id p2.isList
      have la : a < s1.heap.objs.size := Heap.lt_size ho1
      have lb : b < s1.heap.objs.size := Heap.lt_size ho2
      refine zip_begins2 (begins_tuple a its1.toArray) (begins_list b its2.toArray) p1 p2.isList fun h' hz hTI hTO h1 h2 hsz keep => wpAny_pyIter_zip hz ?_
      have I2 : Inv X pins σ H1 { s1 with heap := h' } := I1.kept (t' := s1.toks) keep
      exact ⟨s1.heap.objs.size + 4, [s1.heap.objs.size + 4, s1.heap.objs.size + 2, s1.heap.objs.size + 3, s1.heap.objs.size, s1.heap.objs.size + 1], _, _, H1, rfl, I2, turn_zipTL a b _ _ _ _ _ ys.length (zsepLT la lb) (Nat.ne_of_lt (Nat.lt_succ_of_lt lb)), ⟨⟨hz, hTI, ⟨_, _, hTO⟩, ⟨_, h1, rfl, rfl⟩, ⟨_, h2, rfl, rfl⟩⟩, Nat.zero_le _⟩, fun c hcm => I1.fpOk (zs_le hcm) (I1.hok.fresh (zs_le hcm)), q1⟩
end G

namespace G
open PySem PySem.Spec PyProof.Rows L2
section
variable {c : Cd} {σ : L2.St} {H : Hp} {nx : L2.St → Hp → Prop} {rt : VK} {bk ct : L2.St → Hp → Prop} {pos : Pos}
/-- for a, b in zip(t, l) -/
theorem s_forZtl {e e2 : Expr} {p ppos tpos : Pos} {elts : List Expr} {kk : Nat} {body : List Stmt} (hm : c.mg "zip" = none) (q : RA c [e, e2] σ H fun us H1 => ∃ a b xs ys ds es, us = [.ref a, .ref b] ∧ SqT c.K H1 a xs ∧ SqL c.K H1 b ys ∧ DtAll c.K H1 xs ds ∧ DtAll c.K H1 ys es ∧ ds.length = es.length ∧
      ∃ Pv : Nat → L2.St → Hp → Prop, Pv 0 σ H1 ∧ (∀ i σ' H', Pv i σ' H' → Same H1 H') ∧
      (∀ i d d' v σ' H' H2, ds[i]? = some d → es[i]? = some d' → Pv i σ' H' → Same H' H2 → Dt c.K H2 v (.tuple [d, d']) → RG c (.Tuple elts kk tpos) v σ' H2 fun σ2 H3 => RB c body ⟨Pv (i + 1), rt, nx, Pv (i + 1)⟩ σ2 H3) ∧ ∀ σ' H', Pv ds.length σ' H' → nx σ' H')
    (hg : c.sc.names.lookup ("zip" : Str) = some .globalImplicit := by rfl) (hs : ∀ env, starEach [e, e2] env = (false, eval e env) :: starEach [e2] env := by intro _; rfl) (hpl : ∀ env, (backTo ppos (starEach [e2] env)).any (·.1) = false := by intro _; rfl)
    (hf : ∀ env x, foldedSetIterable (.Call (.Name "zip" p) [e, e2] [] ppos) env x = pure x := by intro _ _; rfl) :
    RS c (.For (.Tuple elts kk tpos) (.Call (.Name "zip" p) [e, e2] [] ppos) body [] pos) ⟨nx, rt, bk, ct⟩ σ H := by
  refine s_for (ri_of (t := fun σ H R => RA c [e, e2] σ H fun vs H1 => ∃ a b xs ys, vs = [.ref a, .ref b] ∧ SqT c.K H1 a xs ∧ SqL c.K H1 b ys ∧ xs.length = ys.length ∧ R (Ittl c.K a b ys.length) H1) (fun X h => by rw [← h.K]; exact pi_zipTL (gl_of h hg) (by rw [h.mg]; exact hm) (pa_ra h) (hs _) (hpl _)) (RA.mono (fun us H1 z => ?_) q)) hf
  obtain ⟨a, b, xs, ys, ds, es, rfl, sa, sb, da, db, hl, Pv, p0, ps, pt, pe⟩ := z
  have la := da.len
  have lb := db.len
  refine ⟨a, b, xs, ys, rfl, sa, sb, by omega, fun i m σ' H' => m = ys.length - i ∧ i ≤ ys.length ∧ Pv i σ' H', ⟨ys.length, by simp, Nat.zero_le _, p0⟩, ?_⟩
  rintro i m σ' H' ⟨rfl, hi, pv⟩
  have s := ps i σ' H' pv
  have sa' := (tp_same s).sqt sa
  have sb' := s.seq sb
  by_cases hlt : i < ys.length
  · refine .inr ⟨⟨xs, ys, sa', by omega, sb', rfl, hlt⟩, Pv (i + 1), fun σ2 H2 p' => ⟨ys.length - (i + 1), by omega, rfl, hlt, p'⟩, fun v H2 yy => ?_⟩
    obtain ⟨T, u, w, rfl, hT, rfl, e1, e2⟩ := yy
    obtain ⟨d, hd1, hu⟩ := da.getV (e1 _ sa')
    obtain ⟨d', hd2, hw⟩ := db.getV (e2 _ sb')
    have sT : Same H' (upd H' T (.tup [u, w])) := same_new hT
    exact pt i d d' (.ref T) σ' H' _ hd1 hd2 pv sT (.tup (.of upd_same) (.cons (hu.mono (tp_same (s.trans sT))) (.cons (hw.mono (tp_same (s.trans sT))) .nil)))
  · have e : i = ys.length := by omega
    subst e
    refine .inl ⟨⟨xs, ys, sa', by omega, sb', rfl, Nat.le_refl _⟩, pe σ' H' ?_⟩
    rw [show ds.length = ys.length by omega]
    exact pv
end
end G
namespace K
open PySem PySem.Spec PyProof.Rows L2 G
variable {M : Md}
/-! ### several machines -/
/-- a run: the index, none where it is over, and the slots -/
abbrev Rn := Option Nat × List Int
def rnD (r : Rn) : PyData := .tuple [match r.1 with | none => PyData.none | some a => .int (a : Nat), stD r.2]
def aft (vals : St1) : Out → Rn × St1
  | .go a s => ((some a, s), vals)
  | .ev _ _ _ a s vs => ((some a, s), vs)
  | .fault _ s => ((none, s), vals)
  | .over _ s => ((none, s), vals)
/-- a step of one machine -/
def StpG (rs : List Row) (code : List Ins) (r : Rn) (v : St1) (q : Rn × St1) : Prop := match r.1 with
  | none => q = (r, v)
  | some i => ∃ c n o, CodeOk rs c code ∧ At rs c i r.2 v ∧ Runs rs code n i r.2 v o ∧ q = aft v o
/-- the steps of a schedule -/
def SchT (rs : List Row) (codes : List (List Ins)) : List Nat → List Rn → St1 → List Rn → St1 → Prop
  | [], ms, v, ms', v' => ms' = ms ∧ v' = v
  | k :: ks, ms, v, ms', v' => ∃ code r q, codes[k]? = some code ∧ ms[k]? = some r ∧ StpG rs code r v q ∧ SchT rs codes ks (ms.set k q.1) q.2 ms' v'
/-- the rest of a code -/
def FinT (rs : List Row) (code : List Ins) : Nat → Rn → St1 → St1 → Prop
  | 0, r, v, v' => r.1 = none ∧ v' = v
  | m + 1, r, v, v' => r.1 ≠ none ∧ ∃ q, StpG rs code r v q ∧ FinT rs code m q.1 q.2 v'
def FinsT (rs : List Row) : List (List Ins) → List Rn → St1 → St1 → Prop
  | code :: cs, r :: ms, v, v' => ∃ m u, FinT rs code m r v u ∧ FinsT rs cs ms u v'
  | _, _, v, v' => v' = v
def codesD (codes : List (List Ins)) : PyData := .tuple (codes.map codeD)
def planD (ks : List Nat) : PyData := .tuple (ks.map fun k => .int (k : Nat))
def begR : Rn := (some 0, sl0)
/-- all together -/
def TogT (rs : List Row) (codes : List (List Ins)) (plan : List Nat) (v v' : St1) : Prop := ∃ ms u, SchT rs codes plan (codes.map fun _ => begR) v ms u ∧ ms.length = codes.length ∧ FinsT rs codes ms u v'
def rInt : List PyData → PyData → Prop := fun ds d => ∃ (rs : List Row) (codes : List (List Ins)) (plan : List Nat) (v v' : St1), ds = [cellsD rs, stD v, codesD codes, planD plan] ∧ codes.length ≤ 1000 ∧ TogT rs codes plan v v' ∧ d = stD v'
abbrev dcInt (M : Md) : Prop := Dc M "interleaved" ["cells", "state", "codes", "schedule"] 6 (spF rInt M.K)
theorem runs_no {rs : List Row} {code : List Ins} : ∀ {n i : Nat} {sl : List Int} {vals : St1} {o : Out}, Runs rs code n i sl vals o → ∀ a s, o ≠ .go a s
  | 0, _, _, _, _, h => h.2
  | _ + 1, _, _, _, _, ⟨_, _, _, h⟩ => runs_no h
/-- step_of at a run of any kind -/
theorem step_at {rs : List Row} {code : List Ins} {r : Rn} {v : St1} {q : Rn × St1} (h : StpG rs code r v q) : ∃ e, rStep [cellsD rs, codeD code, rnD r, stD v] (.tuple [e, rnD q.1, stD q.2]) := by
  obtain ⟨a, s⟩ := r
  cases a with
  | none =>
    obtain rfl : q = ((none, s), v) := h
    exact ⟨_, .inr ⟨rs, code, s, v, rfl, rfl⟩⟩
  | some i =>
    obtain ⟨c, n, o, C, A, R, rfl⟩ := h
    cases o with
    | go a s => exact absurd rfl (runs_no R a s)
    | ev w j x a s vs => exact ⟨_, .inl ⟨rs, code, c, n, i, _, v, _, rfl, C, A, R, rfl⟩⟩
    | fault a s => exact ⟨_, .inl ⟨rs, code, c, n, i, _, v, _, rfl, C, A, R, rfl⟩⟩
    | over a s => exact ⟨_, .inl ⟨rs, code, c, n, i, _, v, _, rfl, C, A, R, rfl⟩⟩
end K

namespace G
open PySem PySem.Spec PyProof.Rows L2
section
variable {c : Cd} {σ : L2.St} {H : Hp} {nx : L2.St → Hp → Prop} {rt : VK} {bk ct : L2.St → Hp → Prop} {pos : Pos}
theorem i_enumD {e : Expr} {p tpos : Pos} {elts : List Expr} {kk : Nat} {W : It → Hp → Prop} (hm : c.mg "enumerate" = none) (q : RE c e σ H fun x H1 => ∃ b ys, x = .ref b ∧ SqT c.K H1 b ys ∧ W (Itet c.K b ys.length) H1) (hg : c.sc.names.lookup ("enumerate" : Str) = some .globalImplicit := by rfl) (hs : ∀ env, starEach [e] env = [(false, eval e env)] := by intro _; rfl) :
    RI c (.Tuple elts kk tpos) (.Call (.Name "enumerate" p) [e] [] pos) σ H W := by
  refine ri_of (t := fun σ H R => RA c [e] σ H fun vs H1 => ∃ b ys, vs = [.ref b] ∧ SqT c.K H1 b ys ∧ R (Itet c.K b ys.length) H1) (fun X h => by rw [← h.K]; exact pi_enumT (gl_of h hg) (by rw [h.mg]; exact hm) (pa_ra h) (hs _)) ?_
  refine a_cons (RE.mono (fun x H1 z => a_nil ?_) q) (fun env => by rw [hs]; rfl)
  obtain ⟨b, ys, rfl, h1, h2⟩ := z
  exact ⟨b, ys, rfl, h1, h2⟩
/-- for k, x in enumerate(t) -/
theorem s_forEnD {e : Expr} {p ppos tpos : Pos} {elts : List Expr} {kk : Nat} {body : List Stmt} (hm : c.mg "enumerate" = none) (q : RE c e σ H fun x H1 => ∃ ds, Dt c.K H1 x (.tuple ds) ∧
      ∃ Pv : Nat → L2.St → Hp → Prop, Pv 0 σ H1 ∧ (∀ i σ' H', Pv i σ' H' → Tp H1 H') ∧
      (∀ i d v σ' H' H2, ds[i]? = some d → Pv i σ' H' → Same H' H2 → Dt c.K H2 v (.tuple [.int (i : Nat), d]) → RG c (.Tuple elts kk tpos) v σ' H2 fun σ2 H3 => RB c body ⟨Pv (i + 1), rt, nx, Pv (i + 1)⟩ σ2 H3) ∧ ∀ σ' H', Pv ds.length σ' H' → nx σ' H')
    (hg : c.sc.names.lookup ("enumerate" : Str) = some .globalImplicit := by rfl) (hs : ∀ env, starEach [e] env = [(false, eval e env)] := by intro _; rfl)
    (hf : ∀ env x, foldedSetIterable (.Call (.Name "enumerate" p) [e] [] ppos) env x = pure x := by intro _ _; rfl) :
    RS c (.For (.Tuple elts kk tpos) (.Call (.Name "enumerate" p) [e] [] ppos) body [] pos) ⟨nx, rt, bk, ct⟩ σ H := by
  refine s_for (i_enumD hm (RE.mono (fun x H1 z => ?_) q) hg hs) hf
  obtain ⟨ds, hx, Pv, p0, ps, pt, pe⟩ := z
  obtain ⟨b, ys, rfl, ht, hd⟩ := hx.tupE
  have hl := hd.len
  refine ⟨b, ys, rfl, ht, fun i m σ' H' => m = ds.length - i ∧ i ≤ ds.length ∧ Pv i σ' H', ⟨_, rfl, Nat.zero_le _, p0⟩, ?_⟩
  rintro i m σ' H' ⟨rfl, hi, hp⟩
  have s := ps i σ' H' hp
  by_cases more : i < ds.length
  · refine .inr ⟨⟨ys, s.sqt ht, rfl, by omega⟩, Pv (i + 1), fun σ2 H2 p' => ⟨ds.length - (i + 1), by omega, rfl, more, p'⟩, fun x H2 got => ?_⟩
    obtain ⟨T, y, rfl, hT, rfl, hyy⟩ := got
    obtain ⟨v, hv, dv⟩ := hd.get (List.getElem?_eq_getElem more)
    have := hyy ys (s.sqt ht)
    rw [hv] at this
    cases this
    have sn := same_new (o := .tup [.int (i : Nat), y]) hT
    exact pt i _ (.ref T) σ' H' _ (List.getElem?_eq_getElem more) hp sn (.tup (.of upd_same) (.cons (.int _) (.cons (dv.mono (s.trans (tp_same sn))) .nil)))
  · obtain rfl : i = ds.length := by omega
    exact .inl ⟨⟨ys, s.sqt ht, rfl, by omega⟩, pe σ' H' hp⟩
end
end G
namespace K
open PySem PySem.Spec PyProof.Rows L2 G
variable {M : Md}
/-! ### what each machine does next -/
def runsD (ms : List Rn) : PyData := .tuple (ms.map rnD)
def isEv : Out → Bool
  | .ev _ _ _ _ _ _ => true
  | _ => false
/-- a step of one machine; b: whether it touches a cell -/
def StpB (rs : List Row) (code : List Ins) (r : Rn) (v : St1) (q : Rn × St1) (b : Bool) : Prop := match r.1 with
  | none => q = (r, v) ∧ b = false
  | some i => ∃ c n o, CodeOk rs c code ∧ At rs c i r.2 v ∧ Runs rs code n i r.2 v o ∧ q = aft v o ∧ b = isEv o
abbrev Nxt := Nat × List Rn × St1
def nxtD (x : Nxt) : PyData := .tuple [.int (x.1 : Nat), runsD x.2.1, stD x.2.2]
/-- the steps that touch a cell, machine by machine from k on -/
def LonT (rs : List Row) (ms : List Rn) (v : St1) : List (List Ins) → Nat → List Nxt → Prop
  | [], _, out => out = []
  | code :: cs, k, out => ∃ r q b rest, ms[k]? = some r ∧ StpB rs code r v q b ∧ LonT rs ms v cs (k + 1) rest ∧ out = if b = true then (k, ms.set k q.1, q.2) :: rest else rest
theorem stp_of {rs : List Row} {code : List Ins} {r : Rn} {v : St1} {q : Rn × St1} {b : Bool} (h : StpB rs code r v q b) : StpG rs code r v q := by
  obtain ⟨a, s⟩ := r
  cases a with
  | none => exact h.1
  | some i =>
    obtain ⟨c, n, o, C, A, R, e, _⟩ := h
    exact ⟨c, n, o, C, A, R, e⟩
theorem no_fault : decide (("fault" : Str) ∈ (["load", "store"] : List Str)) = false := by decide
theorem no_end : decide (("end" : Str) ∈ (["load", "store"] : List Str)) = false := by decide
theorem step_atB {rs : List Row} {code : List Ins} {r : Rn} {v : St1} {q : Rn × St1} {b : Bool} (h : StpB rs code r v q b) : ∃ (w : Str) (d2 d3 d4 : PyData), rStep [cellsD rs, codeD code, rnD r, stD v] (.tuple [.tuple [.str w, d2, d3, d4], rnD q.1, stD q.2]) ∧ decide (w ∈ (["load", "store"] : List Str)) = b := by
  obtain ⟨a, s⟩ := r
  cases a with
  | none =>
    obtain ⟨e, rfl⟩ := h
    obtain rfl : q = ((none, s), v) := e
    exact ⟨"end", _, _, _, .inr ⟨rs, code, s, v, rfl, rfl⟩, by decide⟩
  | some i =>
    obtain ⟨c, n, o, C, A, R, rfl, rfl⟩ := h
    cases o with
    | go a s => exact absurd rfl (runs_no R a s)
    | ev w j x a s vs =>
      obtain ⟨e, A'⟩ := A
      have z := (runs_E C n e i _ v R A').2.2.1
      refine ⟨w, _, _, _, .inl ⟨rs, code, c, n, i, _, v, _, rfl, C, ⟨e, A'⟩, R, rfl⟩, ?_⟩
      have t1 : decide (("load" : Str) ∈ (["load", "store"] : List Str)) = true := by decide
      have t2 : decide (("store" : Str) ∈ (["load", "store"] : List Str)) = true := by decide
      rcases z with rfl | rfl
      · exact t1
      · exact t2
    | fault a s => exact ⟨"fault", _, _, _, .inl ⟨rs, code, c, n, i, _, v, _, rfl, C, A, R, rfl⟩, no_fault⟩
    | over a s => exact ⟨"end", _, _, _, .inl ⟨rs, code, c, n, i, _, v, _, rfl, C, A, R, rfl⟩, no_end⟩
def rLon : List PyData → List PyData → Prop := fun ds es => ∃ (rs : List Row) (codes : List (List Ins)) (ms : List Rn) (v : St1) (out : List Nxt), ds = [cellsD rs, codesD codes, runsD ms, stD v] ∧ codes.length ≤ 100 ∧ ms.length = codes.length ∧ LonT rs ms v codes 0 out ∧ es = out.map nxtD
abbrev dcLon (M : Md) : Prop := Dc M "_longer_by_one" ["cells", "codes", "runs", "values"] 6 (spL rLon M.K)
theorem lon_len {rs : List Row} {ms : List Rn} {v : St1} : ∀ {cs : List (List Ins)} {k : Nat} {out : List Nxt}, LonT rs ms v cs k out → out.length ≤ cs.length
  | [], _, _, h => by rw [show _ = [] from h]; exact Nat.zero_le _
  | code :: cs, k, out, ⟨_, _, b, rest, _, _, h, e⟩ => by
    have := lon_len h
    rw [e]
    cases b with
    | true => exact Nat.succ_le_succ this
    | false => exact Nat.le_succ_of_le this
set_option maxHeartbeats 4000000 in
theorem ok_longer {f fd} (F : Fun M.K "_longer_by_one" "_longer_by_one" s__longer_by_one f fd) (b : Bl M) (he : M.mg "enumerate" = none) (dst : dcSt M) : FnG M.prog M.w M.K M.mg M.base CX0 6 f fd ["cells", "codes", "runs", "values"] (spL rLon M.K) := by
  refine fn_ok F sc__longer_by_one (fun vs H Q E h => ?_) (fun H vs Q E h => ?_)
  · obtain ⟨_, _, h, ⟨rs, codes, ms, v, out, rfl, _⟩, _⟩ := h
    exact h.len
  obtain ⟨_, _, h, ⟨rs, codes, ms, v, out, rfl, few, ml, T, rfl⟩, k⟩ := h
  obtain _ | ⟨hc, h⟩ := h
  obtain _ | ⟨hd, h⟩ := h
  obtain _ | ⟨hr, h⟩ := h
  obtain _ | ⟨hv, h⟩ := h
  cases h
  rename_i vc vd vr vv
  have hd : Dt M.K H vd (.tuple (codes.map codeD)) := hd
  have hr : Dt M.K H vr (.tuple (ms.map rnD)) := hr
  refine b_cut (fun σ1 H1 => ∃ lf, σ1 = [some vc, some vd, some vr, some vv, some (.ref lf), none, none, none, none, none, none] ∧ Same H H1 ∧ H lf = none ∧ H1 lf = some (.lst [])) ?_ ?_
  · refine s_set (by tm_at "at") (e_lstD ?_)
    tm_at "go"
    exact ⟨(Nat.le_of_ble_eq_true rfl), fun p H1 s1 n1 g1 => ⟨p, rfl, s1, n1, g1⟩⟩
  rintro _ H1 ⟨lf, rfl, s1, n1, g1⟩
  refine b_cut (fun σ1 H2 => ∃ w5 w6 w7 w8 w9 w10 us, σ1 = [some vc, some vd, some vr, some vv, some (.ref lf), w5, w6, w7, w8, w9, w10] ∧ Same H H2 ∧ H2 lf = some (.lst us) ∧ DtAll M.K H2 us (out.map nxtD)) ?_ ?_
  · refine s_forEnD he ?_
    tm_at "go"
    refine ⟨_, hd.mono (tp_same s1), fun i σ' H' => ∃ w5 w6 w7 w8 w9 w10 us pre rest, σ' = [some vc, some vd, some vr, some vv, some (.ref lf), w5, w6, w7, w8, w9, w10] ∧ Same H H' ∧ Tp H1 H' ∧ H' lf = some (.lst us) ∧ DtAll M.K H' us (pre.map nxtD) ∧ pre.length ≤ i ∧ LonT rs ms v (codes.drop i) i rest ∧ out = pre ++ rest, ⟨none, none, none, none, none, none, [], [], out, rfl, s1, Tp.refl _, g1, .nil, Nat.le_refl _, T, rfl⟩, ?_, ?_, ?_⟩
    · rintro i σ' H' ⟨_, _, _, _, _, _, _, _, _, rfl, _, t, _⟩
      exact t
    · rintro i d x σ' H' H2 hdi ⟨w5, w6, w7, w8, w9, w10, us, pre, rest, rfl, s', t', g', d', lp, T, eo⟩ s2 hx
      rw [List.getElem?_map] at hdi
      obtain ⟨code, hcode, rfl⟩ := Option.map_eq_some_iff.mp hdi
      have il := (List.getElem?_eq_some_iff.mp hcode).1
      have ed : codes.drop i = code :: codes.drop (i + 1) := by
        obtain ⟨a1, a2⟩ := List.getElem?_eq_some_iff.mp hcode
        rw [← a2]
        exact List.drop_eq_getElem_cons a1
      rw [ed] at T
      obtain ⟨r, q, bb, rest2, hri, st, T, er⟩ := T
      obtain ⟨w, d2, d3, d4, rel, ew⟩ := step_atB st
      have sH := s'.trans s2
      have g2 := s2 _ _ g'
      have d2' := d'.mono (tp_same s2)
      refine g_unp2 (by tm_at "at") (by tm_at "at") hx fun v5 v6 h5 h6 => ?_
      cases h5
      refine b_cut (fun σ1 H3 => ∃ v8 v9 v10, σ1 = [some vc, some vd, some vr, some vv, some (.ref lf), some (.int (i : Nat)), some v6, some (.str w), some v8, some v9, some v10] ∧ Same H2 H3 ∧ Dt M.K H3 v9 (rnD q.1) ∧ Dt M.K H3 v10 (stD q.2)) ?_ ?_
      · refine s_asg (e_callF dst ?_)
        tm_at "go"
        refine rx_tup (hr.mono (tp_same sH)) (pl_at (j := i) rfl (by rw [List.getElem?_map, hri]; rfl)) fun y hy => ?_
        tm_at "go"
        refine ⟨_, _, .cons (hc.mono (tp_same sH)) (.cons h6 (.cons hy (.cons (hv.mono (tp_same sH)) .nil))), rel, fun z H3 s3 hz3 => ?_⟩
        obtain ⟨t, xs, rfl, ht, hdx⟩ := hz3.tupE
        obtain _ | ⟨z1, hdx⟩ := hdx
        obtain _ | ⟨z2, hdx⟩ := hdx
        obtain _ | ⟨z3, hdx⟩ := hdx
        cases hdx
        obtain ⟨t1, xs1, rfl, ht1, hd1⟩ := z1.tupE
        obtain _ | ⟨f1, hd1⟩ := hd1
        obtain _ | ⟨f2, hd1⟩ := hd1
        obtain _ | ⟨f3, hd1⟩ := hd1
        obtain _ | ⟨f4, hd1⟩ := hd1
        cases hd1
        cases f1
        refine g_tup ht (gs_cons (g_tup ht1 (gs_cons (g_name (by tm_at "at") (gs_cons (g_name (by tm_at "at") (gs_cons (g_name (by tm_at "at") (gs_cons (g_name (by tm_at "at") (gs_nil ?_)))))))))))
        refine gs_cons (g_name (by tm_at "at") (gs_cons (g_name (by tm_at "at") (gs_nil ?_))))
        exact ⟨_, _, _, rfl, s3, z2, z3⟩
      rintro _ H3 ⟨v8, v9, v10, rfl, s3, h9, h10⟩
      refine b_one (s_if (t_cmp (inC ["load", "store"] ?_)))
      tm_at "go"
      refine ⟨dtStrs ["load", "store"], (Nat.le_of_ble_eq_true rfl), fun H4 s4 => ?_⟩
      have s34 := s3.trans s4
      have g4 := s34 _ _ g2
      have lu := d'.len
      rw [List.length_map] at lu
      rw [ew]
      cases bb with
      | false =>
        refine ⟨_, rfl, iff0 ?_⟩
        refine b_nil ?_
        exact ⟨_, _, _, _, _, _, us, pre, rest2, rfl, sH.trans s34, t'.trans (tp_same (s2.trans s34)), g4, d2'.mono (tp_same s34), by omega, T, by rw [eo, er]; rfl⟩
      | true =>
        refine ⟨_, rfl, ift ?_⟩
        have hr4 := hr.mono (tp_same (sH.trans s34))
        refine b_one (s_expr (e_app (e_var (by tm_at "at") ⟨lf, us, rfl, g4, ?_⟩)))
        refine e_tupD (a_cons (e_var (by tm_at "at") (a_cons ?_)))
        tm_at "go"
        refine rsl_tup hr4 fun x1 H5 s5 h5 => ?_
        tm_at "go"
        refine e_tupD ?_
        tm_at "go"
        refine tupend (ds := [rnD q.1]) (.cons (h9.mono (tp_same (s4.trans s5))) .nil) (Nat.le_of_ble_eq_true rfl) fun x2 H6 s6 h6' => ?_
        rw [cutT] at h5
        refine ro_catT (h5.mono (tp_same s6)) h6' (by rw [List.length_take, List.length_map]; show min i ms.length + 1 ≤ 100000; omega) fun x3 H7 s7 h7 => ?_
        tm_at "go"
        refine rsl_tup (hr4.mono (tp_same (s5.trans (s6.trans s7)))) fun x4 H8 s8 h8 => ?_
        have e9 : G.cutD (ms.map rnD) (some ((i : Int) + 1)) none = (ms.map rnD).drop (i + 1) := cutF (i + 1)
        rw [e9] at h8
        refine ro_catT (h7.mono (tp_same s8)) h8 (by rw [List.length_append, List.length_take, List.length_drop, List.length_map]; show min i ms.length + 1 + (ms.length - (i + 1)) ≤ 100000; omega) fun x5 H9 s9 h9' => ?_
        have e10 : (ms.map rnD).take i ++ [rnD q.1] ++ (ms.map rnD).drop (i + 1) = (ms.set i q.1).map rnD := by
          rw [set_cut (by rw [List.length_map]; omega), List.map_set]
        rw [e10] at h9'
        tm_at "go"
        have s59 := s5.trans (s6.trans (s7.trans (s8.trans s9)))
        refine tupend (ds := [.int (i : Nat), runsD (ms.set i q.1), stD q.2]) (.cons (.int _) (.cons h9' (.cons (h10.mono (tp_same (s4.trans s59))) .nil))) (Nat.le_of_ble_eq_true rfl) fun y HA sA hA => ?_
        have s4A := s59.trans sA
        have gA := s4A _ _ g4
        have ku := kp_upd (o' := .lst (us ++ [y])) gA (fun _ e => nomatch e) (fun _ _ e => nomatch e)
        refine ⟨us, gA, by omega, ?_⟩
        refine ⟨_, _, _, _, _, _, us ++ [y], pre ++ [(i, ms.set i q.1, q.2)], rest2, rfl, same_mut (sH.trans (s34.trans s4A)) n1, (t'.trans (tp_same (s2.trans (s34.trans s4A)))).trans ku.t, upd_same, ?_, by rw [List.length_append]; exact Nat.succ_le_succ lp, T, by rw [eo, er, List.append_assoc]; rfl⟩
        rw [List.map_append]
        exact ((d2'.mono (tp_same (s34.trans s4A))).mono ku.t).app (.cons (hA.mono ku.t) .nil)
    · rintro σ' H' ⟨w5, w6, w7, w8, w9, w10, us, pre, rest, rfl, s', t', g', d', lp, T, eo⟩
      rw [List.length_map, List.drop_length] at T
      have T : rest = [] := T
      rw [T, List.append_nil] at eo
      subst eo
      exact ⟨_, _, _, _, _, _, us, rfl, s', g', d'⟩
  rintro _ H2 ⟨w5, w6, w7, w8, w9, w10, us, rfl, s2, g2, d2⟩
  tm_at "go"
  exact k lf us H2 s2 n1 g2 d2
end K

namespace K
open PySem PySem.Spec PyProof.Rows L2 G
/-! ### all schedules, as a tree; a stack that walks it -/
def KidsT (A : List Rn → St1 → List (List Nat) → Prop) : List Nxt → List (List Nat) → Prop
  | [], outs => outs = []
  | x :: r, outs => ∃ o1 o2, A x.2.1 x.2.2 o1 ∧ KidsT A r o2 ∧ outs = o1.map (x.1 :: ·) ++ o2
def AllT (rs : List Row) (codes : List (List Ins)) : Nat → List Rn → St1 → List (List Nat) → Prop
  | 0, ms, v, outs => ms.length = codes.length ∧ LonT rs ms v codes 0 [] ∧ outs = [[]]
  | n + 1, ms, v, outs => ms.length = codes.length ∧ ∃ nx, LonT rs ms v codes 0 nx ∧ ((nx = [] ∧ outs = [[]]) ∨ (nx ≠ [] ∧ KidsT (AllT rs codes n) nx outs))
/-- what lies on the stack: the steps so far, the runs, the values; and what it will give -/
structure Itm where
  pre : List Nat
  ms : List Rn
  v : St1
  n : Nat
  outs : List (List Nat)
def Itm.ok (rs : List Row) (codes : List (List Ins)) (t : Itm) : Prop := AllT rs codes t.n t.ms t.v t.outs
def Itm.gives (t : Itm) : List (List Nat) := t.outs.map (t.pre ++ ·)
def todoS (st : List Itm) : List (List Nat) := st.reverse.flatMap Itm.gives
def costS (c : Nat) (st : List Itm) : Nat := (st.map fun t => (c + 1) ^ t.n).sum
theorem todo_snoc (st : List Itm) (t : Itm) : todoS (st ++ [t]) = t.gives ++ todoS st := by
  unfold todoS
  rw [List.reverse_append]
  rfl
theorem todo_app (st ts : List Itm) : todoS (st ++ ts.reverse) = ts.flatMap Itm.gives ++ todoS st := by
  unfold todoS
  rw [List.reverse_append, List.reverse_reverse, List.flatMap_append]
theorem cost_app (c : Nat) (st ts : List Itm) : costS c (st ++ ts) = costS c st + costS c ts := by
  unfold costS
  rw [List.map_append, List.sum_append]
theorem cost_rev (c : Nat) (ts : List Itm) : costS c ts.reverse = costS c ts := by
  unfold costS
  rw [List.map_reverse, List.sum_reverse]
/-- a leaf goes -/
theorem cost_leaf (c : Nat) (st : List Itm) (t : Itm) : costS c st < costS c (st ++ [t]) := by
  rw [cost_app]
  have : 0 < costS c [t] := by
    unfold costS
    rw [List.map_cons, List.map_nil, List.sum_cons, List.sum_nil, Nat.add_zero]
    exact Nat.pow_pos (Nat.succ_pos _)
  omega
/-- the children of an item -/
theorem kids_of {rs : List Row} {codes : List (List Ins)} {n : Nat} {pre : List Nat} : ∀ {nx : List Nxt} {outs : List (List Nat)}, KidsT (AllT rs codes n) nx outs → ∃ ts : List Itm, (∀ t ∈ ts, t.ok rs codes ∧ t.n = n) ∧ (ts.map fun t => (t.pre, t.ms, t.v)) = (nx.map fun x => (pre ++ [x.1], x.2.1, x.2.2)) ∧ ts.flatMap Itm.gives = outs.map (pre ++ ·)
  | [], outs, h => by
    obtain rfl : outs = [] := h
    exact ⟨[], (fun _ h => nomatch h), rfl, rfl⟩
  | x :: r, outs, ⟨o1, o2, h1, h2, e⟩ => by
    obtain ⟨ts, a, b, c⟩ := kids_of (pre := pre) h2
    refine ⟨⟨pre ++ [x.1], x.2.1, x.2.2, n, o1⟩ :: ts, fun t ht => ?_, by rw [List.map_cons, List.map_cons, b], ?_⟩
    · rcases List.mem_cons.mp ht with rfl | ht
      · exact ⟨h1, rfl⟩
      · exact a t ht
    · rw [List.flatMap_cons, c, e, List.map_append, List.map_map]
      congr 1
      show o1.map (fun y => pre ++ [x.1] ++ y) = _
      refine List.map_congr_left fun y _ => ?_
      show pre ++ [x.1] ++ y = pre ++ (x.1 :: y)
      rw [List.append_assoc]
      rfl
/-- an item makes room for its children -/
theorem cost_kids {c n : Nat} (st : List Itm) {t : Itm} {ts : List Itm} (ht : t.n = n + 1) (h : ∀ x ∈ ts, x.n = n) (l : ts.length ≤ c) : costS c (st ++ ts.reverse) < costS c (st ++ [t]) := by
  have e : ∀ ts : List Itm, (∀ x ∈ ts, x.n = n) → costS c ts = ts.length * (c + 1) ^ n := by
    intro ts
    induction ts with
    | nil => intro _; show 0 = 0 * _; rw [Nat.zero_mul]
    | cons x xs ih =>
      intro h
      have := ih fun y hy => h y (List.mem_cons_of_mem _ hy)
      unfold costS at this ⊢
      rw [List.map_cons, List.sum_cons, this, h x (List.mem_cons_self ..), List.length_cons, Nat.succ_mul]
      omega
  rw [cost_app, cost_app, cost_rev, e ts h]
  have e1 : costS c [t] = (c + 1) ^ (n + 1) := by
    unfold costS
    rw [List.map_cons, List.map_nil, List.sum_cons, List.sum_nil, Nat.add_zero, ht]
  rw [e1, Nat.pow_succ, Nat.mul_comm _ (c + 1), Nat.succ_mul]
  have p : 0 < (c + 1) ^ n := Nat.pow_pos (Nat.succ_pos _)
  have := Nat.mul_le_mul_right ((c + 1) ^ n) l
  omega
end K

namespace G
open PySem PySem.Spec PyProof.Rows L2
theorem e_pop0 {c : Cd} {σ : L2.St} {H : Hp} {Q : VK} {pos : Pos} {o : Expr} {apos : Pos} (q : RE c o σ H fun x H1 => ∃ l zs y, x = .ref l ∧ H1 l = some (.lst (zs ++ [y])) ∧ Q y (upd H1 l (.lst zs)))
    (hbase : ∀ env, attributeBase o "pop" env (eval o env) = eval o env := by intro _; rfl) (hline : (apos.endLine == pos.line) = true := by rfl) :
    RE c (.Call (.Attribute o "pop" apos) [] [] pos) σ H Q := by
  refine e_bm0 PySem.F.plainAttrs_list PySem.F.slot_list_pop PySem.F.type_list_pop (RE.mono (fun x H1 z => ?_) q) hbase hline
  obtain ⟨l, zs, y, rfl, hl, z⟩ := z
  refine ⟨Or.inl ⟨rfl, _, Or.inl (Or.inl hl)⟩, rm_of (fun X h => mt_pop) ⟨l, _, y, rfl, rfl, hl, ?_, ?_⟩⟩
  · rw [List.length_append, List.length_singleton, Nat.add_sub_cancel, List.getElem?_append_right (Nat.le_refl _), Nat.sub_self]
    rfl
  · rw [List.dropLast_concat]
    exact z
theorem e_revL {c : Cd} {σ : L2.St} {H : Hp} {Q : VK} {e : Expr} {k : Nat} {p1 p2 p3 pos : Pos} (q : RE c e σ H fun x H1 => ∃ a xs, x = .ref a ∧ SqL c.K H1 a xs ∧ ∀ p H2, Same H1 H2 → H1 p = none → H2 p = some (.lst xs.reverse) → Q (.ref p) H2) : RE c (.Subscript e (.Slice none none (some (.UnaryOp .USub (.Constant (.int 1) k p1) p2)) p3) pos) σ H Q := by
  refine re_of (t := tRevL c.K (RE c e)) (fun X h => by rw [← h.K]; exact pe_revL (pe_re h)) (RE.mono (fun x H1 z => ?_) q)
  obtain ⟨a, xs, e1, e2, z⟩ := z
  exact ⟨a, xs, e1, e2, fun p hp => z p _ (same_new hp) hp upd_same⟩
theorem DtAll.rev {K : PySem.W.Frag} {H : Hp} : ∀ {ds : List PyData} {vs : List V}, DtAll K H vs ds → DtAll K H vs.reverse ds.reverse
  | [], _, h => by cases h; exact .nil
  | d :: ds, _, h => by
    cases h with
    | cons h1 h2 =>
      rw [List.reverse_cons, List.reverse_cons]
      exact (DtAll.rev h2).app (.cons h1 .nil)
theorem truL {K : PySem.W.Frag} {H : Hp} {l : Addr} {us : List V} (g : H l = some (.lst us)) : TruV K (.ref l) H (!us.isEmpty) := Or.inl ⟨us, .of g, rfl⟩
theorem dt_snoc {K : PySem.W.Frag} {H : Hp} {ds : List PyData} {d : PyData} {us : List V} (h : DtAll K H us (ds ++ [d])) : ∃ us' u, us = us' ++ [u] ∧ DtAll K H us' ds ∧ Dt K H u d := by
  induction ds generalizing us with
  | nil =>
    cases h with
    | cons h1 h2 =>
      cases h2
      exact ⟨[], _, rfl, .nil, h1⟩
  | cons x xs ih =>
    cases h with
    | cons h1 h2 =>
      obtain ⟨us', u, rfl, a, b⟩ := ih h2
      exact ⟨_ :: us', u, rfl, .cons h1 a, b⟩
end G
namespace K
open PySem PySem.Spec PyProof.Rows L2 G
variable {M : Md}
def itmD (t : Itm) : PyData := .tuple [planD t.pre, runsD t.ms, stD t.v]
/-- the stack stays low -/
def Low (c N : Nat) (st : List Itm) : Prop := ∀ (i : Nat) (t : Itm), st[i]? = some t → t.n ≤ N ∧ i ≤ c * (N - t.n) ∧ t.pre.length + t.n ≤ N
theorem Low.len {c N : Nat} {st : List Itm} (h : Low c N st) : st.length ≤ c * N + 1 := by
  rcases List.eq_nil_or_concat st with e | ⟨a, t, e⟩
  · rw [e]; exact Nat.zero_le _
  · rw [e, List.concat_eq_append] at h ⊢
    obtain ⟨h1, h2, _⟩ := h a.length t (by rw [List.getElem?_append_right (Nat.le_refl _), Nat.sub_self]; rfl)
    rw [List.length_append, List.length_singleton]
    exact Nat.succ_le_succ (Nat.le_trans h2 (Nat.mul_le_mul_left c (Nat.sub_le _ _)))
theorem Low.kids {c N n : Nat} {st : List Itm} {t : Itm} {ts : List Itm} (h : Low c N (st ++ [t])) (ht : t.n = n + 1) (hs : ∀ x ∈ ts, x.n = n) (hp : ∀ x ∈ ts, x.pre.length = t.pre.length + 1) (l : ts.length ≤ c) : Low c N (st ++ ts.reverse) := by
  obtain ⟨h1, h2, h3⟩ := h st.length t (by rw [List.getElem?_append_right (Nat.le_refl _), Nat.sub_self]; rfl)
  intro i x hx
  by_cases e : i < st.length
  · rw [List.getElem?_append_left e] at hx
    exact h i x (by rw [List.getElem?_append_left e]; exact hx)
  · rw [List.getElem?_append_right (by omega)] at hx
    have il := (List.getElem?_eq_some_iff.mp hx).1
    rw [List.length_reverse] at il
    have hn := hs x (List.mem_reverse.mp (List.mem_of_getElem? hx))
    have hq := hp x (List.mem_reverse.mp (List.mem_of_getElem? hx))
    rw [hn]
    rw [ht] at h1 h2 h3
    refine ⟨by omega, ?_, by omega⟩
    have e2 : N - n = (N - (n + 1)) + 1 := by omega
    rw [e2, Nat.mul_succ]
    omega
theorem Low.init {c N : Nat} {st : List Itm} {t : Itm} (h : Low c N (st ++ [t])) : Low c N st := fun i x hx => h i x (by rw [List.getElem?_append_left (List.getElem?_eq_some_iff.mp hx).1]; exact hx)
def spSch (K : PySem.W.Frag) : SpG := fun vs H Q _ => ∃ (rs : List Row) (codes : List (List Ins)) (v : St1) (n : Nat) (outs : List (List Nat)) (vc vs0 vd : V), vs = [vc, vs0, vd] ∧ Dt K H vc (cellsD rs) ∧ Dt K H vs0 (stD v) ∧ Dt K H vd (codesD codes) ∧ codes.length ≤ 100 ∧ n ≤ 100 ∧ AllT rs codes n (codes.map fun _ => begR) v outs ∧ outs.length ≤ 100000 ∧
  ∀ us H', Same H H' → DtAll K H' us (outs.map planD) → Q us H'
end K

namespace K
open PySem PySem.Spec PyProof.Rows L2 G
variable {M : Md}
theorem gsc_sch : GScope N_schedules_of ["cells", "state", "codes"] (defScope s_schedules_of) := ⟨rfl, rfl, rfl, by decide +kernel, rfl, by decide +kernel, by decide +kernel⟩
theorem ok_kids {rs : List Row} {codes : List (List Ins)} {t : Itm} (h : t.ok rs codes) : t.ms.length = codes.length ∧ ∃ nx, LonT rs t.ms t.v codes 0 nx ∧ ((nx = [] ∧ t.outs = [[]]) ∨ (nx ≠ [] ∧ ∃ n, t.n = n + 1 ∧ KidsT (AllT rs codes n) nx t.outs)) := by
  obtain ⟨pre, ms, v, n, outs⟩ := t
  cases n with
  | zero =>
    obtain ⟨a, b, c⟩ := h
    exact ⟨a, [], b, .inl ⟨rfl, c⟩⟩
  | succ n =>
    obtain ⟨a, nx, b, c⟩ := h
    rcases c with c | ⟨c, d⟩
    · exact ⟨a, nx, b, .inl c⟩
    · exact ⟨a, nx, b, .inr ⟨c, n, rfl, d⟩⟩
theorem shp_pl (p : List Nat) : Shp 3 (planD p) := shp_tup fun d hd => by
  obtain ⟨x, _, rfl⟩ := List.mem_map.mp hd
  exact shp_int _
theorem shp_st (p : St1) : Shp 3 (stD p) := shp_tup fun d hd => by
  obtain ⟨x, _, rfl⟩ := List.mem_map.mp hd
  exact shp_int _
theorem shp_rn (r : Rn) : Shp 4 (rnD r) := shp_tup fun d hd => by
  obtain ⟨a, s⟩ := r
  simp only [List.mem_cons, List.not_mem_nil, or_false] at hd
  rcases hd with rfl | rfl
  · cases a with
    | none => exact shp_non
    | some i => exact shp_int _
  · exact shp_st s
theorem shp_runs (ms : List Rn) : Shp 5 (runsD ms) := shp_tup fun d hd => by
  obtain ⟨x, _, rfl⟩ := List.mem_map.mp hd
  exact shp_rn x
theorem Shp.up {n m : Nat} {d : PyData} (h : Shp n d) (l : n ≤ m) : Shp m d := ⟨h.lay, Nat.le_trans h.dep l⟩
theorem shp_nxt (x : Nxt) : Shp 6 (nxtD x) := shp_tup fun d hd => by
  simp only [List.mem_cons, List.not_mem_nil, or_false] at hd
  rcases hd with rfl | rfl | rfl
  · exact shp_int _
  · exact shp_runs _
  · exact K.Shp.up (shp_st _) (by decide)
set_option maxHeartbeats 8000000 in
theorem ok_sched {f fd} (F : Fun M.K "schedules_of" "schedules_of" s_schedules_of f fd) (b : Bl M) (dfr : dcFr M) (dlo : dcLon M) : GFn M.prog M.w M.K M.mg M.base 8 f fd ["cells", "state", "codes"] (spSch M.K) := by
  refine gfn_stack1 F gsc_sch (fun vs H Q E h => ?_) rfl (fun env he => ?_) (fun H vs Q E h => ?_)
  · obtain ⟨_, _, _, _, _, _, _, _, rfl, _⟩ := h
    rfl
  · unfold interactive
    rw [he]
    rfl
  obtain ⟨rs, codes, v, n, outs, vc, vs0, vd, rfl, hc, hs, hd, few, n100, A, lo, q⟩ := h
  have hd : Dt M.K H vd (.tuple (codes.map codeD)) := hd
  refine s_set (by tm_at "at") (e_lstD (a_cons (e_tupD (a_cons (e_tupD (a_nil ?_))))))
  refine tupend (ds := []) .nil (Nat.le_of_ble_eq_true rfl) fun w1 H1 s1 h1 => ?_
  refine a_cons (e_callT (T := "tuple") b.tuple (by decide +kernel) (a_cons ?_))
  refine e_lc (own := [("_", 11)]) (Blk.of (N := N_schedules_of) (sc := defScope s_schedules_of) rfl rfl (by decide +kernel)) ?_
  refine lcT_F (fun _ => some (rnD begR)) ?_
  tm_at "go"
  refine ⟨codes.map codeD, hd.mono (tp_same s1), by rw [List.length_map]; omega, fun d x H' hm s hx => ?_, fun p us H3 s3 n3 g3 h3 => ?_⟩
  · refine g_name (by tm_at "at") ⟨rfl, rfl, ts_nil ⟨Same.refl _, ift ?_⟩⟩
    refine e_call0 dfr ⟨rfl, fun w H4 s4 h4 => ?_⟩
    exact ⟨s4, _, rfl, h4⟩
  rw [List.filterMap_eq_map'] at h3
  have e0 : (codes.map codeD).map (fun _ => rnD begR) = (codes.map fun _ => begR).map rnD := by rw [List.map_map, List.map_map]; rfl
  have h3 : DtAll M.K H3 us ((codes.map fun _ => begR).map rnD) := by rw [← e0]; exact h3
  refine a_nil (rc_tupL (.of g3) h3 fun w2 H4 s4 h4 => ?_)
  refine a_cons (e_var (by tm_at "at") (a_nil ?_))
  have s14 := s1.trans (s3.trans s4)
  refine tupend (ds := [planD [], runsD (codes.map fun _ => begR), stD v]) (.cons (h1.mono (tp_same (s3.trans s4))) (.cons h4 (.cons (hs.mono (tp_same s14)) .nil))) (Nat.le_of_ble_eq_true rfl) fun w3 H5 s5 h5 => ?_
  refine a_nil ⟨(Nat.le_of_ble_eq_true rfl), fun lb H6 s6 nb g6 => ?_⟩
  have s16 := s14.trans (s5.trans s6)
  have n0 : H lb = none := same_none (s14.trans s5) nb
  refine ⟨fun m ys σ H' => ∃ (st : List Itm) (us : List V) (o1 : List (List Nat)) (w4 w5 w6 w7 w8 w9 w10 w11 : Option V), m = costS codes.length st ∧ σ = [some vc, some vs0, some vd, some (.ref lb), w4, w5, w6, w7, w8, w9, w10, w11] ∧ Same H H' ∧ H' lb = some (.lst us) ∧ DtAll M.K H' us (st.map itmD) ∧ DtAll M.K H' ys (o1.map planD) ∧ (∀ t ∈ st, t.ok rs codes) ∧ Low codes.length n st ∧ o1 ++ todoS st = outs,
    ⟨_, [⟨[], _, v, n, outs⟩], [w3], [], _, _, _, _, _, _, _, _, rfl, rfl, s16, g6, .cons (h5.mono (tp_same s6)) .nil, .nil, fun t ht => by rw [List.mem_singleton.mp ht]; exact A, fun i t ht => ?_, ?_⟩, ?_⟩
  · match i, ht with
    | 0, ht => cases ht; exact ⟨Nat.le_refl _, Nat.zero_le _, by show 0 + n ≤ n; omega⟩
    | i + 1, ht => simp at ht
  · show [] ++ (outs.map ([] ++ ·) ++ []) = outs
    rw [List.nil_append, List.append_nil]
    simp
  rintro m ys σ H4 ⟨st, us, o1, w4, w5, w6, w7, w8, w9, w10, w11, rfl, rfl, s4, g4, hu, ho, oks, low, eq⟩
  refine t_tru (e_var (by tm_at "at") ⟨!us.isEmpty, truL g4, ?_⟩)
  refine ifb (fun c1 => ?_) (fun c1 => ?_)
  · obtain ⟨st', t, rfl⟩ : ∃ st' t, st = st' ++ [t] := by
      rcases List.eq_nil_or_concat st with e | ⟨a, b, e⟩
      · subst e; cases hu; cases c1
      · exact ⟨a, b, by rw [e, List.concat_eq_append]⟩
    rw [List.map_append] at hu
    obtain ⟨us', vp, rfl, hu', hv⟩ := dt_snoc hu
    have tok := oks t (List.mem_append_right _ (List.mem_singleton.mpr rfl))
    obtain ⟨tl, nx, L, alt⟩ := ok_kids tok
    have nl := lon_len L
    -- the children
    obtain ⟨ts, ta, tb, tg, tlow, tcost⟩ : ∃ ts : List Itm, (∀ x ∈ ts, x.ok rs codes) ∧ (ts.map fun x => (x.pre, x.ms, x.v)) = (nx.map fun x => (t.pre ++ [x.1], x.2.1, x.2.2)) ∧ ((nx = [] ∧ o1 ++ [t.pre] ++ todoS (st' ++ ts.reverse) = outs) ∨ (nx ≠ [] ∧ o1 ++ todoS (st' ++ ts.reverse) = outs)) ∧ Low codes.length n (st' ++ ts.reverse) ∧ costS codes.length (st' ++ ts.reverse) < costS codes.length (st' ++ [t]) := by
      rcases alt with ⟨rfl, eo⟩ | ⟨ne, n', en, K1⟩
      · refine ⟨[], (fun _ h => nomatch h), rfl, .inl ⟨rfl, ?_⟩, ?_, ?_⟩
        · rw [List.reverse_nil, List.append_nil, ← eq, todo_snoc]
          show _ = o1 ++ (t.outs.map (t.pre ++ ·) ++ todoS st')
          rw [eo, List.append_assoc]
          simp
        · rw [List.reverse_nil, List.append_nil]
          exact low.init
        · rw [List.reverse_nil, List.append_nil]
          exact cost_leaf _ _ _
      · obtain ⟨ts, a1, a2, a3⟩ := kids_of (pre := t.pre) K1
        have tsl : ts.length = nx.length := by
          have := congrArg List.length a2
          rw [List.length_map, List.length_map] at this
          exact this
        refine ⟨ts, fun x hx => (a1 x hx).1, a2, .inr ⟨ne, ?_⟩, low.kids en (fun x hx => (a1 x hx).2) (fun x hx => ?_) (by omega), cost_kids _ en (fun x hx => (a1 x hx).2) (by omega)⟩
        · rw [todo_app, a3, ← eq, todo_snoc]
          rfl
        · have : (x.pre, x.ms, x.v) ∈ nx.map fun x => (t.pre ++ [x.1], x.2.1, x.2.2) := a2 ▸ List.mem_map.mpr ⟨x, hx, rfl⟩
          obtain ⟨y, _, e⟩ := List.mem_map.mp this
          injection e with e1 _
          rw [← e1, List.length_append]
          rfl
    refine ⟨fun ys' σ' H' => ∃ (st2 : List Itm) (us : List V) (o1 : List (List Nat)) (w4 w5 w6 w7 w8 w9 w10 w11 : Option V), costS codes.length st2 < costS codes.length (st' ++ [t]) ∧ σ' = [some vc, some vs0, some vd, some (.ref lb), w4, w5, w6, w7, w8, w9, w10, w11] ∧ Same H H' ∧ H' lb = some (.lst us) ∧ DtAll M.K H' us (st2.map itmD) ∧ DtAll M.K H' ys' (o1.map planD) ∧ (∀ t ∈ st2, t.ok rs codes) ∧ Low codes.length n st2 ∧ o1 ++ todoS st2 = outs,
      fun ys' σ' H' ⟨st2, us2, o2, a4, a5, a6, a7, a8, a9, a10, a11, lt, z⟩ => ⟨_, lt, st2, us2, o2, a4, a5, a6, a7, a8, a9, a10, a11, rfl, z⟩, ?_⟩
    refine s_asg (e_pop0 (e_var (by tm_at "at") ⟨lb, us', vp, rfl, g4, ?_⟩))
    have ku := kp_upd (o' := .lst us') g4 (fun _ e => nomatch e) (fun _ _ e => nomatch e)
    have s5 : Same H (upd H4 lb (.lst us')) := same_mut s4 n0
    have g5 : (upd H4 lb (.lst us')) lb = some (.lst us') := upd_same
    have hu5 := hu'.mono ku.t
    have hv5 := hv.mono ku.t
    have ho5 := ho.mono ku.t
    generalize upd H4 lb (.lst us') = H5 at s5 g5 hu5 hv5 ho5 ⊢
    refine g_unp3 (by tm_at "at") (by tm_at "at") (by tm_at "at") (show Dt M.K H5 vp (.tuple [planD t.pre, runsD t.ms, stD t.v]) from hv5) fun v4 v5 v6 h4' h5' h6' => ?_
    refine s_set (by tm_at "at") (e_callL dlo ?_)
    tm_at "go"
    refine ⟨_, _, .cons (hc.mono (tp_same s5)) (.cons (hd.mono (tp_same s5)) (.cons h5' (.cons h6' .nil))), ⟨rs, codes, t.ms, t.v, nx, rfl, few, tl, L, rfl⟩, fun l usn H6 s6' n6 g6' hn => ?_⟩
    have s56 := s5.trans s6'
    have ho6 := ho5.mono (tp_same s6')
    have hu6 := hu5.mono (tp_same s6')
    have g6b := s6' _ _ g5
    refine t_cmp ?_
    tm_at "go"
    refine e_lstD ?_
    tm_at "go"
    refine ⟨(Nat.le_of_ble_eq_true rfl), fun l0 H7 s7 n7 g7 => ?_⟩
    have s57 := s56.trans s7
    refine ro_eqNil (n := 6) (s7 _ _ g6') (hn.mono (tp_same s7)) (fun d hd => ?_) (by decide) g7 ?_
    · obtain ⟨x, _, rfl⟩ := List.mem_map.mp hd
      exact shp_nxt x
    have hn7 := hn.mono (tp_same s7)
    have gn7 := s7 _ _ g6'
    have g7b := s7 _ _ g6b
    have hu7 := hu6.mono (tp_same s7)
    have ho7 := ho6.mono (tp_same s7)
    have h47 := h4'.mono (tp_same (s6'.trans s7))
    have tbr : (ts.reverse.map fun x => (x.pre, x.ms, x.v)) = (nx.reverse.map fun x => (t.pre ++ [x.1], x.2.1, x.2.2)) := by rw [List.map_reverse, List.map_reverse, tb]
    have llen := low.len
    have lnl := Nat.mul_le_mul few n100
    have loop : ∀ (ys5 : List V) (o5 : List (List Nat)), DtAll M.K H7 ys5 (o5.map planD) → o5 ++ todoS (st' ++ ts.reverse) = outs →
        RS ⟨M, N_schedules_of, defScope s_schedules_of, 7, true, false, none⟩ (((match (defBody s_schedules_of).getD 1 (.Pass ⟨0, 0, 0, 0⟩) with | .While _ bd _ _ => bd | _ => []) : List Stmt).getD 3 (.Pass ⟨0, 0, 0, 0⟩)) ⟨fun σ' H' => ∃ (st2 : List Itm) (us : List V) (o1 : List (List Nat)) (w4 w5 w6 w7 w8 w9 w10 w11 : Option V), costS codes.length st2 < costS codes.length (st' ++ [t]) ∧ σ' = [some vc, some vs0, some vd, some (.ref lb), w4, w5, w6, w7, w8, w9, w10, w11] ∧ Same H H' ∧ H' lb = some (.lst us) ∧ DtAll M.K H' us (st2.map itmD) ∧ DtAll M.K H' ys5 (o1.map planD) ∧ (∀ t ∈ st2, t.ok rs codes) ∧ Low codes.length n st2 ∧ o1 ++ todoS st2 = outs,
          fun _ _ => False, fun _ _ => False, fun _ _ => False⟩ [some vc, some vs0, some vd, some (.ref lb), some v4, some v5, some v6, some (.ref l), w8, w9, w10, w11] H7 := by
      intro ys5 o5 hy5 eq5
      refine s_forL ?_
      refine e_revL (e_var (by tm_at "at") ⟨l, usn, rfl, .of gn7, fun lr H8 s8 n8 g8 => ?_⟩)
      have hr8 := (DtAll.rev hn7).mono (tp_same s8)
      rw [← List.map_reverse] at hr8
      have nlr : lr ≠ lb := fun z => by rw [z, g7b] at n8; cases n8
      refine ⟨lr, usn.reverse, rfl, .of g8, fun i σ' H' => ∃ (us2 : List V) (w8 w9 w10 : Option V), σ' = [some vc, some vs0, some vd, some (.ref lb), some v4, some v5, some v6, some (.ref l), w8, w9, w10, w11] ∧ Same H H' ∧ Kp lb H8 H' ∧ H' lb = some (.lst us2) ∧ DtAll M.K H' us2 ((st' ++ ts.reverse.take i).map itmD) ∧ DtAll M.K H' ys5 (o5.map planD),
        ⟨us', _, _, _, rfl, s57.trans s8, Kp.refl _ _, s8 _ _ g7b, by simpa using hu7.mono (tp_same s8), hy5.mono (tp_same s8)⟩, ?_, ?_, ?_⟩
      · rintro i σ' H' _ ⟨us2, a8, a9, a10, rfl, s, kp, _⟩
        exact .of (kp.k _ _ nlr g8)
      · rintro i x σ' H' hx ⟨us2, a8, a9, a10, rfl, s, kp, g, hu2, hy2⟩
        obtain ⟨d, hdi, hxd⟩ := hr8.getV hx
        rw [List.getElem?_map] at hdi
        obtain ⟨y, hyi, rfl⟩ := Option.map_eq_some_iff.mp hdi
        obtain ⟨it, hit, eit⟩ : ∃ it, ts.reverse[i]? = some it ∧ (it.pre, it.ms, it.v) = (t.pre ++ [y.1], y.2.1, y.2.2) := by
          have e := congrArg (fun l => l[i]?) tbr
          simp only [List.getElem?_map, hyi, Option.map_some] at e
          obtain ⟨it, h1, h2⟩ := Option.map_eq_some_iff.mp e
          exact ⟨it, h1, h2⟩
        have eD : itmD it = .tuple [planD (t.pre ++ [y.1]), runsD y.2.1, stD y.2.2] := by
          injection eit with e1 e2
          injection e2 with e2 e3
          unfold itmD
          rw [e1, e2, e3]
        have ht : (ts.reverse.take (i + 1)) = (ts.reverse.take i) ++ [it] := by
          obtain ⟨a1, a2⟩ := List.getElem?_eq_some_iff.mp hit
          rw [List.take_succ_eq_append_getElem a1, a2]
        have lu2 := hu2.len
        have tll : ts.length ≤ codes.length := by
          have := congrArg List.length tb
          rw [List.length_map, List.length_map] at this
          omega
        refine g_unp3 (by tm_at "at") (by tm_at "at") (by tm_at "at") (show Dt M.K H' x (.tuple [.int (y.1 : Nat), runsD y.2.1, stD y.2.2]) from hxd.mono kp.t) fun b1 b2 b3 hb1 hb2 hb3 => ?_
        cases hb1
        refine b_one (s_expr (e_app (e_var (by tm_at "at") ⟨lb, us2, rfl, g, ?_⟩)))
        refine e_tupD (a_cons (e_bin (e_var (by tm_at "at") (e_tupD (a_cons (e_var (by tm_at "at") (a_nil ?_)))))))
        refine tupend (ds := [.int (y.1 : Nat)]) (.cons (.int _) .nil) (Nat.le_of_ble_eq_true rfl) fun z1 HA sA hA => ?_
        have hpre : Dt M.K HA v4 (.tuple (t.pre.map fun k => .int (k : Nat))) := ((h47.mono (tp_same s8)).mono kp.t).mono (tp_same sA)
        have preN := (low st'.length t (by rw [List.getElem?_append_right (Nat.le_refl _), Nat.sub_self]; rfl)).2.2
        refine ro_catT hpre hA (by rw [List.length_map]; show t.pre.length + 1 ≤ 100000; omega) fun z2 HB sB hB => ?_
        have e7 : (t.pre.map fun k : Nat => PyData.int (k : Int)) ++ [.int (y.1 : Nat)] = (t.pre ++ [y.1]).map fun k : Nat => PyData.int (k : Int) := by rw [List.map_append]; rfl
        rw [e7] at hB
        have sAB := sA.trans sB
        refine a_cons (e_var (by tm_at "at") (a_cons (e_var (by tm_at "at") (a_nil ?_))))
        refine tupend (ds := [planD (t.pre ++ [y.1]), runsD y.2.1, stD y.2.2]) (.cons hB (.cons (hb2.mono (tp_same sAB)) (.cons (hb3.mono (tp_same sAB)) .nil))) (Nat.le_of_ble_eq_true rfl) fun z3 HC sC hC => ?_
        have sAC := sAB.trans sC
        have gC := sAC _ _ g
        have kC := kp_upd (o' := .lst (us2 ++ [z3])) gC (fun _ e => nomatch e) (fun _ _ e => nomatch e)
        rw [List.length_map, List.length_append, List.length_take] at lu2
        rw [List.length_append, List.length_singleton] at llen
        have lrev : ts.reverse.length = ts.length := by simp
        refine ⟨us2, gC, by omega, us2 ++ [z3], _, _, _, rfl, same_mut (s.trans sAC) n0, (kp.trans (kp_same sAC)).trans kC, upd_same, ?_, (hy2.mono (tp_same sAC)).mono kC.t⟩
        rw [ht, ← List.append_assoc, List.map_append]
        refine ((hu2.mono (tp_same sAC)).mono kC.t).app (.cons ?_ .nil)
        rw [eD]
        exact hC.mono kC.t
      · rintro σ' H' ⟨us2, a8, a9, a10, rfl, s, kp, g, hu2, hy2⟩
        have lr' := hr8.len
        simp only [List.length_map, List.length_reverse] at lr'
        have tll : ts.reverse.length = usn.reverse.length := by
          have := congrArg List.length tb
          rw [List.length_map, List.length_map] at this
          rw [List.length_reverse, List.length_reverse, lr', this]
        rw [← tll, List.take_length] at hu2
        exact ⟨st' ++ ts.reverse, us2, o5, _, _, _, _, _, _, _, _, tcost, rfl, s, g, hu2, hy2, fun x hx => by
          rcases List.mem_append.mp hx with h | h
          · exact oks x (List.mem_append_left _ h)
          · exact ta x (List.mem_reverse.mp h), tlow, eq5⟩
    cases nx with
    | nil =>
      refine ⟨true, rfl, ?_⟩
      rw [if_pos rfl]
      have lo1 := ho.len
      rw [List.length_map] at lo1
      have eq1 : o1 ++ [t.pre] ++ todoS (st' ++ ts.reverse) = outs := tg.elim (fun z => z.2) fun z => absurd rfl z.1
      have lo2 := congrArg List.length eq1
      rw [List.length_append, List.length_append] at lo2
      refine ⟨Nat.lt_of_le_of_lt (show ys.length ≤ 100000 by omega) (by decide), e_var (by tm_at "at") ?_⟩
      refine loop (ys ++ [v4]) (o1 ++ [t.pre]) ?_ eq1
      rw [List.map_append]
      exact ho7.app (.cons h47 .nil)
    | cons y ny =>
      refine ⟨false, rfl, ?_⟩
      rw [if_neg Bool.false_ne_true]
      exact loop ys o1 ho7 (tg.elim (fun z => nomatch z.1) fun z => z.2)
  · have e : us = [] := by
      cases us with
      | nil => rfl
      | cons => cases c1
    subst e
    cases st with
    | nil =>
      rw [show todoS [] = [] from rfl, List.append_nil] at eq
      subst eq
      exact q ys H4 s4 ho
    | cons => cases hu
end K

/-! A dict whose keys are texts, numbers, None and tuples of such side by side. -/
namespace VK
open PySem PyProof.Rows
abbrev Ky := NestedKey
abbrev Ro := Ky × Value × Value
def entry (w : World) (x : Ro) : DictEntry := ⟨x.1.hash w, x.2.1, x.2.2⟩
def hits (xs : List Ro) (k : Ky) (i : Nat) : Bool := (xs[i]?).any fun x => decide (x.1 = k)
def place (xs : List Ro) (k : Ky) : Option Nat := (List.range xs.length).find? (hits xs k)
def IsKey (h : Heap) (k : Ky) (v : Value) : Prop := NestedIs h k v ∧ k.depth ≤ 8
def Shape (v : Value) : Prop := (∃ x t, v = .str x t) ∨ ∃ a, v = .ref a
def Stands (w : World) (h : Heap) (d : Addr) (xs : List Ro) : Prop :=
  ∃ o es ep, h.get? d = some o ∧ o.ExactDict ∧ o.data = .dict es ep ∧ es.toList = xs.map (entry w) ∧ (∀ x ∈ xs, IsKey h x.1 x.2.1) ∧ (xs.map (·.1)).Nodup

theorem one_place {xs : List Ro} {k : Ky} (hn : (xs.map (·.1)).Nodup) {i j : Nat} (hi : hits xs k i = true) (hj : hits xs k j = true) : i = j := by
  have f : ∀ i, hits xs k i = true → (xs.map (·.1))[i]? = some k := by
    intro i h
    unfold hits at h
    rw [List.getElem?_map]
    cases e : xs[i]? with
    | none => rw [e] at h; exact absurd h (by simp)
    | some x =>
      rw [e] at h
      have : x.1 = k := by simpa using h
      rw [Option.map_some, this]
  have a := f i hi
  have b := f j hj
  exact (List.getElem?_inj (List.getElem?_eq_some_iff.mp a).1 hn).mp (a.trans b.symm)
theorem hits_lt {xs : List Ro} {k : Ky} {i : Nat} (h : hits xs k i = true) : i < xs.length := by
  unfold hits at h
  cases e : xs[i]? with
  | none => rw [e] at h; exact absurd h (by simp)
  | some x => exact (List.getElem?_eq_some_iff.mp e).1
theorem place_some {xs : List Ro} {k : Ky} (hn : (xs.map (·.1)).Nodup) {i : Nat} (h : hits xs k i = true) : place xs k = some i := by
  have : ∃ j, place xs k = some j := by
    rw [← Option.isSome_iff_exists, place, List.find?_isSome]
    exact ⟨i, List.mem_range.mpr (hits_lt h), h⟩
  obtain ⟨j, hj⟩ := this
  have := List.find?_some hj
  rw [hj, one_place hn h this]
theorem place_none {xs : List Ro} {k : Ky} (h : ∀ i, hits xs k i = false) : place xs k = none := by
  rw [place, List.find?_eq_none]
  intro i _
  rw [h i]
  exact Bool.false_ne_true
theorem place_get {xs : List Ro} {k : Ky} {i : Nat} (h : place xs k = some i) : ∃ x, xs[i]? = some x ∧ x.1 = k := by
  have := List.find?_some h
  unfold hits at this
  cases e : xs[i]? with
  | none => rw [e] at this; exact absurd this (by simp)
  | some x => exact ⟨x, rfl, by rw [e] at this; simpa using this⟩

section
variable {prog : Program} {w : World} {A : Around} {E : Value → Shared → Prop} {s : Shared}
theorem tells_not {k : Ky} {v : Value} {stored : List Value} {Q : Bool → Shared → Prop} (hk : IsKey s.heap k v) (hs : ∀ u ∈ stored, ∃ k', IsKey s.heap k' u) (h : Q false s) : wpAny (model prog w) A (tableMayTell v stored) Q E s := by
  unfold tableMayTell
  split
  · exact wpAny_pure h
  · refine wpAny_bind (quiet_key k v 8 s hk.1 hk.2 A E _ ?_)
    rw [if_neg (by simp)]
    refine wpAny_bind (wpAny_forIn_list _ (fun rest r s' => s' = s ∧ r = (none, ()) ∧ ∀ u ∈ rest, ∃ k', IsKey s.heap k' u) _ ?_ ?_ _ _ ⟨rfl, rfl, hs⟩)
    · rintro x rest r s' ⟨rfl, rfl, z⟩
      obtain ⟨k', hk'⟩ := z x List.mem_cons_self
      refine wpAny_bind (quiet_key k' x 8 s' hk'.1 hk'.2 A E _ ?_)
      rw [if_neg (by simp)]
      exact wpAny_pure ⟨rfl, rfl, fun u hu => z u (List.mem_cons_of_mem _ hu)⟩
    · rintro r s' ⟨rfl, rfl, _⟩
      exact wpAny_pure h
theorem same_key {x y : Ky} {a b : Value} {Q : Bool → Shared → Prop} (hu : A.units + 8 < cLine) (hx : IsKey s.heap x a) (hy : IsKey s.heap y b) (h : Q (decide (x = y)) s) : wpAny (model prog w) A (eqBool a b) Q E s :=
  eqAt_key x y A s a b hx.1 hy.1 (by have := hx.2; omega) _ _ _ _ (by rw [← NestedKey.decide_eq]; exact h)

abbrev codes (es : Array DictEntry) (n : Int) : List Nat := placesWithHash es.size (fun i => es[i]?.map (·.hash)) n
/-- what a walk over the places of one hash finds -/
theorem found_in {es : Array DictEntry} {xs : List Ro} {k : Ky} (he : es.toList = xs.map (entry w)) : (codes es (k.hash w)).find? (hits xs k) = place xs k := by
  have hsz : es.size = xs.length := by rw [← Array.length_toList, he, List.length_map]
  unfold codes placesWithHash place
  rw [List.find?_filter, hsz]
  refine congrArg (fun f => List.find? f (List.range xs.length)) (funext fun i => ?_)
  cases hh : hits xs k i with
  | false => simp
  | true =>
    have : es[i]? = (xs[i]?).map (entry w) := by rw [← Array.getElem?_toList, he, List.getElem?_map]
    unfold hits at hh
    cases e : xs[i]? with
    | none => rw [e] at hh; exact absurd hh (by simp)
    | some x =>
      rw [e] at hh
      have ek : x.1 = k := by simpa using hh
      rw [e] at this
      simp only [this, Option.map_some, entry, ek]
      simp
theorem walk_first {d : Addr} {v : Value} {o : Obj} {es ep} {xs : List Ro} {k : Ky} {Q : Option Nat → Shared → Prop} (hu : A.units + 8 < cLine) (hk : IsKey s.heap k v) (ho : s.heap.get? d = some o) (hd : o.data = .dict es ep)
    (he : es.toList = xs.map (entry w)) (his : ∀ x ∈ xs, IsKey s.heap x.1 x.2.1) (h : Q (place xs k) s) : wpAny (model prog w) A (dictWalkPlain d v (k.hash w) es (codes es (k.hash w))) Q E s := by
  have at_ : ∀ i, es[i]? = (xs[i]?).map (entry w) := fun i => by rw [← Array.getElem?_toList, he, List.getElem?_map]
  rw [← found_in (w := w) he] at h
  unfold dictWalkPlain
  refine wpAny_bind (wpAny_forIn_list _ (fun rest b s' => s' = s ∧ b = (none, ()) ∧ (codes es (k.hash w)).find? (hits xs k) = rest.find? (hits xs k)) _ ?_ ?_ _ _ ⟨rfl, rfl, rfl⟩)
  · rintro i rest b s' ⟨rfl, rfl, z⟩
    rw [List.find?_cons] at z
    cases e : xs[i]? with
    | none =>
      have hf : hits xs k i = false := by unfold hits; rw [e]; rfl
      rw [at_ i, e]
      rw [hf] at z
      exact wpAny_pure ⟨rfl, rfl, z⟩
    | some x =>
      have hf : hits xs k i = decide (x.1 = k) := by unfold hits; rw [e]; rfl
      rw [at_ i, e]
      rw [hf] at z
      show wpAny _ _ (if ((entry w x).hash == k.hash w) = true then _ else _) _ E _
      by_cases hh : ((entry w x).hash == k.hash w) = true
      · rw [if_pos hh]
        refine wpAny_bind (wpAny_dictEpoch ho hd (wpAny_bind (same_key (x := x.1) (y := k) hu (his x (List.mem_of_getElem? e)) hk (wpAny_bind (wpAny_dictEpoch ho hd ?_)))))
        show wpAny _ _ (if (ep != ep) = true then _ else _) _ E _
        rw [if_neg (by simp)]
        by_cases hkk : x.1 = k
        · rw [decide_eq_true hkk] at z ⊢
          rw [z] at h
          exact wpAny_bind (wpAny_rule (wpAny_pure (wpAny_pure h)))
        · rw [decide_eq_false hkk] at z ⊢
          exact wpAny_bind (wpAny_rule (wpAny_pure ⟨rfl, rfl, z⟩))
      · rw [if_neg hh]
        have hkk : ¬ x.1 = k := fun e => hh (by show (NestedKey.hash w x.1 == _) = true; rw [e]; simp)
        rw [decide_eq_false hkk] at z
        exact wpAny_pure ⟨rfl, rfl, z⟩
  · rintro b s' ⟨rfl, rfl, z⟩
    rw [z] at h
    exact wpAny_pure h
theorem codes_nodup (es : Array DictEntry) (n : Int) : (codes es n).Nodup := List.nodup_range.filter _
theorem findIdx_range {β : Type} (es : Array β) (q : β → Bool) : es.findIdx? q = (List.range es.size).find? fun i => (es[i]?).any q := by
  cases hf : es.findIdx? q with
  | none =>
    symm
    rw [List.find?_eq_none]
    intro i hi
    have hi := List.mem_range.mp hi
    rw [Array.getElem?_eq_getElem hi]
    have := Array.findIdx?_eq_none_iff.mp hf es[i] (Array.getElem_mem hi)
    simp [this]
  | some i =>
    obtain ⟨hlt, hi, hno⟩ := Array.findIdx?_eq_some_iff_getElem.mp hf
    symm
    rw [List.find?_range_eq_some]
    refine ⟨?_, List.mem_range.mpr hlt, fun j hj => ?_⟩
    · rw [Array.getElem?_eq_getElem hlt]
      simpa using hi
    · have hj' : j < es.size := Nat.lt_trans hj hlt
      rw [Array.getElem?_eq_getElem hj']
      have := hno j hj
      simpa using this
theorem dictFind_v {d : Addr} {v : Value} {o : Obj} {es ep} {xs : List Ro} {k : Ky} {Q : Option Nat → Shared → Prop} (hu : A.units + 8 < cLine) (hk : IsKey s.heap k v) (hv : Shape v) (ho : s.heap.get? d = some o) (hd : o.data = .dict es ep)
    (he : es.toList = xs.map (entry w)) (his : ∀ x ∈ xs, IsKey s.heap x.1 x.2.1) (hn : (xs.map (·.1)).Nodup) (h : Q (place xs k) s) : wpAny (model prog w) A (dictFind d v (k.hash w)) Q E s := by
  have at_ : ∀ i, es[i]? = (xs[i]?).map (entry w) := fun i => by rw [← Array.getElem?_toList, he, List.getElem?_map]
  have hsz : es.size = xs.length := by rw [← Array.length_toList, he, List.length_map]
  have hm : ∀ e ∈ es, ∃ x ∈ xs, e = entry w x := by
    intro e he'
    have : e ∈ xs.map (entry w) := he ▸ Array.mem_toList_iff.mpr he'
    obtain ⟨x, hx, rfl⟩ := List.mem_map.mp this
    exact ⟨x, hx, rfl⟩
  have hst : ∀ u ∈ (codes es (k.hash w)).filterMap (fun i => es[i]?.map (·.key)), ∃ k', IsKey s.heap k' u := by
    intro u hu'
    obtain ⟨i, _, hi⟩ := List.mem_filterMap.mp hu'
    cases e : xs[i]? with
    | none => rw [at_ i, e] at hi; cases hi
    | some x =>
      rw [at_ i, e] at hi
      obtain rfl : x.2.1 = u := by simpa [entry] using hi
      exact ⟨x.1, his x (List.mem_of_getElem? e)⟩
  have h0 := h
  rw [← found_in (w := w) he] at h
  rcases hv with ⟨y, t, rfl⟩ | ⟨a, rfl⟩
  · by_cases hall : (es.all fun e => isExactStrKey e.key) = true
    · refine KTD.kt_dictFind_strs ho hd hall ?_
      have ek : k = .text y := by
        have := hk.1
        cases this
        rfl
      rw [findIdx_range, hsz]
      have : (fun i => (es[i]?).any fun e => e.key.isStr y) = hits xs k := by
        funext i
        rw [at_ i]
        unfold hits
        cases e : xs[i]? with
        | none => rfl
        | some x =>
          have mx := List.mem_of_getElem? e
          have hx := (his x mx).1
          have hs : isExactStrKey x.2.1 = true := by
            rw [← Array.all_toList, he, List.all_map, List.all_eq_true] at hall
            exact hall x mx
          obtain ⟨kx, vx, ux⟩ := x
          simp only [Option.map_some, Option.any_some, entry]
          cases hx with
          | text z t' =>
            rw [ek]
            show (z == y) = decide (NestedKey.text z = NestedKey.text y)
            rw [NestedKey.decide_eq]
            rw [NestedKey.beq]
            by_cases e3 : z = y
            · rw [decide_eq_true e3, e3]; exact beq_self_eq_true y
            · rw [decide_eq_false e3]; exact beq_eq_false_iff_ne.mpr e3
          | none => exact absurd hs (by simp [isExactStrKey])
          | bool _ => exact absurd hs (by simp [isExactStrKey])
          | int _ _ => exact absurd hs (by simp [isExactStrKey])
          | tup _ _ _ _ => exact absurd hs (by simp [isExactStrKey])
      rw [this]
      exact h0
    · unfold dictFind
      try with_reducible refine wpAny_holding ?_
      refine wpAny_bind (wpAny_dictEntries ho hd ?_)
      dsimp only
      rw [if_neg hall]
      by_cases hc : (Value.str y t :: (codes es (k.hash w)).filterMap (fun i => es[i]?.map (·.key))).all carriedByValue = true
      · rw [if_pos hc]
        exact walk_first hu hk ho hd he his h0
      · rw [if_neg hc]
        by_cases hone : ((codes es (k.hash w)).filterMap (fun i => es[i]?.map (·.key)) == [Value.str y t]) = true
        · rw [if_pos hone]
          refine wpAny_bind (wpAny_pure ?_)
          rw [if_neg (by simp)]
          refine wpAny_bind (wpAny_forIn_list _ (fun rest b s' => s' = s ∧ ∃ pre, codes es (k.hash w) = pre ++ rest ∧ b = (none, pre.find? (hits xs k))) _ ?_ ?_ _ _ ⟨rfl, [], rfl, rfl⟩)
          · rintro i rest b s' ⟨rfl, pre, z, rfl⟩
            have z' : codes es (k.hash w) = (pre ++ [i]) ++ rest := by rw [z, List.append_assoc]; rfl
            have stay : hits xs k i = false → (pre ++ [i]).find? (hits xs k) = pre.find? (hits xs k) := by
              intro hf
              rw [List.find?_append, List.find?_cons, hf]
              simp
            have new : hits xs k i = true → pre.find? (hits xs k) = none := by
              intro hf
              cases hp : pre.find? (hits xs k) with
              | none => rfl
              | some j =>
                have hj := List.find?_some hp
                have hj2 := List.mem_of_find?_eq_some hp
                have := one_place hn hj hf
                subst this
                have nd := codes_nodup es (k.hash w)
                rw [z] at nd
                exact absurd rfl ((List.nodup_append.mp nd).2.2 j hj2 j List.mem_cons_self)
            cases e : xs[i]? with
            | none =>
              have hf : hits xs k i = false := by unfold hits; rw [e]; rfl
              rw [at_ i, e]
              exact wpAny_pure ⟨rfl, pre ++ [i], z', by rw [stay hf]⟩
            | some x =>
              have hf : hits xs k i = decide (x.1 = k) := by unfold hits; rw [e]; rfl
              rw [at_ i, e]
              show wpAny _ _ (if ((entry w x).hash == k.hash w) = true then _ else _) _ E _
              by_cases hh : ((entry w x).hash == k.hash w) = true
              · rw [if_pos hh]
                refine wpAny_bind (wpAny_dictEpoch ho hd (wpAny_bind (same_key (x := x.1) (y := k) hu (his x (List.mem_of_getElem? e)) hk (wpAny_bind (wpAny_dictEpoch ho hd ?_)))))
                show wpAny _ _ (if (ep != ep) = true then _ else _) _ E _
                rw [if_neg (by simp)]
                by_cases hkk : x.1 = k
                · rw [decide_eq_true hkk] at hf ⊢
                  rw [if_pos rfl, new hf, if_neg (by simp)]
                  refine wpAny_bind (wpAny_rule ?_)
                  split
                  · exact wpAny_pure (wpAny_pure (by rw [place_some hn hf] at h0; exact h0))
                  · refine wpAny_pure ⟨rfl, pre ++ [i], z', ?_⟩
                    rw [List.find?_append, new hf, List.find?_cons, hf]
                    rfl
                · rw [decide_eq_false hkk] at hf ⊢
                  rw [if_neg (by simp)]
                  refine wpAny_bind (wpAny_rule ?_)
                  rw [if_neg (by simp)]
                  exact wpAny_pure ⟨rfl, pre ++ [i], z', by rw [stay hf]⟩
              · rw [if_neg hh]
                have hkk : ¬ x.1 = k := fun e => hh (by show (NestedKey.hash w x.1 == _) = true; rw [e]; simp)
                rw [decide_eq_false hkk] at hf
                exact wpAny_pure ⟨rfl, pre ++ [i], z', by rw [stay hf]⟩
          · rintro b s' ⟨rfl, pre, z, rfl⟩
            rw [List.append_nil] at z
            rw [z] at h
            exact wpAny_pure h
        · rw [if_neg hone]
          refine wpAny_bind (tells_not hk hst ?_)
          rw [if_neg (by simp)]
          refine wpAny_bind (wpAny_forIn_list _ (fun rest b s' => s' = s ∧ ∃ pre, codes es (k.hash w) = pre ++ rest ∧ b = (none, pre.find? (hits xs k))) _ ?_ ?_ _ _ ⟨rfl, [], rfl, rfl⟩)
          · rintro i rest b s' ⟨rfl, pre, z, rfl⟩
            have z' : codes es (k.hash w) = (pre ++ [i]) ++ rest := by rw [z, List.append_assoc]; rfl
            have stay : hits xs k i = false → (pre ++ [i]).find? (hits xs k) = pre.find? (hits xs k) := by
              intro hf
              rw [List.find?_append, List.find?_cons, hf]
              simp
            have new : hits xs k i = true → pre.find? (hits xs k) = none := by
              intro hf
              cases hp : pre.find? (hits xs k) with
              | none => rfl
              | some j =>
                have hj := List.find?_some hp
                have hj2 := List.mem_of_find?_eq_some hp
                have := one_place hn hj hf
                subst this
                have nd := codes_nodup es (k.hash w)
                rw [z] at nd
                exact absurd rfl ((List.nodup_append.mp nd).2.2 j hj2 j List.mem_cons_self)
            cases e : xs[i]? with
            | none =>
              have hf : hits xs k i = false := by unfold hits; rw [e]; rfl
              rw [at_ i, e]
              exact wpAny_pure ⟨rfl, pre ++ [i], z', by rw [stay hf]⟩
            | some x =>
              have hf : hits xs k i = decide (x.1 = k) := by unfold hits; rw [e]; rfl
              rw [at_ i, e]
              show wpAny _ _ (if ((entry w x).hash == k.hash w) = true then _ else _) _ E _
              by_cases hh : ((entry w x).hash == k.hash w) = true
              · rw [if_pos hh]
                refine wpAny_bind (wpAny_dictEpoch ho hd (wpAny_bind (same_key (x := x.1) (y := k) hu (his x (List.mem_of_getElem? e)) hk (wpAny_bind (wpAny_dictEpoch ho hd ?_)))))
                show wpAny _ _ (if (ep != ep) = true then _ else _) _ E _
                rw [if_neg (by simp)]
                by_cases hkk : x.1 = k
                · rw [decide_eq_true hkk] at hf ⊢
                  rw [if_pos rfl, new hf, if_neg (by simp)]
                  refine wpAny_bind (wpAny_rule ?_)
                  split
                  · exact wpAny_pure (wpAny_pure (by rw [place_some hn hf] at h0; exact h0))
                  · refine wpAny_pure ⟨rfl, pre ++ [i], z', ?_⟩
                    rw [List.find?_append, new hf, List.find?_cons, hf]
                    rfl
                · rw [decide_eq_false hkk] at hf ⊢
                  rw [if_neg (by simp)]
                  refine wpAny_bind (wpAny_rule ?_)
                  rw [if_neg (by simp)]
                  exact wpAny_pure ⟨rfl, pre ++ [i], z', by rw [stay hf]⟩
              · rw [if_neg hh]
                have hkk : ¬ x.1 = k := fun e => hh (by show (NestedKey.hash w x.1 == _) = true; rw [e]; simp)
                rw [decide_eq_false hkk] at hf
                exact wpAny_pure ⟨rfl, pre ++ [i], z', by rw [stay hf]⟩
          · rintro b s' ⟨rfl, pre, z, rfl⟩
            rw [List.append_nil] at z
            rw [z] at h
            exact wpAny_pure h
  · unfold dictFind
    try with_reducible refine wpAny_holding ?_
    refine wpAny_bind (wpAny_dictEntries ho hd ?_)
    dsimp only
    rw [if_neg (by simp [carriedByValue])]
    rw [if_neg ?_]
    · by_cases hone : ((codes es (k.hash w)).filterMap (fun i => es[i]?.map (·.key)) == [Value.ref a]) = true
      · rw [if_pos hone]
        refine wpAny_bind (wpAny_pure ?_)
        rw [if_neg (by simp)]
        refine wpAny_bind (wpAny_forIn_list _ (fun rest b s' => s' = s ∧ ∃ pre, codes es (k.hash w) = pre ++ rest ∧ b = (none, pre.find? (hits xs k))) _ ?_ ?_ _ _ ⟨rfl, [], rfl, rfl⟩)
        · rintro i rest b s' ⟨rfl, pre, z, rfl⟩
          have z' : codes es (k.hash w) = (pre ++ [i]) ++ rest := by rw [z, List.append_assoc]; rfl
          have stay : hits xs k i = false → (pre ++ [i]).find? (hits xs k) = pre.find? (hits xs k) := by
            intro hf
            rw [List.find?_append, List.find?_cons, hf]
            simp
          have new : hits xs k i = true → pre.find? (hits xs k) = none := by
            intro hf
            cases hp : pre.find? (hits xs k) with
            | none => rfl
            | some j =>
              have hj := List.find?_some hp
              have hj2 := List.mem_of_find?_eq_some hp
              have := one_place hn hj hf
              subst this
              have nd := codes_nodup es (k.hash w)
              rw [z] at nd
              exact absurd rfl ((List.nodup_append.mp nd).2.2 j hj2 j List.mem_cons_self)
          cases e : xs[i]? with
          | none =>
            have hf : hits xs k i = false := by unfold hits; rw [e]; rfl
            rw [at_ i, e]
            exact wpAny_pure ⟨rfl, pre ++ [i], z', by rw [stay hf]⟩
          | some x =>
            have hf : hits xs k i = decide (x.1 = k) := by unfold hits; rw [e]; rfl
            rw [at_ i, e]
            show wpAny _ _ (if ((entry w x).hash == k.hash w) = true then _ else _) _ E _
            by_cases hh : ((entry w x).hash == k.hash w) = true
            · rw [if_pos hh]
              refine wpAny_bind (wpAny_dictEpoch ho hd (wpAny_bind (same_key (x := x.1) (y := k) hu (his x (List.mem_of_getElem? e)) hk (wpAny_bind (wpAny_dictEpoch ho hd ?_)))))
              show wpAny _ _ (if (ep != ep) = true then _ else _) _ E _
              rw [if_neg (by simp)]
              by_cases hkk : x.1 = k
              · rw [decide_eq_true hkk] at hf ⊢
                rw [if_pos rfl, new hf, if_neg (by simp)]
                refine wpAny_bind (wpAny_rule ?_)
                split
                · exact wpAny_pure (wpAny_pure (by rw [place_some hn hf] at h0; exact h0))
                · refine wpAny_pure ⟨rfl, pre ++ [i], z', ?_⟩
                  rw [List.find?_append, new hf, List.find?_cons, hf]
                  rfl
              · rw [decide_eq_false hkk] at hf ⊢
                rw [if_neg (by simp)]
                refine wpAny_bind (wpAny_rule ?_)
                rw [if_neg (by simp)]
                exact wpAny_pure ⟨rfl, pre ++ [i], z', by rw [stay hf]⟩
            · rw [if_neg hh]
              have hkk : ¬ x.1 = k := fun e => hh (by show (NestedKey.hash w x.1 == _) = true; rw [e]; simp)
              rw [decide_eq_false hkk] at hf
              exact wpAny_pure ⟨rfl, pre ++ [i], z', by rw [stay hf]⟩
        · rintro b s' ⟨rfl, pre, z, rfl⟩
          rw [List.append_nil] at z
          rw [z] at h
          exact wpAny_pure h
      · rw [if_neg hone]
        refine wpAny_bind (tells_not hk hst ?_)
        rw [if_neg (by simp)]
        refine wpAny_bind (wpAny_forIn_list _ (fun rest b s' => s' = s ∧ ∃ pre, codes es (k.hash w) = pre ++ rest ∧ b = (none, pre.find? (hits xs k))) _ ?_ ?_ _ _ ⟨rfl, [], rfl, rfl⟩)
        · rintro i rest b s' ⟨rfl, pre, z, rfl⟩
          have z' : codes es (k.hash w) = (pre ++ [i]) ++ rest := by rw [z, List.append_assoc]; rfl
          have stay : hits xs k i = false → (pre ++ [i]).find? (hits xs k) = pre.find? (hits xs k) := by
            intro hf
            rw [List.find?_append, List.find?_cons, hf]
            simp
          have new : hits xs k i = true → pre.find? (hits xs k) = none := by
            intro hf
            cases hp : pre.find? (hits xs k) with
            | none => rfl
            | some j =>
              have hj := List.find?_some hp
              have hj2 := List.mem_of_find?_eq_some hp
              have := one_place hn hj hf
              subst this
              have nd := codes_nodup es (k.hash w)
              rw [z] at nd
              exact absurd rfl ((List.nodup_append.mp nd).2.2 j hj2 j List.mem_cons_self)
          cases e : xs[i]? with
          | none =>
            have hf : hits xs k i = false := by unfold hits; rw [e]; rfl
            rw [at_ i, e]
            exact wpAny_pure ⟨rfl, pre ++ [i], z', by rw [stay hf]⟩
          | some x =>
            have hf : hits xs k i = decide (x.1 = k) := by unfold hits; rw [e]; rfl
            rw [at_ i, e]
            show wpAny _ _ (if ((entry w x).hash == k.hash w) = true then _ else _) _ E _
            by_cases hh : ((entry w x).hash == k.hash w) = true
            · rw [if_pos hh]
              refine wpAny_bind (wpAny_dictEpoch ho hd (wpAny_bind (same_key (x := x.1) (y := k) hu (his x (List.mem_of_getElem? e)) hk (wpAny_bind (wpAny_dictEpoch ho hd ?_)))))
              show wpAny _ _ (if (ep != ep) = true then _ else _) _ E _
              rw [if_neg (by simp)]
              by_cases hkk : x.1 = k
              · rw [decide_eq_true hkk] at hf ⊢
                rw [if_pos rfl, new hf, if_neg (by simp)]
                refine wpAny_bind (wpAny_rule ?_)
                split
                · exact wpAny_pure (wpAny_pure (by rw [place_some hn hf] at h0; exact h0))
                · refine wpAny_pure ⟨rfl, pre ++ [i], z', ?_⟩
                  rw [List.find?_append, new hf, List.find?_cons, hf]
                  rfl
              · rw [decide_eq_false hkk] at hf ⊢
                rw [if_neg (by simp)]
                refine wpAny_bind (wpAny_rule ?_)
                rw [if_neg (by simp)]
                exact wpAny_pure ⟨rfl, pre ++ [i], z', by rw [stay hf]⟩
            · rw [if_neg hh]
              have hkk : ¬ x.1 = k := fun e => hh (by show (NestedKey.hash w x.1 == _) = true; rw [e]; simp)
              rw [decide_eq_false hkk] at hf
              exact wpAny_pure ⟨rfl, pre ++ [i], z', by rw [stay hf]⟩
        · rintro b s' ⟨rfl, pre, z, rfl⟩
          rw [List.append_nil] at z
          rw [z] at h
          exact wpAny_pure h
    · rw [← Array.any_toList, List.any_eq_true]
      rintro ⟨e, hin, hc⟩
      obtain ⟨x, hx, rfl⟩ := hm e (Array.mem_toList_iff.mp hin)
      simp only [entry, Bool.and_eq_true, beq_iff_eq, bne_iff_ne, ne_eq] at hc
      obtain ⟨hxa, hne⟩ := hc
      have := his x hx
      rw [hxa] at this
      exact hne (by rw [NestedIs.inj _ _ _ this.1 hk.1])
/-! ### d[k], d[k] = v, d.get(k) -/
def at_ (xs : List Ro) (k : Ky) : Option Value := (place xs k).bind fun i => (xs[i]?).map (·.2.2)
def stored (xs : List Ro) (k : Ky) (v u : Value) : List Ro :=
  match place xs k with
  | some i => xs.modify i fun x => (x.1, x.2.1, u)
  | none => xs ++ [(k, v, u)]
theorem IsKey.keep {h h' : Heap} {k : Ky} {v : Value} {d : Addr} {o : Obj} {es ep} (x : IsKey h k v) (ho : h.get? d = some o) (hd : o.data = .dict es ep) (hs : Heap.SameBut d h h') : IsKey h' k v :=
  ⟨NestedIs.at (fun b ob vs n hb hc => by
    refine (hs.2 b fun e => ?_).trans hb
    subst e
    rw [ho] at hb
    cases hb
    rw [hd] at hc
    cases hc) k _ x.1, x.2⟩
variable {d : Addr} {v : Value} {k : Ky} {xs : List Ro}
theorem Stands.typeIs (hm : Stands w s.heap d xs) : s.TypeIs (.ref d) "dict" :=
  let ⟨o, _, _, ho, hc, _⟩ := hm; ⟨o, ho, hc.1⟩
theorem dictGet_v {Q : Option Value → Shared → Prop} (hu : A.units + 8 < cLine) (hk : IsKey s.heap k v) (hv : Shape v) (hm : Stands w s.heap d xs) (h : Q (at_ xs k) { s with toks := s.toks + k.draws }) : wpAny (model prog w) A (dictGet d v) Q E s := by
  obtain ⟨o, es, ep, ho, _, hd, he, his, hn⟩ := hm
  have at_ : ∀ i, es[i]? = (xs[i]?).map (entry w) := fun i => by rw [← Array.getElem?_toList, he, List.getElem?_map]
  unfold dictGet
  try with_reducible refine wpAny_holding ?_
  refine wpAny_bind (pyHash_key k v A s _ hk.1 (by have := hk.2; omega) (wpAny_bind (dictFind_v (s := { s with toks := s.toks + k.draws }) hu hk hv ho hd he his hn ?_)))
  unfold VK.at_ at h
  cases hp : place xs k with
  | none => rw [hp] at h; exact wpAny_pure h
  | some i =>
    rw [hp] at h
    refine wpAny_bind (wpAny_dictEntries (s := { s with toks := s.toks + k.draws }) ho hd ?_)
    rw [at_ i]
    have e : ((xs[i]?).map (entry w)).map (·.val) = (xs[i]?).map (·.2.2) := by rw [Option.map_map]; rfl
    rw [e]
    exact wpAny_pure h
theorem stored_keys_old {i : Nat} {u : Value} : (xs.modify i fun x => (x.1, x.2.1, u)).map (·.1) = xs.map (·.1) := by
  refine List.ext_getElem? fun j => ?_
  rw [List.getElem?_map, List.getElem?_map, List.getElem?_modify]
  cases xs[j]? with
  | none => rfl
  | some x => by_cases e : i = j <;> simp [e]
theorem dictSet_v {u : Value} {Q : Unit → Shared → Prop} (hu : A.units + 8 < cLine) (hk : IsKey s.heap k v) (hv : Shape v) (hm : Stands w s.heap d xs)
    (hQ : ∀ h', Stands w h' d (stored xs k v u) → Heap.SameBut d s.heap h' → Q () { s with heap := h', toks := s.toks + k.draws }) (hsz : xs.length ≤ sizeLine) : wpAny (model prog w) A (dictSet d v u) Q E s := by
  obtain ⟨o, es, ep, ho, hc, hd, he, his, hn⟩ := hm
  have hl : es.size = xs.length := by rw [← Array.length_toList, he, List.length_map]
  unfold dictSet
  try with_reducible refine wpAny_holding ?_
  refine wpAny_bind (pyHash_key k v A s _ hk.1 (by have := hk.2; omega) ?_)
  unfold dictSetHashed
  try with_reducible refine wpAny_holding ?_
  refine wpAny_bind (dictFind_v (s := { s with toks := s.toks + k.draws }) hu hk hv ho hd he his hn ?_)
  unfold stored at hQ
  cases hp : place xs k with
  | none =>
    rw [hp] at hQ
    refine wpAny_bind (wpAny_rule (wpAny_updateDictKeys (hz := by omega) (s := { s with toks := s.toks + k.draws }) ho hd (hQ _ ⟨_, _, ep + 1, Heap.get?_update_self _ ho (Obj.isFreed_of_dict (Obj.data_mapDictKeys hd _)),
      hc.mapDictKeys _, Obj.data_mapDictKeys hd _, ?_, ?_, ?_⟩ (Heap.SameBut.update ..))))
    · simp [he, entry]
    · intro x hx
      rcases List.mem_append.mp hx with hx | hx
      · exact (his x hx).keep ho hd (Heap.SameBut.update ..)
      · rw [List.mem_singleton.mp hx]
        exact hk.keep ho hd (Heap.SameBut.update ..)
    · rw [List.map_append, List.nodup_append]
      refine ⟨hn, by simp, fun x hx y hy e => ?_⟩
      rw [List.map_cons, List.map_nil, List.mem_singleton] at hy
      rw [hy] at e
      subst e
      obtain ⟨z, hz, ez⟩ := List.mem_map.mp hx
      obtain ⟨j, hj⟩ := List.mem_iff_getElem?.mp hz
      rw [place, List.find?_eq_none] at hp
      refine hp j (List.mem_range.mpr (List.getElem?_eq_some_iff.mp hj).1) ?_
      unfold hits
      rw [hj]
      simpa using ez
  | some i =>
    rw [hp] at hQ
    refine wpAny_bind (wpAny_rule (wpAny_bind (wpAny_updateDict (s := { s with toks := s.toks + k.draws }) ho hd (wpAny_point (hQ _ ⟨_, _, ep, Heap.get?_update_self _ ho (Obj.isFreed_of_dict (Obj.data_mapDict hd _)),
      hc.mapDict _, Obj.data_mapDict hd _, ?_, ?_, ?_⟩ (Heap.SameBut.update ..))))))
    · refine List.ext_getElem? fun j => ?_
      rw [Array.getElem?_toList, Array.getElem?_modify, List.getElem?_map, List.getElem?_modify, ← Array.getElem?_toList, he, List.getElem?_map]
      cases xs[j]? with
      | none => by_cases e : i = j <;> simp [e]
      | some x => by_cases e : i = j <;> simp [e, entry]
    · intro x hx
      obtain ⟨j, hj⟩ := List.mem_iff_getElem?.mp hx
      rw [List.getElem?_modify] at hj
      cases e : xs[j]? with
      | none => rw [e] at hj; cases hj
      | some y =>
        rw [e] at hj
        have hy := his y (List.mem_of_getElem? e)
        have e3 : x.1 = y.1 ∧ x.2.1 = y.2.1 := by
          by_cases e2 : i = j
          · simp [e2] at hj; rw [← hj]; exact ⟨rfl, rfl⟩
          · simp [e2] at hj; rw [← hj]; exact ⟨rfl, rfl⟩
        rw [e3.1, e3.2]
        exact hy.keep ho hd (Heap.SameBut.update ..)
    · rw [stored_keys_old]; exact hn
theorem getItem_v {u : Value} {Q : Value → Shared → Prop} (hu : A.in1.units + 8 < cLine) (hk : IsKey s.heap k v) (hv : Shape v) (hm : Stands w s.heap d xs) (hp : at_ xs k = some u)
    (h : Q u { s with toks := s.toks + k.draws }) : wpAny (model prog w) A (getItem (.ref d) v) Q E s := by
  unfold getItem
  try with_reducible refine wpAny_holding ?_
  refine wpAny_bind (wpAny_sequenceKey hm.typeIs (by decide) ?_)
  refine wpAny_bind (wpAny_callSpecial?_slot (name := Str.ofString "__getitem__") hm.typeIs slot_dict_getitem
    (wpAny_call_entry slot_dict_getitem hm.typeIs entry_dict_getitem ?_ (args_dict_getitem _ _)))
  show wpAny _ _ (dictGet d v >>= _) _ _ s
  refine wpAny_bind (dictGet_v hu hk hv hm ?_)
  rw [hp]
  exact wpAny_pure ⟨u, rfl, wpAny_pure h⟩
theorem setItem_v {u : Value} {Q : Unit → Shared → Prop} (hu : A.in1.units + 8 < cLine) (hk : IsKey s.heap k v) (hv : Shape v) (hm : Stands w s.heap d xs)
    (hQ : ∀ h', Stands w h' d (stored xs k v u) → Heap.SameBut d s.heap h' → Q () { s with heap := h', toks := s.toks + k.draws }) (hsz : xs.length ≤ sizeLine) : wpAny (model prog w) A (setItem (.ref d) v u) Q E s := by
  unfold setItem
  try with_reducible refine wpAny_holding ?_
  refine wpAny_bind (wpAny_sequenceKey hm.typeIs (by decide) ?_)
  refine wpAny_bind (wpAny_callSpecial?_slot (name := Str.ofString "__setitem__") hm.typeIs slot_dict_setitem
    (wpAny_call_entry slot_dict_setitem hm.typeIs entry_dict_setitem ?_ (args_dict_setitem _ _ _)))
  show wpAny _ _ (Builtin.Dict.notOrdered "__setitem__" ⟨[.ref d, v, u], []⟩ >>= _) _ _ s
  refine wpAny_bind (wpAny_notOrdered_dict hm.typeIs ?_)
  show wpAny _ _ (dictSet d v u >>= _) _ _ s
  exact wpAny_bind (dictSet_v hu hk hv hm (fun h' hm' hs' => wpAny_pure ⟨.none, rfl, wpAny_pure (hQ h' hm' hs')⟩) hsz)
theorem new_v (h : Heap) : Stands w (h.push { cls := .type "dict", data := .dict #[] }) h.objs.size [] :=
  ⟨_, #[], 0, Heap.get?_push_size _ rfl, ⟨rfl, rfl, rfl⟩, rfl, rfl, (fun _ hx => nomatch hx), List.nodup_nil⟩
theorem meets_get (hd : (d == sysModules) = false) :
    MeetsIn prog w (Builtin.«dict.get» ⟨[.ref d, v], []⟩) (fun A R s => A.in1.units + 8 < cLine ∧ Shape v ∧ ∃ k xs, IsKey s.heap k v ∧ Stands w s.heap d xs ∧
      R (.ok (.ret ((at_ xs k).getD .none))) { s with toks := s.toks + k.draws }) :=
  .of_wp fun A R s ⟨hu, hv, k, xs, hk, hm, h⟩ => by
    show wpAny _ _ (dictGet d v >>= _) _ _ s
    refine wpAny_bind (dictGet_v hu hk hv hm ?_)
    cases hf : at_ xs k with
    | some u =>
      rw [hf] at h
      exact wpAny_pure ⟨u, rfl, h⟩
    | none =>
      rw [hf] at h
      show wpAny _ _ (Builtin.Dict.missed d v >>= _) _ _ _
      exact wpAny_bind (wpAny_missed_other hd (wpAny_pure ⟨.none, rfl, h⟩))
end
end VK

namespace G.VD
open PySem PySem.Spec PyProof.Rows L2 G
/-! ### dicts with texts and (text, number) tuples side by side as keys -/
abbrev Ky := VK.Ky
/-- an entry: the key, the key's value, the value -/
abbrev E3 := Ky × V × V
def KyV (K : PySem.W.Frag) (H : Hp) (k : Ky) (v : V) : Prop := (∃ x, k = .text x ∧ v = .str x) ∨ ∃ x i t, k = .tup [.text x, .num i] ∧ v = .ref t ∧ SqT K H t [.str x, .int i]
theorem KyV.mono {K : PySem.W.Frag} {H H' : Hp} {k : Ky} {v : V} (h : KyV K H k v) (e : Tp H H') : KyV K H' k v := by
  rcases h with h | ⟨x, i, t, a, b, c⟩
  · exact .inl h
  · exact .inr ⟨x, i, t, a, b, e.sqt c⟩
def Ent (p : E3) (q : VK.Ro) : Prop := p.1 = q.1 ∧ RelV p.2.1 q.2.1 ∧ RelV p.2.2 q.2.2
def RawK (w : World) (h : Heap) (a : Addr) (ys : List VK.Ro) : Prop := ∃ o es ep, h.get? a = some o ∧ o.ExactDict ∧ o.data = .dict es ep ∧ es.toList = ys.map (VK.entry w) ∧ (ys.map (·.1)).Nodup
def MxO (w : World) (a : Addr) (xs : List E3) : HO := .ext fun h => (a == sysModules) = false ∧ xs.length ≤ sizeLine ∧ ∃ ys, Paired Ent xs ys ∧ RawK w h a ys
theorem mxO_new {P : Program} {w : World} {H : Hp} {h : Heap} {a : Addr} {xs : List E3} {ys : List VK.Ro} (sm : (a == sysModules) = false) (le : xs.length ≤ sizeLine) (pr : Paired Ent xs ys) (raw : RawK w h a ys) : ObjOk P w H h a (MxO w a xs) := by
  have ⟨o, es, ep, oh, r⟩ := raw
  exact ⟨⟨sm, le, ys, pr, raw⟩, ⟨o, oh⟩, fun h1 h2 ⟨z1, z2, zs, z3, o1, es1, ep1, g1, z4⟩ up => ⟨z1, z2, zs, z3, o1, es1, ep1, up _ g1, z4⟩⟩
theorem ent_keys : ∀ {xs : List E3} {ys : List VK.Ro}, Paired Ent xs ys → ys.map (·.1) = xs.map (·.1)
  | _, _, .nil => rfl
  | _, _, .cons r t => by rw [List.map_cons, List.map_cons, ent_keys t, r.1]
theorem ent_len : ∀ {xs : List E3} {ys : List VK.Ro}, Paired Ent xs ys → ys.length = xs.length
  | _, _, .nil => rfl
  | _, _, .cons _ t => congrArg Nat.succ (ent_len t)
theorem ent_app {p : E3} {q : VK.Ro} (h : Ent p q) : ∀ {xs : List E3} {ys : List VK.Ro}, Paired Ent xs ys → Paired Ent (xs ++ [p]) (ys ++ [q])
  | _, _, .nil => .cons h .nil
  | _, _, .cons r t => .cons r (ent_app h t)
theorem ent_at : ∀ {xs : List E3} {ys : List VK.Ro} {i : Nat} {x : E3}, Paired Ent xs ys → xs[i]? = some x → ∃ y, ys[i]? = some y ∧ Ent x y
  | _ :: _, _ :: _, 0, _, .cons r _, h => by cases h; exact ⟨_, rfl, r⟩
  | _ :: _, _ :: _, i + 1, _, .cons _ t, h => ent_at (i := i) t (by simpa using h)
theorem ent_ref : ∀ {xs : List E3} {ys : List VK.Ro}, Paired Ent xs ys → ∀ y ∈ ys, ∃ x ∈ xs, Ent x y
  | _, _, .nil, y, hy => nomatch hy
  | x :: _, _ :: _, .cons r t, y, hy => by
    rcases List.mem_cons.mp hy with rfl | hy
    · exact ⟨x, List.mem_cons_self, r⟩
    · obtain ⟨z, hz, e⟩ := ent_ref t y hy
      exact ⟨z, List.mem_cons_of_mem _ hz, e⟩
/-- what such a dict has at a key -/
def getK (kvs : List (Ky × V)) (k : Ky) : Option V := (kvs.find? fun x => decide (x.1 = k)).map (·.2)
theorem getK_cons (x : Ky × V) (kvs : List (Ky × V)) (k : Ky) : getK (x :: kvs) k = if x.1 = k then some x.2 else getK kvs k := by
  unfold getK
  rw [List.find?_cons]
  by_cases h : x.1 = k
  · rw [if_pos h, decide_eq_true h]
    rfl
  · rw [if_neg h, decide_eq_false h]
theorem getK_at : ∀ {kvs : List (Ky × V)} {k : Ky} {v : V}, getK kvs k = some v → ∃ i : Nat, kvs[i]? = some (k, v)
  | [], _, _, h => by cases h
  | x :: kvs, k, v, h => by
    rw [getK_cons] at h
    by_cases e : x.1 = k
    · rw [if_pos e] at h
      cases h
      exact ⟨0, by rw [← e]; rfl⟩
    · rw [if_neg e] at h
      obtain ⟨i, hi⟩ := getK_at h
      exact ⟨i + 1, by simpa using hi⟩
theorem getK_no : ∀ {kvs : List (Ky × V)} {k : Ky}, getK kvs k = none → k ∉ kvs.map (·.1)
  | [], _, _ => List.not_mem_nil
  | x :: kvs, k, h => by
    rw [getK_cons] at h
    by_cases e : x.1 = k
    · rw [if_pos e] at h; cases h
    · rw [if_neg e] at h
      intro z
      rcases List.mem_cons.mp z with z | z
      · exact e z.symm
      · exact getK_no h z
theorem pl_at {xs : List E3} {ys : List VK.Ro} (pr : Paired Ent xs ys) (nd : (ys.map (·.1)).Nodup) {k : Ky} {v : V} (g : getK (xs.map fun x => (x.1, x.2.2)) k = some v) : ∃ u, VK.at_ ys k = some u ∧ RelV v u := by
  obtain ⟨i, hi⟩ := getK_at g
  rw [List.getElem?_map] at hi
  cases e : xs[i]? with
  | none => rw [e] at hi; cases hi
  | some x =>
    rw [e] at hi
    have hi : (x.1, x.2.2) = (k, v) := by simpa using hi
    cases hi
    obtain ⟨y, hy, e1, _, e3⟩ := ent_at pr e
    have hh : VK.hits ys x.1 i = true := by
      unfold VK.hits
      rw [hy]
      exact decide_eq_true e1.symm
    refine ⟨y.2.2, ?_, e3⟩
    unfold VK.at_
    rw [VK.place_some nd hh, Option.bind_some, hy]
    rfl
theorem not_at {ys : List VK.Ro} {k : Ky} (h : k ∉ ys.map (·.1)) : VK.place ys k = none := by
  refine VK.place_none fun i => ?_
  unfold VK.hits
  cases e : ys[i]? with
  | none => rfl
  | some y => exact decide_eq_false fun z => h (List.mem_map.mpr ⟨y, List.mem_of_getElem? e, z⟩)
section
variable {X : Cx} {pins : List (Addr × Obj)} {σ : L2.St} {H : Hp} {s : Shared}
theorem inv_key (J : Inv X pins σ H s) {k : Ky} {v : V} {u : Value} (h : KyV X.K H k v) (r : RelV v u) : VK.IsKey s.heap k u ∧ VK.Shape u := by
  rcases h with ⟨x, rfl, rfl⟩ | ⟨x, i, t, rfl, rfl, h⟩
  · obtain ⟨tk, rfl⟩ := r
    exact ⟨⟨.text x tk, Nat.zero_le _⟩, .inl ⟨x, tk, rfl⟩⟩
  · cases r
    obtain ⟨its, r, ⟨o, oh, oc, n, od⟩, _⟩ := J.tuple h
    cases r with
    | cons r1 r =>
      cases r with
      | cons r2 r =>
        cases r
        obtain ⟨t1, rfl⟩ := r1
        obtain ⟨t2, rfl⟩ := r2
        exact ⟨⟨.tup oh oc od (by simpa using NestedAll.cons (.text x t1) (.cons (.int i t2) .nil)), by show 1 ≤ 8; decide⟩, .inr ⟨t, rfl⟩⟩
theorem dct_of (J : Inv X pins σ H s) {a : Addr} {xs : List E3} (ha : H a = some (MxO X.w a xs)) (hx : ∀ x ∈ xs, KyV X.K H x.1 x.2.1) : (a == sysModules) = false ∧ xs.length ≤ sizeLine ∧ ∃ ys, Paired Ent xs ys ∧ VK.Stands X.w s.heap a ys := by
  obtain ⟨⟨sm, le, ys, pr, o, es, ep, oh, ex, od, ee, nd⟩, _⟩ := J.hok a _ ha
  refine ⟨sm, le, ys, pr, o, es, ep, oh, ex, od, ee, fun y hy => ?_, nd⟩
  obtain ⟨x, hx', e1, e2, _⟩ := ent_ref pr y hy
  rw [← e1]
  exact (inv_key J (hx x hx') e2).1
theorem dct_write (J : Inv X pins σ H s) {a : Addr} {xs zs : List E3} {ys : List VK.Ro} {h' : Heap} {tk : Nat} (ha : H a = some (MxO X.w a xs)) (sm : (a == sysModules) = false) (le : zs.length ≤ sizeLine) (pr : Paired Ent zs ys) (dd : VK.Stands X.w h' a ys) (sb : Heap.SameBut a s.heap h') : Inv X pins σ (upd H a (MxO X.w a zs)) { s with heap := h', toks := tk } := by
  obtain ⟨o, es, ep, oh, ex, od, ee, _, nd⟩ := dd
  exact d_write (t' := tk) J (by rw [ha]; exact True.intro) sb ⟨o, oh⟩ (mxO_new sm le pr ⟨o, es, ep, oh, ex, od, ee, nd⟩)
/-- d[k] = v, k a new key -/
def rPutM (K : PySem.W.Frag) (w : World) : TSet := fun o i v H Q => ∃ a k xs, o = .ref a ∧ H a = some (MxO w a xs) ∧ (∀ x ∈ xs, KyV K H x.1 x.2.1) ∧ KyV K H k i ∧ k ∉ xs.map (·.1) ∧ xs.length < sizeLine ∧ Q (upd H a (MxO w a (xs ++ [(k, i, v)])))
theorem set_m (hu : X.A.units + 9 < cLine) : PSet X (rPutM X.K X.w) := by
  rintro pins s σ H o i v ov iv u Q J ro ri rv ⟨a, k, xs, rfl, ha, hx, hk, new, le, q⟩
  cases ro
  obtain ⟨sm, _, ys, pr, dd⟩ := dct_of J ha hx
  have en : VK.stored ys k iv u = ys ++ [(k, iv, u)] := by
    unfold VK.stored
    rw [not_at (by rw [ent_keys pr]; exact new)]
  refine VK.setItem_v (by show X.A.units + 1 + 8 < cLine; omega) (inv_key J hk ri).1 (inv_key J hk ri).2 dd (fun h' dd' sb => ?_) (by rw [ent_len pr]; omega)
  rw [en] at dd'
  exact ⟨_, dct_write J ha sm (by rw [List.length_append]; exact le) (ent_app (p := (k, i, v)) ⟨rfl, ri, rv⟩ pr) dd' sb, q⟩
def rGetM (K : PySem.W.Frag) (w : World) : R2 := fun x y H Q => ∃ a k xs v, x = .ref a ∧ H a = some (MxO w a xs) ∧ (∀ x ∈ xs, KyV K H x.1 x.2.1) ∧ KyV K H k y ∧ getK (xs.map fun x => (x.1, x.2.2)) k = some v ∧ Q v H
theorem ix_m (hu : X.A.units + 9 < cLine) : IxR X (rGetM X.K X.w) := by
  rintro value slice pins s σ H x y v u Q J rx ry ⟨a, k, xs, z, rfl, ha, hx, hk, g, q⟩ hs
  cases rx
  obtain ⟨sm, _, ys, pr, dd⟩ := dct_of J ha hx
  have ⟨_, _, _, _, _, _, _, _, nd⟩ := dd
  obtain ⟨u', hp, rv⟩ := pl_at pr nd g
  exact subscriptTail_builtinR (x := u') dd.typeIs PySem.F.slot_dict_getitem.lookup (VK.getItem_v (by show X.A.units + 1 + 8 < cLine; omega) (inv_key J hk ry).1 (inv_key J hk ry).2 dd hp ⟨rfl, z, H, J.tok _, rv, q⟩) hs
/-- d.get(k) -/
def tGetM (K : PySem.W.Frag) (w : World) (td ty : TE) : TE := fun σ H Q => td σ H fun x H1 => ∃ a xs, x = .ref a ∧ H1 a = some (MxO w a xs) ∧ (∀ x ∈ xs, KyV K H1 x.1 x.2.1) ∧ ty σ H1 fun y H2 => H2 a = some (MxO w a xs) ∧ (∀ x ∈ xs, KyV K H2 x.1 x.2.1) ∧ ∃ k, KyV K H2 k y ∧ Q ((getK (xs.map fun x => (x.1, x.2.2)) k).getD .non) H2
theorem pe_getM {o e : Expr} {apos cpos : Pos} {td ty : TE} (hu : X.A.units + 10 < cLine) (ho : PE X o td) (he : PE X e ty) (m : M1 X o "get" apos e cpos) : PE X (.Call (.Attribute o "get" apos) [e] [] cpos) (tGetM X.K X.w td ty) := by
  refine ⟨fun pins s σ H Q I h => ?_⟩
  refine wpAny_Call_method m.base m.few m.line PySem.F.plainAttrs_dict PySem.F.slot_dict_get PySem.F.type_dict_get (thn (ho.run pins s σ H _ I h) fun u s1 ⟨x, H1, I1, rx, a, xs, ex, ha, hx, q1⟩ => ?_)
  subst ex
  obtain rfl : u = Value.ref a := rx
  obtain ⟨_, _, ys, pr, dd⟩ := dct_of I1 ha hx
  have ⟨ob, es, ep, oh, oc, _⟩ := dd
  refine ⟨dd.typeIs, ?_, ?_⟩
  · exact fun b q => by cases q; exact ⟨ob, oh, oc.2.1⟩
  rw [m.trees]
  refine Calls.callWith_builtin rfl (Calls.evalArgs_plain (Calls.spliced_cons (thn (he.run pins s1 σ H1 _ I1 q1) fun iv s2 ⟨y, H2, I2, ry, ha2, hx2, k, hk, q2⟩ => Calls.spliced_nil ?_)))
  obtain ⟨sm, _, zs, pr2, dd2⟩ := dct_of I2 ha2 hx2
  refine call_meetsIn PySem.F.slot_dict_get dd2.typeIs PySem.F.entry_dict_get (PySem.F.args_dict_get_2 _ _) (VK.meets_get sm) ⟨by show X.A.units + 1 + 8 < cLine; omega, (inv_key I2 hk ry).2, k, zs, (inv_key I2 hk ry).1, dd2, _, H2, I2.tok _, ?_, q2⟩
  have ⟨_, _, _, _, _, _, _, _, nd⟩ := dd2
  cases g : getK (xs.map fun x => (x.1, x.2.2)) k with
  | some v =>
    obtain ⟨u, hu', rv⟩ := pl_at pr2 nd g
    rw [hu']
    exact rv
  | none =>
    have hn := getK_no g
    rw [List.map_map] at hn
    unfold VK.at_
    rw [not_at (by rw [ent_keys pr2]; exact hn)]
    rfl
end
/-! ### as steps -/
/-- a dict of this kind stands at a -/
def IsM (c : Md) (H : Hp) (a : Addr) (kvs : List (Ky × V)) : Prop := ∃ xs, H a = some (MxO c.w a xs) ∧ (∀ x ∈ xs, KyV c.K H x.1 x.2.1) ∧ kvs = xs.map fun x => (x.1, x.2.2)
theorem IsM.kp {c : Md} {H H' : Hp} {m a : Addr} {kvs : List (Ky × V)} (h : IsM c H a kvs) (k : Kp m H H') (ne : a ≠ m) : IsM c H' a kvs := by
  obtain ⟨xs, h1, h2, h3⟩ := h
  exact ⟨xs, k.k _ _ ne h1, fun x hx => (h2 x hx).mono k.t, h3⟩
theorem IsM.same {c : Md} {H H' : Hp} {a : Addr} {kvs : List (Ky × V)} (h : IsM c H a kvs) (s : Same H H') : IsM c H' a kvs := by
  obtain ⟨xs, h1, h2, h3⟩ := h
  exact ⟨xs, s _ _ h1, fun x hx => (h2 x hx).mono (tp_same s), h3⟩
theorem IsM.to {c : Md} {H H' : Hp} {a : Addr} {kvs : List (Ky × V)} (h : IsM c H a kvs) (e : ∀ o, H a = some o → H' a = some o) (t : Tp H H') : IsM c H' a kvs := by
  obtain ⟨xs, h1, h2, h3⟩ := h
  exact ⟨xs, e _ h1, fun x hx => (h2 x hx).mono t, h3⟩
section
variable {c : Cd} {σ : L2.St} {H : Hp} {Q : VK} {pos : Pos}
def tMNew (w : World) : TE := fun _ H Q => ∀ p, H p = none → Q (.ref p) (upd H p (MxO w p []))
theorem mxO_empty {P : Program} {w : World} {H : Hp} (h : Heap) (hb : sysModules < h.objs.size) : ObjOk P w H (h.push { cls := .type "dict", data := .dict #[] }) h.objs.size (MxO w h.objs.size []) :=
  mxO_new (beq_eq_false_iff_ne.mpr (Ne.symm (Nat.ne_of_lt hb))) (Nat.zero_le _) .nil ⟨_, #[], 0, Heap.get?_push_size _ rfl, ⟨rfl, rfl, rfl⟩, rfl, rfl, List.nodup_nil⟩
theorem pe_mnew {X : Cx} : PE X (.Dict [] [] pos) (tMNew X.w) := ⟨fun pins s σ H Q J h =>
  wpAny_Dict_empty ⟨.ref s.heap.objs.size, _, J.laid (a := s.heap.objs.size) (o := MxO X.w s.heap.objs.size []) (t' := s.toks) (fun _ _ q => Heap.get?_push_of_some _ q) (Nat.le_refl _) (mxO_empty s.heap J.big), rfl, h _ (J.hok.fresh (Nat.le_refl _))⟩⟩
theorem e_m0 (q : ∀ p H1, Same H H1 → H p = none → IsM c.toMd H1 p [] → Q (.ref p) H1) : RE c (.Dict [] [] pos) σ H Q :=
  re_of (t := tMNew c.w) (fun X h => by rw [← h.w]; exact pe_mnew) fun p hp => q p _ (same_new hp) hp ⟨[], upd_same, (fun _ z => nomatch z), rfl⟩
/-- d[k] = v -/
theorem rp_m {a : Addr} {v x : V} {k : Ky} {kvs : List (Ky × V)} (h : IsM c.toMd H a kvs) (hk : KyV c.K H k x) (new : k ∉ kvs.map (·.1)) (few : kvs.length < 100000) {R : Hp → Prop} (q : ∀ H1, Kp a H H1 → (∀ H0, Same H0 H → H0 a = none → Same H0 H1) → IsM c.toMd H1 a (kvs ++ [(k, v)]) → R H1) : RP c (.ref a) x v H R := by
  obtain ⟨xs, h1, h2, rfl⟩ := h
  rw [List.length_map] at few
  rw [List.map_map] at new
  have kp : Kp a H (upd H a (MxO c.w a (xs ++ [(k, x, v)]))) := kp_upd h1 (fun _ e => nomatch e) (fun _ _ e => nomatch e)
  refine rp_of (r := rPutM c.K c.w) (fun X h => by rw [← h.K, ← h.w]; exact set_m (by have := h.room.units; omega)) ⟨a, k, xs, rfl, h1, h2, hk, new, Nat.lt_of_lt_of_le few (by decide), q _ kp (fun H0 s n => same_mut s n) ⟨xs ++ [(k, x, v)], upd_same, fun y hy => ?_, by rw [List.map_append]; rfl⟩⟩
  rcases List.mem_append.mp hy with hy | hy
  · exact (h2 y hy).mono kp.t
  · rw [List.mem_singleton.mp hy]
    exact hk.mono kp.t
/-- d[k] -/
theorem rx_m {a : Addr} {x v : V} {k : Ky} {kvs : List (Ky × V)} (h : IsM c.toMd H a kvs) (hk : KyV c.K H k x) (g : getK kvs k = some v) (q : Q v H) : RX c (.ref a) x H Q := by
  obtain ⟨xs, h1, h2, rfl⟩ := h
  exact rx_of (r := rGetM c.K c.w) (fun X h => by rw [← h.K, ← h.w]; exact ix_m (by have := h.room.units; omega)) ⟨a, k, xs, v, rfl, h1, h2, hk, g, q⟩
/-- d.get(k) -/
theorem e_getM {o e : Expr} {apos cpos : Pos} (q : RE c o σ H fun x H1 => ∃ a kvs, x = .ref a ∧ IsM c.toMd H1 a kvs ∧ RE c e σ H1 fun y H2 => Same H1 H2 ∧ ∃ k, KyV c.K H2 k y ∧ Q ((getK kvs k).getD .non) H2)
    (hbase : ∀ env, attributeBase o "get" env (eval o env) = eval o env := by intro _; rfl)
    (hfew : ∀ env, ((backTo cpos (starEach [e] env)).all (fun x => !x.1) && (backToKw cpos (keywordEach [] env)).all (fun x => x.1.isSome)
      && decide (([e] : List Expr).length + ([] : List Keyword).length + (if ([] : List Keyword).isEmpty then 0 else 1) < 30)) = true := by intro _; rfl)
    (hline : (apos.endLine == cpos.line) = true := by rfl) (ht : ∀ env, backTo cpos (starEach [e] env) = [(false, eval e env)] := by intro _; rfl) :
    RE c (.Call (.Attribute o "get" apos) [e] [] cpos) σ H Q := by
  refine re_of (t := tGetM c.K c.w (RE c o) (RE c e)) (fun X h => by rw [← h.K, ← h.w]; exact pe_getM (by have := h.room.units; omega) (pe_re h) (pe_re h) ⟨hbase _, hfew _, hline, ht _⟩) ?_
  refine RE.mono (fun x H1 z => ?_) q
  obtain ⟨a, kvs, rfl, ⟨xs, h1, h2, rfl⟩, z⟩ := z
  refine ⟨a, xs, rfl, h1, h2, RE.mono (fun y H2 z => ?_) z⟩
  obtain ⟨s, k, hk, q⟩ := z
  exact ⟨s _ _ h1, fun x hx => (h2 x hx).mono (tp_same s), k, hk, q⟩
end
end G.VD

namespace K
open PySem PySem.Spec PyProof.Rows L2 G G.VD
/-! ### places of cells, as the law tells them -/
def keyOf (r : Row) (j : Nat) : Ky := if r.2.1 = 0 then .text r.1 else .tup [.text r.1, .num (j : Nat)]
def rowK (r : Row) (b n : Nat) : List (Ky × V) := (List.range n).map fun j => (keyOf r j, V.int ((b + j : Nat) : Int))
def pkv : List Row → Nat → List (Ky × V)
  | [], _ => []
  | r :: rs, b => rowK r b (width r) ++ pkv rs (b + width r)
theorem tot_cons (r : Row) (rs : List Row) : total (r :: rs) = width r + total rs := rfl
theorem pkv_app : ∀ (rs qs : List Row) (b : Nat), pkv (rs ++ qs) b = pkv rs b ++ pkv qs (b + total rs)
  | [], qs, b => rfl
  | r :: rs, qs, b => by
    rw [List.cons_append, pkv, pkv, pkv_app rs qs, List.append_assoc, tot_cons, Nat.add_assoc]
theorem rowK_succ (r : Row) (b n : Nat) : rowK r b (n + 1) = rowK r b n ++ [(keyOf r n, V.int ((b + n : Nat) : Int))] := by
  unfold rowK
  rw [List.range_succ, List.map_append]
  rfl
theorem keyOf_name {r q : Row} {i j : Nat} (h : keyOf r i = keyOf q j) : r.1 = q.1 := by
  unfold keyOf at h
  split at h <;> split at h
  · injection h
  · cases h
  · cases h
  · injection h with h
    injection h with h _
    injection h
theorem rowK_mem {r : Row} {b n : Nat} {k : Ky} (h : k ∈ (rowK r b n).map (·.1)) : ∃ j, j < n ∧ k = keyOf r j := by
  unfold rowK at h
  rw [List.map_map] at h
  obtain ⟨j, hj, e⟩ := List.mem_map.mp h
  exact ⟨j, List.mem_range.mp hj, e.symm⟩
theorem pkv_mem : ∀ {rs : List Row} {b : Nat} {k : Ky}, k ∈ (pkv rs b).map (·.1) → ∃ r ∈ rs, ∃ j, k = keyOf r j
  | [], _, _, h => nomatch h
  | r :: rs, b, k, h => by
    rw [pkv, List.map_append] at h
    rcases List.mem_append.mp h with h | h
    · obtain ⟨j, _, e⟩ := rowK_mem h
      exact ⟨r, List.mem_cons_self, j, e⟩
    · obtain ⟨q, hq, j, e⟩ := pkv_mem h
      exact ⟨q, List.mem_cons_of_mem _ hq, j, e⟩
theorem pkv_new {rs : List Row} {i : Nat} {r : Row} {t b : Nat} (nd : (rs.map (·.1)).Nodup) (hr : rs[i]? = some r) (ht : t < width r) : keyOf r t ∉ (pkv (rs.take i) 0 ++ rowK r b t).map (·.1) := by
  intro h
  rw [List.map_append] at h
  rcases List.mem_append.mp h with h | h
  · obtain ⟨q, hq, j, e⟩ := pkv_mem h
    have en := keyOf_name e
    obtain ⟨l, hl⟩ := List.mem_iff_getElem?.mp hq
    rw [List.getElem?_take] at hl
    split at hl
    · rename_i li
      have a : (rs.map (·.1))[l]? = some q.1 := by rw [List.getElem?_map, hl]; rfl
      have b : (rs.map (·.1))[i]? = some q.1 := by rw [List.getElem?_map, hr, ← en]; rfl
      have := (List.getElem?_inj (List.getElem?_eq_some_iff.mp a).1 nd).mp (a.trans b.symm)
      omega
    · cases hl
  · obtain ⟨j, hj, e⟩ := rowK_mem h
    unfold keyOf at e
    split at e
    · rename_i z
      unfold width at ht
      rw [z] at ht
      have : max 1 0 = 1 := rfl
      omega
    · have : (t : Int) = (j : Int) := by
        injection e with e
        injection e with _ e
        injection e with e _
        injection e
      omega
theorem getK_app {kvs us : List (Ky × V)} {k : Ky} : getK (kvs ++ us) k = (getK kvs k).or (getK us k) := by
  induction kvs with
  | nil => rfl
  | cons x kvs ih =>
    rw [List.cons_append, getK_cons, getK_cons, ih]
    by_cases h : x.1 = k
    · rw [if_pos h, if_pos h]; rfl
    · rw [if_neg h, if_neg h]
theorem getK_out {kvs : List (Ky × V)} {k : Ky} (h : k ∉ kvs.map (·.1)) : getK kvs k = none := by
  induction kvs with
  | nil => rfl
  | cons x kvs ih =>
    rw [getK_cons, if_neg fun e => h (by rw [← e]; exact List.mem_cons_self ..)]
    exact ih fun z => h (List.mem_cons_of_mem _ z)
theorem getK_row {r : Row} {b : Nat} {k : Int} (h : ¬ r.2.1 = 0) : ∀ n, getK (rowK r b n) (.tup [.text r.1, .num k]) = if 0 ≤ k ∧ k < n then some (.int (b + k)) else none
  | 0 => by rw [if_neg (by omega)]; rfl
  | n + 1 => by
    have en : ((n + 1 : Nat) : Int) = (n : Int) + 1 := rfl
    rw [rowK_succ, getK_app, getK_row h n, getK_cons, en]
    by_cases c : 0 ≤ k ∧ k < n
    · rw [if_pos c, Option.some_or, if_pos (by omega)]
    · rw [if_neg c]
      show (if keyOf r n = _ then _ else _) = _
      unfold keyOf
      rw [if_neg h]
      by_cases d : (n : Int) = k
      · subst d
        rw [if_pos rfl, if_pos (by omega)]
        show some (V.int _) = _
        congr 2
      · rw [if_neg (by intro e; injection e with e; injection e with _ e; injection e with e _; injection e with e; exact d e), if_neg (by omega)]
        rfl
/-- what the places tell -/
def keyAt (n : Str) : Option Int → Ky
  | none => .text n
  | some k => .tup [.text n, .num k]
theorem keyAt_name {r : Row} {j : Nat} {n : Str} {o : Option Int} (h : keyAt n o = keyOf r j) : r.1 = n := by
  unfold keyOf at h
  cases o with
  | none =>
    split at h
    · injection h with h
      exact h.symm
    · cases h
  | some k =>
    split at h
    · cases h
    · injection h with h
      injection h with h _
      injection h with h
      exact h.symm
theorem getK_pkv : ∀ {rs : List Row} {b : Nat} {n : Str} {o : Option Int}, (rs.map (·.1)).Nodup → getK (pkv rs b) (keyAt n o) = (fIdx rs n o b).map V.int
  | [], _, _, _, _ => rfl
  | r :: rs, b, n, o, nd => by
    rw [List.map_cons, List.nodup_cons] at nd
    rw [pkv, getK_app, fIdx]
    by_cases c : r.1 = n
    · rw [if_pos c]
      subst c
      have rest : getK (pkv rs (b + width r)) (keyAt r.1 o) = none := getK_out fun h => by
        obtain ⟨q, hq, j, e⟩ := pkv_mem h
        exact nd.1 (by rw [← keyAt_name e]; exact List.mem_map.mpr ⟨q, hq, rfl⟩)
      rw [rest, Option.or_none]
      cases o with
      | none =>
        show _ = (if (r.2.1 : Int) = 0 then some (b : Int) else none).map V.int
        by_cases z : r.2.1 = 0
        · rw [if_pos (by omega)]
          have : width r = 1 := by unfold width; rw [z]; rfl
          rw [this]
          show getK [(keyOf r 0, _)] _ = _
          unfold keyOf
          rw [if_pos z, getK_cons]
          show (if NestedKey.text r.1 = NestedKey.text r.1 then _ else _) = _
          rw [if_pos rfl]
          rfl
        · rw [if_neg (by omega)]
          refine getK_out fun h => ?_
          obtain ⟨j, _, e⟩ := rowK_mem h
          unfold keyOf at e
          rw [if_neg z] at e
          cases e
      | some k =>
        show _ = (if 0 ≤ k ∧ k < (r.2.1 : Int) then some ((b : Int) + k) else none).map V.int
        by_cases z : r.2.1 = 0
        · rw [if_neg (by omega)]
          refine getK_out fun h => ?_
          obtain ⟨j, _, e⟩ := rowK_mem h
          unfold keyOf at e
          rw [if_pos z] at e
          cases e
        · have : width r = r.2.1 := by unfold width; omega
          rw [this]
          show getK _ (.tup [.text r.1, .num k]) = _
          rw [getK_row z]
          by_cases c : 0 ≤ k ∧ k < (r.2.1 : Nat)
          · rw [if_pos c, if_pos (by omega)]; rfl
          · rw [if_neg c, if_neg (by omega)]; rfl
    · rw [if_neg c]
      have first : getK (rowK r b (width r)) (keyAt n o) = none := getK_out fun h => by
        obtain ⟨j, _, e⟩ := rowK_mem h
        exact c (keyAt_name e)
      rw [first, Option.none_or, getK_pkv nd.2]
      have : (((b + width r : Nat)) : Int) = (b : Int) + (width r : Int) := by omega
      rw [this]
variable {M : Md}
def spPl (M : Md) : Sp := fun vs H Q _ => ∃ (rs : List Row) (v : V), vs = [v] ∧ Dt M.K H v (cellsD rs) ∧ (rs.map (·.1)).Nodup ∧ total rs ≤ 100 ∧ ∀ p H', Same H H' → H p = none → IsM M H' p (pkv rs 0) → Q (.ref p) H'
abbrev dcPl (M : Md) : Prop := Dc M "_law_places" ["_law_rows_here"] 1 (spPl M)
theorem tot_take {rs : List Row} {i : Nat} {r : Row} (h : rs[i]? = some r) : total (rs.take (i + 1)) = total (rs.take i) + width r := by
  obtain ⟨h1, rfl⟩ := List.getElem?_eq_some_iff.mp h
  rw [List.take_succ_eq_append_getElem h1]
  unfold total
  rw [List.map_append, List.sum_append]
  simp
theorem pkv_take {rs : List Row} {i : Nat} {r : Row} (h : rs[i]? = some r) : pkv (rs.take (i + 1)) 0 = pkv (rs.take i) 0 ++ rowK r (total (rs.take i)) (width r) := by
  obtain ⟨h1, rfl⟩ := List.getElem?_eq_some_iff.mp h
  rw [List.take_succ_eq_append_getElem h1, pkv_app, Nat.zero_add]
  show _ ++ (rowK _ _ _ ++ []) = _
  rw [List.append_nil]
theorem pkv_len : ∀ (rs : List Row) (b : Nat), (pkv rs b).length = total rs
  | [], _ => rfl
  | r :: rs, b => by
    rw [pkv, List.length_append, pkv_len rs, tot_cons]
    unfold rowK
    rw [List.length_map, List.length_range]
theorem ok_places {f fd} (F : Fun M.K "_law_places" "_law_places" s__law_places f fd) (b : Bl M) : FnG M.prog M.w M.K M.mg M.base CX0 1 f fd ["_law_rows_here"] (spPl M) := by
  refine fn_ok F sc__law_places (fun vs H Q E h => ?_) (fun H vs Q E h => ?_)
  · obtain ⟨rs, v, rfl, _⟩ := h
    rfl
  obtain ⟨rs, v, rfl, hc, nd, tot, k⟩ := h
  obtain ⟨a, xs, rfl, hxs, hrs⟩ := hc.tupE
  refine b_cut (fun σ1 H1 => ∃ p, σ1 = [some (.ref a), some (.ref p), some (.int (0 : Nat)), none, none] ∧ Same H H1 ∧ H p = none ∧ IsM M H1 p []) ?_ ?_
  · refine s_par2 (by tm_at "at") (by tm_at "at") (e_m0 fun p H1 s1 np hp => ?_)
    tm_at "go"
    exact ⟨s1, np, hp⟩
  rintro _ H1 ⟨p, rfl, s1, np, hp⟩
  refine b_cut (fun σ1 H2 => ∃ v3 v4, σ1 = [some (.ref a), some (.ref p), some (.int (total rs : Nat)), v3, v4] ∧ Same H H2 ∧ IsM M H2 p (pkv rs 0)) ?_ ?_
  · refine s_forT ?_
    tm_at "s"
    refine ⟨a, xs, rfl, (tp_same s1).sqt hxs, fun i σ1 H2 => ∃ v3 v4, σ1 = [some (.ref a), some (.ref p), some (.int (total (rs.take i) : Nat)), v3, v4] ∧ Same H H2 ∧ IsM M H2 p (pkv (rs.take i) 0), ⟨none, none, rfl, s1, hp⟩, ?_, ?_, ?_⟩
    · rintro i σ' H' _ ⟨v3, v4, rfl, s, _⟩
      exact (tp_same s).sqt hxs
    · rintro i x σ' H' hx ⟨v3, v4, rfl, s, hp'⟩
      obtain ⟨d, hd, hx'⟩ := hrs.getV hx
      rw [List.getElem?_map] at hd
      obtain ⟨r, hr, rfl⟩ := Option.map_eq_some_iff.mp hd
      have hx0 := hx'
      have hx' : Dt M.K H' x (rowD r) := hx'.mono (tp_same s)
      have hr1 : Dt M.K H' x (.tuple [.str r.1, .int r.2.1, .int r.2.2.1, .int r.2.2.2.1, .bool r.2.2.2.2.1, .bool r.2.2.2.2.2.1, .int r.2.2.2.2.2.2]) := hx'
      refine g_name (by tm_at "at") ?_
      refine b_one (s_forR1 b.range ?_)
      tm_at "go"
      have e : (if ((r.2.1 : Nat) : Int) > 1 then ((r.2.1 : Nat) : Int) else 1) = ((width r : Nat) : Int) := by unfold width; split <;> omega
      rw [e]
      have wt := tot_take hr
      have tl : total (rs.take (i + 1)) ≤ 100 := by
        refine Nat.le_trans ?_ tot
        have : total rs = total (rs.take (i + 1)) + total (rs.drop (i + 1)) := by
          unfold total
          rw [← List.sum_append, ← List.map_append, List.take_append_drop]
        omega
      refine ⟨by omega, by omega, fun t σ1 H2 => ∃ v4, σ1 = [some (.ref a), some (.ref p), some (.int ((total (rs.take i) + t : Nat) : Int)), some x, v4] ∧ Same H H2 ∧ IsM M H2 p (pkv (rs.take i) 0 ++ rowK r (total (rs.take i)) t), ⟨v4, rfl, s, by unfold rowK; rw [List.range_zero, List.map_nil, List.append_nil]; exact hp'⟩, ?_, ?_⟩
      · rintro t σ1 H2 ht ⟨v4, rfl, s2, hp2⟩
        have ht : t < width r := by omega
        have hr2 : Dt M.K H2 x (.tuple [.str r.1, .int r.2.1, .int r.2.2.1, .int r.2.2.2.1, .bool r.2.2.2.2.1, .bool r.2.2.2.2.2.1, .int r.2.2.2.2.2.2]) := hx0.mono (tp_same s2)
        have few : (pkv (rs.take i) 0 ++ rowK r (total (rs.take i)) t).length < 100000 := by
          have l1 := pkv_len (rs.take i) 0
          rw [List.length_append, l1]
          unfold rowK
          rw [List.length_map, List.length_range]
          omega
        have new := pkv_new nd hr ht (b := total (rs.take i))
        refine g_name (by tm_at "at") ?_
        refine b_cut (fun σ2 H3 => σ2 = [some (.ref a), some (.ref p), some (.int ((total (rs.take i) + t : Nat) : Int)), some x, some (.int (t : Nat))] ∧ Same H H3 ∧ IsM M H3 p (pkv (rs.take i) 0 ++ rowK r (total (rs.take i)) (t + 1))) ?_ ?_
        · refine s_asg (e_var (by tm_at "at") (g_sub ?_))
          tm_at "go"
          have ez : ((r.2.1 : Nat) : Int) = 0 ↔ r.2.1 = 0 := by omega
          refine ifd (fun c1 => ?_) (fun c1 => ?_)
          · tm_at "go"
            refine rp_m hp2 (k := keyOf r t) (.inl ⟨r.1, by unfold keyOf; rw [if_pos (ez.mp c1)], rfl⟩) new few fun H3 k3 up h3 => ?_
            refine ⟨rfl, up H s2 np, ?_⟩
            rw [rowK_succ, ← List.append_assoc]
            exact h3
          · tm_at "go"
            refine e_tup ?_
            tm_at "go"
            refine ⟨(Nat.le_of_ble_eq_true rfl), fun pt npt => ?_⟩
            have s3 : Same H2 (upd H2 pt (.tup [.str r.1, .int (t : Nat)])) := same_new npt
            have gt : (upd H2 pt (.tup [.str r.1, .int (t : Nat)])) pt = some (.tup [.str r.1, .int (t : Nat)]) := upd_same
            generalize upd H2 pt (.tup [.str r.1, .int (t : Nat)]) = H3 at *
            refine rp_m (hp2.same s3) (k := keyOf r t) (.inr ⟨r.1, t, pt, by unfold keyOf; rw [if_neg fun z => c1 (ez.mpr z)], rfl, .of gt⟩) new few fun H4 k4 up h4 => ?_
            refine ⟨rfl, up H (s2.trans s3) np, ?_⟩
            rw [rowK_succ, ← List.append_assoc]
            exact h4
        rintro _ H3 ⟨rfl, s3, h3⟩
        tm_at "go"
        exact ⟨s3, h3⟩
      · rintro σ1 H2 ⟨v4, rfl, s2, hp2⟩
        refine ⟨some x, v4, ?_, s2, ?_⟩
        · rw [wt]
          simp
        · rw [pkv_take hr]
          simpa using hp2
    · rintro σ' H' ⟨v3, v4, rfl, s, hp'⟩
      rw [List.take_of_length_le (by have := hrs.len; rw [List.length_map] at this; omega)] at hp' ⊢
      exact ⟨v3, v4, rfl, s, hp'⟩
  rintro _ H2 ⟨v3, v4, rfl, s2, hp2⟩
  tm_at "go"
  exact k p H2 s2 np hp2
end K

namespace K
open PySem PySem.Spec PyProof.Rows L2 G
variable {M : Md}
section
variable {c : Cd} {σ : L2.St} {H : Hp} {Q : VK} {pos : Pos}
theorem op_inK {X : Cx} (hu : X.A.units + 1 < cLine) : OpR X (compareOp .In) (fun x y H Q => ∃ (a : Addr) (k : Key) (kvs : List (Key × V)), x = kV k ∧ y = .ref a ∧ H a = some (.dK kvs) ∧ Q (.bl (valV kvs k).isSome) H) := by
  rintro pins s σ H x y v u Q I rx ry ⟨a, k, kvs, rfl, rfl, hd, q⟩
  cases ry
  exact d_in hu I (DGet.k (k := k) hd) rx fun s' I' => ⟨.bl _, H, I', rfl, q⟩
theorem ro_inK {a : Addr} {k : Key} {kvs : List (Key × V)} {x : V} (hx : x = kV k) (hd : H a = some (.dK kvs)) (q : Q (.bl (valV kvs k).isSome) H) : RQ c .In x (.ref a) H Q :=
  rq_of (fun X h => op_inK (by have := h.room.un; omega)) ⟨a, k, kvs, hx, rfl, hd, q⟩
theorem rp_dict {a : Addr} {k : Key} {kvs : List (Key × V)} {y v : V} {Q : Hp → Prop} (hy : y = kV k) (hd : H a = some (.dK kvs)) (hl : kvs.length < 1000) (q : Q (upd H a (.dK (putK kvs k v)))) : RP c (.ref a) y v H Q :=
  rp_of (fun X h => set_dict (by have := h.room.un; omega)) ⟨a, _, rfl, by subst hy; exact DPut.k hd (Nat.lt_trans hl (by decide)), q⟩
end
theorem swSub {o1 i1 o2 i2 a b : Expr} {q1 q2 pt pt2 : Pos} {kt k2 : Nat} (env : Env) : swappedStores [.Tuple [.Subscript o1 i1 q1, .Subscript o2 i2 q2] kt pt] (.Tuple [a, b] k2 pt2) env = pure none := by
  unfold swappedStores
  simp only [List.filterMap_cons, List.filterMap_nil]
  repeat (first | rfl | split)
def res2 (o : Str) (a b : Int) : Option Int := if (o = "div" ∨ o = "mod") ∧ b < 1 then none else some (bin2 o a b)
theorem valOf_res {sl : List Int} {o : Str} {r a b : Nat} : valOf sl (.op o r a b) = res2 o (gS sl a) (gS sl b) := rfl
def rRes : List PyData → PyData → Prop := fun ds d => ∃ (o : Str) (a b : Int), ds = [.str o, .int a, .int b] ∧ o ∈ ops10 ∧ a.natAbs < 2 ^ 1800 ∧ b.natAbs < 2 ^ 1800 ∧ d = optD (res2 o a b)
abbrev dcRs (M : Md) : Prop := Dc M "_law_result_of" ["_law_op", "_law_one", "_law_other"] 1 (spF rRes M.K)
set_option maxHeartbeats 2000000 in
theorem ok_result {f fd} (F : Fun M.K "_law_result_of" "_law_result_of" s__law_result_of f fd) (b : Bl M) : FnG M.prog M.w M.K M.mg M.base CX0 1 f fd ["_law_op", "_law_one", "_law_other"] (spF rRes M.K) := by
  refine fn_ok F sc__law_result_of (fun vs H Q E h => ?_) (fun H vs Q E h => ?_)
  · obtain ⟨_, _, h, ⟨o, x, y, rfl, _⟩, _⟩ := h
    exact h.len
  obtain ⟨_, _, h, ⟨o, x, y, rfl, ho, hx, hy, rfl⟩, k⟩ := h
  obtain _ | ⟨h1, h⟩ := h
  obtain _ | ⟨h2, h⟩ := h
  obtain _ | ⟨h3, h⟩ := h
  cases h
  cases h1
  cases h2
  cases h3
  refine b_cons (s_if (t_cmp (inC ["div", "mod"] ?_)))
  tm_at "go"
  refine ⟨dtStrs ["div", "mod"], (Nat.le_of_ble_eq_true rfl), fun H1 s1 => ?_⟩
  refine ⟨_, rfl, ifd (fun c1 => ?_) (fun c1 => ?_)⟩
  · have c1' : o = "div" ∨ o = "mod" := by simpa using c1
    tm_at "go"
    refine ifd (fun c2 => ?_) (fun c2 => ?_)
    · tm_at "go"
      refine k _ _ s1 ?_
      unfold res2
      rw [if_pos ⟨c1', c2⟩]
      exact .non
    · have e : res2 o x y = some (bin2 o x y) := if_neg fun z => c2 z.2
      rw [e] at k
      tm_at "go"
      refine ifd (fun c3 => ?_) (fun c3 => ?_)
      · subst c3
        tm_at "go"
        refine ro_divW (wide_div (by omega) hy (by decide) (by decide)) ?_
        exact k _ _ s1 (.int _)
      · have c4 : o = "mod" := c1'.resolve_left c3
        subst c4
        tm_at "go"
        refine ro_mod (by omega) ?_
        exact k _ _ s1 (.int _)
  have c1' : ¬ (o = "div" ∨ o = "mod") := by simpa using c1
  have e : res2 o x y = some (bin2 o x y) := if_neg fun z => c1' z.1
  rw [e] at k
  refine b_nil ?_
  refine b_cut (fun σ1 H2 => ∃ p, σ1 = [some (.str o), some (.int x), some (.int y), some (.ref p), none] ∧ Same H H2 ∧ H2 p = some (.dK [(Sum.inr "=", .bl (decide (x = y))), (Sum.inr "<", .bl (decide (x < y))), (Sum.inr "<=", .bl (decide (x ≤ y)))])) ?_ ?_
  · refine s_set (by tm_at "at") ?_
    refine e_disp (fun X h => pps_cons (pe_re h) (pe_re h) (pps_cons (pe_re h) (pe_re h) (pps_cons (pe_re h) (pe_re h) pps_nil))) rfl rfl (by intro e; cases e) (by decide) ?_
    intro p hp
    simp only [tPairs]
    have s0 := same_new (o := .dK []) hp
    tm_at "go"
    refine ⟨upd_same, [(Sum.inr "=", .bl (decide (x = y))), (Sum.inr "<", .bl (decide (x < y))), (Sum.inr "<=", .bl (decide (x ≤ y)))], rfl, (Nat.le_of_ble_eq_true rfl), ?_⟩
    exact ⟨p, rfl, same_mut (s1.trans s0) (same_none s1 hp), upd_same⟩
  rintro _ H2 ⟨p, rfl, s2, gp⟩
  refine b_cons (s_if (t_cmp ?_))
  tm_at "go"
  refine ro_inK (k := Sum.inr o) rfl gp ?_
  have o8 : o = "+" ∨ o = "-" ∨ o = "*" ∨ o = "least" ∨ o = "most" ∨ o = "=" ∨ o = "<" ∨ o = "<=" := by
    simp only [ops10, List.mem_cons, List.not_mem_nil, or_false] at ho
    rcases ho with h | h | h | h | h | h | h | h | h | h
    · exact .inl h
    · exact .inr (.inl h)
    · exact .inr (.inr (.inl h))
    · exact .inr (.inr (.inr (.inl h)))
    · exact .inr (.inr (.inr (.inr (.inl h))))
    · exact .inr (.inr (.inr (.inr (.inr (.inl h)))))
    · exact .inr (.inr (.inr (.inr (.inr (.inr (.inl h))))))
    · exact .inr (.inr (.inr (.inr (.inr (.inr (.inr h))))))
    · exact absurd (.inl h) c1'
    · exact absurd (.inr h) c1'
  by_cases ct : o = "=" ∨ o = "<" ∨ o = "<="
  · have : (valV ([(Sum.inr "=", .bl (decide (x = y))), (Sum.inr "<", .bl (decide (x < y))), (Sum.inr "<=", .bl (decide (x ≤ y)))] : List (Key × V)) (Sum.inr o)).isSome = true := by
      rcases ct with rfl | rfl | rfl <;> rfl
    rw [this]
    refine ⟨_, rfl, ift ?_⟩
    have hb : ∃ bb : Bool, valV ([(Sum.inr "=", .bl (decide (x = y))), (Sum.inr "<", .bl (decide (x < y))), (Sum.inr "<=", .bl (decide (x ≤ y)))] : List (Key × V)) (Sum.inr o) = some (.bl bb) ∧ bin2 o x y = if bb = true then 1 else 0 := by
      rcases ct with rfl | rfl | rfl
      · exact ⟨_, rfl, rfl⟩
      · exact ⟨_, rfl, rfl⟩
      · exact ⟨_, rfl, rfl⟩
    obtain ⟨bb, hv, eb⟩ := hb
    rw [eb] at k
    refine b_one (s_ret ?_)
    refine e_callT (T := "int") b.int (by decide +kernel) ?_
    refine a_cons (e_dgetK ?_)
    tm_at "go"
    refine ⟨p, _, Sum.inr o, _, rfl, gp, rfl, hv, ?_⟩
    tm_at "go"
    exact k _ _ s2 (.int _)
  · have : (valV ([(Sum.inr "=", .bl (decide (x = y))), (Sum.inr "<", .bl (decide (x < y))), (Sum.inr "<=", .bl (decide (x ≤ y)))] : List (Key × V)) (Sum.inr o)).isSome = false := by
      rcases o8 with rfl | rfl | rfl | rfl | rfl | rfl | rfl | rfl <;> first | rfl | exact absurd (by decide) ct
    rw [this]
    refine ⟨_, rfl, iff0 ?_⟩
    refine b_nil ?_
    refine b_cut (fun σ1 H3 => ∃ q0, σ1 = [some (.str o), some (.int x), some (.int y), some (.ref p), some (.ref q0)] ∧ Same H H3 ∧ H q0 = none ∧ H3 q0 = some (.dK [(Sum.inr "+", .int (x + y)), (Sum.inr "-", .int (x - y)), (Sum.inr "*", .int (x * y))])) ?_ ?_
    · refine s_set (by tm_at "at") ?_
      refine e_disp (fun X h => pps_cons (pe_re h) (pe_re h) (pps_cons (pe_re h) (pe_re h) (pps_cons (pe_re h) (pe_re h) pps_nil))) rfl rfl (by intro e; cases e) (by decide) ?_
      intro q0 hq
      simp only [tPairs]
      have s0 := same_new (o := .dK []) hq
      tm_at "go"
      refine ro_mulW (wide_mul hx hy (by decide) (by decide) (by decide)) ?_
      refine ⟨upd_same, [(Sum.inr "+", .int (x + y)), (Sum.inr "-", .int (x - y)), (Sum.inr "*", .int (x * y))], rfl, (Nat.le_of_ble_eq_true rfl), ?_⟩
      exact ⟨q0, rfl, same_mut (s2.trans s0) (same_none s2 hq), same_none s2 hq, upd_same⟩
    rintro _ H3 ⟨q0, rfl, s3, nq, gq⟩
    refine b_cut (fun σ1 H4 => σ1 = [some (.str o), some (.int x), some (.int y), some (.ref p), some (.ref q0)] ∧ Same H H4 ∧ H4 q0 = some (.dK [(Sum.inr "+", .int (x + y)), (Sum.inr "-", .int (x - y)), (Sum.inr "*", .int (x * y)), (Sum.inr "least", .int (if y < x then y else x)), (Sum.inr "most", .int (if y > x then y else x))])) ?_ ?_
    · refine s_asg ?_ (hw := swSub)
      refine e_tup ?_
      tm_at "go"
      refine ⟨(Nat.le_of_ble_eq_true rfl), fun pt npt => ?_⟩
      have s4 : Same H3 (upd H3 pt (.tup [.int (if y < x then y else x), .int (if y > x then y else x)])) := same_new npt
      have gt : (upd H3 pt (.tup [.int (if y < x then y else x), .int (if y > x then y else x)])) pt = some (.tup [.int (if y < x then y else x), .int (if y > x then y else x)]) := upd_same
      generalize upd H3 pt (.tup [.int (if y < x then y else x), .int (if y > x then y else x)]) = H4 at *
      refine g_tup (.of gt) ?_
      refine gs_cons (g_sub ?_)
      tm_at "go"
      refine rp_dict (k := Sum.inr "least") rfl (s4 _ _ gq) (Nat.le_of_ble_eq_true rfl) ?_
      refine gs_cons (g_sub ?_)
      tm_at "go"
      refine rp_dict (k := Sum.inr "most") rfl upd_same (Nat.le_of_ble_eq_true rfl) ?_
      refine gs_nil ?_
      exact ⟨rfl, same_mut (same_mut (s3.trans s4) nq) nq, upd_same⟩
    rintro _ H4 ⟨rfl, s4, gq4⟩
    have hv : valV ([(Sum.inr "+", .int (x + y)), (Sum.inr "-", .int (x - y)), (Sum.inr "*", .int (x * y)), (Sum.inr "least", .int (if y < x then y else x)), (Sum.inr "most", .int (if y > x then y else x))] : List (Key × V)) (Sum.inr o) = some (.int (bin2 o x y)) := by
      rcases o8 with rfl | rfl | rfl | rfl | rfl | rfl | rfl | rfl <;> first | rfl | exact absurd (by decide) ct
    refine b_one (s_ret (e_dgetK ?_))
    tm_at "go"
    refine ⟨q0, _, Sum.inr o, _, rfl, gq4, rfl, hv, ?_⟩
    exact k _ _ s4 (.int _)
end K

namespace K
open PySem PySem.Spec PyProof.Rows L2 G G.VD
variable {M : Md}
theorem sw0 {ts vs : List Expr} {k1 k2 : Nat} {p1 p2 : Pos} (h : vs.all (foldedForSure 8) = true) (env : Env) : swappedStores [.Tuple ts k1 p1] (.Tuple vs k2 p2) env = pure none := by
  unfold swappedStores
  simp only [h]
  repeat (first | rfl | split)
/-! ### the law's own machine -/
section
variable {c : Cd} {σ : L2.St} {H : Hp} {Q : VK} {pos : Pos}
/-- d.get(k, x) -/
theorem e_get2 {o e f : Expr} {apos cpos : Pos} (q : RE c o σ H fun x H1 => ∃ a, x = .ref a ∧ IsD H1 a ∧ RE c e σ H1 fun y H2 => RE c f σ H2 fun z H3 => ∃ kvs k, H3 a = some (.dK kvs) ∧ y = kV k ∧ Q ((valV kvs k).getD z) H3)
    (hbase : ∀ env, attributeBase o "get" env (eval o env) = eval o env := by intro _; rfl)
    (hfew : ∀ env, ((backTo cpos (starEach [e, f] env)).all (fun x => !x.1) && (backToKw cpos (keywordEach [] env)).all (fun x => x.1.isSome)
      && decide (([e, f] : List Expr).length + ([] : List Keyword).length + (if ([] : List Keyword).isEmpty then 0 else 1) < 30)) = true := by intro _; rfl)
    (hline : (apos.endLine == cpos.line) = true := by rfl) (ht : ∀ env, backTo cpos (starEach [e, f] env) = [(false, eval e env), (false, eval f env)] := by intro _; rfl) :
    RE c (.Call (.Attribute o "get" apos) [e, f] [] cpos) σ H Q := by
  refine re_of (t := tDGet2 (RE c o) (RE c e) (RE c f)) (fun X h => pe_dget2 (by have := h.room.units; omega) (pe_re h) (pe_re h) (pe_re h) ⟨hbase _, hfew _, hline, ht _⟩) ?_
  refine RE.mono (fun x H1 z => ?_) q
  obtain ⟨a, rfl, hd, z⟩ := z
  refine ⟨a, rfl, hd, RE.mono (fun y H2 z => RE.mono (fun w H3 z => ?_) z) z⟩
  obtain ⟨kvs, k, hk, rfl, q⟩ := z
  exact ⟨_, DGet.k hk, q⟩
end
def okv (i : Int) (sa : Addr) (o f : Bool) : List (Key × V) := [(Sum.inr "at", .int i), (Sum.inr "slots", .ref sa), (Sum.inr "over", .bl o), (Sum.inr "fault", .bl f)]
theorem okv_at (i sa o f) : valV (okv i sa o f) (Sum.inr "at") = some (.int i) := rfl
theorem okv_sl (i sa o f) : valV (okv i sa o f) (Sum.inr "slots") = some (.ref sa) := rfl
theorem okv_ov (i sa o f) : valV (okv i sa o f) (Sum.inr "over") = some (.bl o) := rfl
theorem okv_fl (i sa o f) : valV (okv i sa o f) (Sum.inr "fault") = some (.bl f) := rfl
theorem okv_put1 (i j sa o f) : putK (okv i sa o f) (Sum.inr "at") (.int j) = okv j sa o f := rfl
theorem okv_put3 (i sa o f p) : putK (okv i sa o f) (Sum.inr "over") (.bl p) = okv i sa p f := rfl
theorem okv_put4 (i sa o f p) : putK (okv i sa o f) (Sum.inr "fault") (.bl p) = okv i sa o p := rfl
/-- a dict of slots -/
def SlO (kvs : List (Key × V)) (sl : List Int) : Prop := ∀ r : Nat, (valV kvs (Sum.inl (r : Int))).getD (.int 0) = .int (gS sl r)
theorem SlO.put {kvs : List (Key × V)} {sl : List Int} (h : SlO kvs sl) {r : Nat} (hr : r < sl.length) (v : Int) : SlO (putK kvs (Sum.inl (r : Int)) (.int v)) (sl.set r v) := by
  intro s
  rw [valV_put]
  by_cases e : (Sum.inl (s : Int) : Key) = Sum.inl (r : Int)
  · rw [if_pos e]
    have e2 : s = r := by injection e with e; omega
    subst e2
    unfold gS
    rw [List.getD_eq_getElem?_getD, List.getElem?_set_self hr]
    rfl
  · rw [if_neg e, h s]
    have e2 : r ≠ s := fun z => e (by rw [z])
    unfold gS
    rw [List.getD_eq_getElem?_getD, List.getD_eq_getElem?_getD, List.getElem?_set_ne e2]
structure Own (H : Hp) (a sa : Addr) (i n : Nat) (sl : List Int) : Prop where
  ne : a ≠ sa
  g : H a = some (.dK (okv (i : Nat) sa false false))
  s : ∃ kvs, H sa = some (.dK kvs) ∧ kvs.length ≤ n ∧ SlO kvs sl
theorem Own.up {H : Hp} {a sa : Addr} {i n m : Nat} {sl : List Int} (h : Own H a sa i n sl) (l : n ≤ m) : Own H a sa i m sl := ⟨h.ne, h.g, let ⟨k, h1, h2, h3⟩ := h.s; ⟨k, h1, Nat.le_trans h2 l, h3⟩⟩
theorem Own.same {H H' : Hp} {a sa : Addr} {i n : Nat} {sl : List Int} (h : Own H a sa i n sl) (s : Same H H') : Own H' a sa i n sl := ⟨h.ne, s _ _ h.g, let ⟨k, h1, h2⟩ := h.s; ⟨k, s _ _ h1, h2⟩⟩
/-- all but what stands at S stays -/
structure Km (S : List Addr) (H H' : Hp) : Prop where
  k : ∀ b o, b ∉ S → H b = some o → H' b = some o
  t : Tp H H'
theorem km_same {S : List Addr} {H H' : Hp} (s : Same H H') : Km S H H' := ⟨fun _ _ _ h => s _ _ h, tp_same s⟩
theorem Km.trans {S : List Addr} {H H1 H2 : Hp} (a : Km S H H1) (b : Km S H1 H2) : Km S H H2 := ⟨fun _ _ n h => b.k _ _ n (a.k _ _ n h), a.t.trans b.t⟩
theorem km_kp {S : List Addr} {m : Addr} {H H' : Hp} (h : Kp m H H') (hm : m ∈ S) : Km S H H' := ⟨fun b o n q => h.k b o (fun e => n (e ▸ hm)) q, h.t⟩
theorem IsM.km {c : Md} {S : List Addr} {H H' : Hp} {a : Addr} {kvs : List (Ky × V)} (h : IsM c H a kvs) (k : Km S H H') (n : a ∉ S) : IsM c H' a kvs := h.to (fun o q => k.k a o n q) k.t
theorem km_dK {S : List Addr} {H : Hp} {p : Addr} {kvs : List (Key × V)} {o : HO} (h : H p = some (.dK kvs)) (hp : p ∈ S) : Km S H (upd H p o) := km_kp (kp_upd h (fun _ e => nomatch e) fun _ _ e => nomatch e) hp
theorem km_lst {S : List Addr} {H : Hp} {p : Addr} {xs : List V} {o : HO} (h : H p = some (.lst xs)) (hp : p ∈ S) : Km S H (upd H p o) := km_kp (kp_upd h (fun _ e => nomatch e) fun _ _ e => nomatch e) hp
theorem same_km {S : List Addr} {H0 H H' : Hp} (s : Same H0 H) (k : Km S H H') (n : ∀ p ∈ S, H0 p = none) : Same H0 H' := fun b o q => k.k b o (fun z => by rw [n b z] at q; cases q) (s b o q)
def spFresh : Sp := fun vs H Q _ => vs = [] ∧ ∀ a sa H', Same H H' → H a = none → H sa = none → Own H' a sa 0 0 sl0 → Q (.ref a) H'
abbrev dcFs (M : Md) : Prop := Dc M "_law_fresh" [] 1 spFresh
theorem ok_fresh {f fd} (F : Fun M.K "_law_fresh" "_law_fresh" s__law_fresh f fd) (b : Bl M) : FnG M.prog M.w M.K M.mg M.base CX0 1 f fd [] spFresh := by
  refine fn_ok F sc__law_fresh (fun vs H Q E h => by rw [h.1]; rfl) (fun H vs Q E h => ?_)
  obtain ⟨rfl, k⟩ := h
  refine b_one (s_ret ?_)
  refine e_disp (fun X h => pps_cons (pe_re h) (pe_re h) (pps_cons (pe_re h) (pe_re h) (pps_cons (pe_re h) (pe_re h) (pps_cons (pe_re h) (pe_re h) pps_nil)))) rfl rfl (by intro e; cases e) (by decide) ?_
  intro p hp
  simp only [tPairs]
  have s0 := same_new (o := .dK []) hp
  tm_at "go"
  refine e_dnew fun sa hsa => ?_
  tm_at "go"
  have s1 : Same (upd H p (.dK [])) (upd (upd H p (.dK [])) sa (.dK [])) := same_new hsa
  have g1 : (upd (upd H p (.dK [])) sa (.dK [])) sa = some (.dK []) := upd_same
  have gp : (upd (upd H p (.dK [])) sa (.dK [])) p = some (.dK []) := s1 _ _ upd_same
  generalize upd (upd H p (.dK [])) sa (.dK []) = H1 at *
  have ne : sa ≠ p := by
    rintro rfl
    rw [upd_same] at hsa
    cases hsa
  refine ⟨gp, okv 0 sa false false, rfl, (Nat.le_of_ble_eq_true rfl), ?_⟩
  rw [show mergeK [] (okv 0 sa false false) = okv 0 sa false false from rfl]
  refine k p sa _ (same_mut (s0.trans s1) hp) hp (same_none s0 hsa) ⟨Ne.symm ne, upd_same, [], by rw [upd_ne ne]; exact g1, Nat.le_refl _, fun r => ?_⟩
  show V.int 0 = _
  unfold gS sl0
  rw [List.getD_eq_getElem?_getD, List.getElem?_replicate]
  split <;> rfl
def optV : Option Int → V
  | none => .non
  | some j => .int j
theorem kyv_pl {K : PySem.W.Frag} {H : Hp} {p : Pl} {v : V} (h : Dt K H v p.d) : ∃ n o, KyV K H (keyAt n o) v ∧ ∀ rs, p.spot rs = fIdx rs n o 0 := by
  cases p with
  | cell n =>
    cases h
    exact ⟨n, none, .inl ⟨n, rfl, rfl⟩, fun _ => rfl⟩
  | tab n k =>
    obtain ⟨t, xs, rfl, ht, hd⟩ := Dt.tupE (show Dt K H v (.tuple [.str n, .int k]) from h)
    obtain _ | ⟨h1, hd⟩ := hd
    obtain _ | ⟨h2, hd⟩ := hd
    cases hd
    cases h1
    cases h2
    exact ⟨n, some (k : Int), .inr ⟨n, k, t, rfl, rfl, ht⟩, fun _ => rfl⟩
def spSpot (M : Md) : Sp := fun vs H Q _ => ∃ (ap a sa : Addr) (v : V) (rs : List Row) (i n : Nat) (sl : List Int) (I : Ins), vs = [.ref ap, .ref a, v] ∧ IsM M H ap (pkv rs 0) ∧ (rs.map (·.1)).Nodup ∧ Own H a sa i n sl ∧ Dt M.K H v I.d ∧ isTch I = true ∧
  (wd I ∈ (["load", "store"] : List Str) → (spotOf rs sl I).isSome = true) ∧ ∀ H', Same H H' → Q (optV (spotOf rs sl I)) H'
abbrev dcSp (M : Md) : Prop := Dc M "_law_spot" ["_law_places_here", "_law_own", "_law_part_here"] 1 (spSpot M)
theorem opt_get {o : Option Int} : (o.map V.int).getD .non = optV o := by cases o <;> rfl
set_option maxHeartbeats 2000000 in
theorem ok_spot {f fd} (F : Fun M.K "_law_spot" "_law_spot" s__law_spot f fd) (b : Bl M) : FnG M.prog M.w M.K M.mg M.base CX0 1 f fd ["_law_places_here", "_law_own", "_law_part_here"] (spSpot M) := by
  refine fn_ok F sc__law_spot (fun vs H Q E h => by obtain ⟨_, _, _, _, _, _, _, _, _, rfl, _⟩ := h; rfl) (fun H vs Q E h => ?_)
  obtain ⟨ap, a, sa, v, rs, i, n, sl, I, rfl, hm, nd, O, hv, ht, hs, k⟩ := h
  have hv' := hv
  rw [ins_d] at hv'
  refine b_cons (s_if (t_cmp (inC ["load", "store"] ?_)))
  tm_at "go"
  refine rx_str hv' (pl_at (j := 0) rfl rfl) ?_
  tm_at "go"
  refine ⟨dtStrs ["load", "store"], (Nat.le_of_ble_eq_true rfl), fun H1 s1 => ?_⟩
  have hm1 := hm.same s1
  have hv1 := hv.mono (tp_same s1)
  have O1 := O.same s1
  refine ⟨_, rfl, ifd (fun c1 => ?_) (fun c1 => ?_)⟩
  · have hsp := hs c1
    cases I with
    | load r p =>
      have hv2 : Dt M.K H1 v (.tuple [.str "load", .int r, p.d]) := hv1
      refine b_one (s_ret (e_ix (e_var (by tm_at "at") ?_)))
      tm_at "go"
      refine rx_tup hv2 (pl_at (j := 2) rfl rfl) fun x hx => ?_
      obtain ⟨nm, o, hk, es⟩ := kyv_pl hx
      have e := getK_pkv (b := 0) (n := nm) (o := o) nd
      have e2 : spotOf rs sl (.load r p) = fIdx rs nm o 0 := es rs
      rw [e2] at hsp k
      obtain ⟨j, hj⟩ := Option.isSome_iff_exists.mp hsp
      rw [show ((0 : Nat) : Int) = 0 from rfl, hj] at e
      rw [hj] at k
      exact rx_m hm1 hk e (k H1 s1)
    | store p r =>
      have hv2 : Dt M.K H1 v (.tuple [.str "store", p.d, .int r]) := hv1
      refine b_one (s_ret (e_ix (e_var (by tm_at "at") ?_)))
      tm_at "go"
      refine rx_tup hv2 (pl_at (j := 1) rfl rfl) fun x hx => ?_
      obtain ⟨nm, o, hk, es⟩ := kyv_pl hx
      have e := getK_pkv (b := 0) (n := nm) (o := o) nd
      have e2 : spotOf rs sl (.store p r) = fIdx rs nm o 0 := es rs
      rw [e2] at hsp k
      obtain ⟨j, hj⟩ := Option.isSome_iff_exists.mp hsp
      rw [show ((0 : Nat) : Int) = 0 from rfl, hj] at e
      rw [hj] at k
      exact rx_m hm1 hk e (k H1 s1)
    | _ => first | (simp only [wd] at c1; exact absurd c1 (by decide)) | cases ht
  · obtain ⟨tn, s0, e1, eI⟩ : ∃ (tn : Str) (s0 : Nat), spotOf rs sl I = fIdx rs tn (some (gS sl s0)) 0 ∧ ((∃ r, I = .loadat r tn s0) ∨ ∃ s, I = .storeat tn s0 s) := by
      cases I with
      | loadat r t s => exact ⟨t, s, rfl, .inl ⟨r, rfl⟩⟩
      | storeat t r s => exact ⟨t, r, rfl, .inr ⟨s, rfl⟩⟩
      | load r p => simp only [wd] at c1; exact absurd (by decide) c1
      | store r p => simp only [wd] at c1; exact absurd (by decide) c1
      | _ => cases ht
    rw [e1] at k
    refine b_nil ?_
    refine b_cut (fun σ1 H2 => ∃ x y, σ1 = [some (.ref ap), some (.ref a), some v, some x, some y] ∧ Same H H2 ∧ (wd I ≠ "loadat" → x = .str tn ∧ y = .int s0)) ?_ ?_
    · refine s_asg ?_
      tm_at "go"
      rcases eI with ⟨r, rfl⟩ | ⟨s, rfl⟩
      · have hv2 : Dt M.K H1 v (.tuple [.str "loadat", .int r, .str tn, .int s0]) := hv1
        refine rsl_tup hv2 fun x H2 s2 hx => ?_
        have hx2 : Dt M.K H2 x (.tuple [.int r, .str tn]) := hx
        refine g_unp2 (by tm_at "at") (by tm_at "at") hx2 fun v4 v5 h4 h5 => ?_
        exact ⟨v4, v5, rfl, s1.trans s2, fun z => absurd rfl z⟩
      · have hv2 : Dt M.K H1 v (.tuple [.str "storeat", .str tn, .int s0, .int s]) := hv1
        refine rsl_tup hv2 fun x H2 s2 hx => ?_
        have hx2 : Dt M.K H2 x (.tuple [.str tn, .int s0]) := hx
        refine g_unp2 (by tm_at "at") (by tm_at "at") hx2 fun v4 v5 h4 h5 => ?_
        cases h4
        cases h5
        exact ⟨_, _, rfl, s1.trans s2, fun _ => ⟨rfl, rfl⟩⟩
    rintro _ H2 ⟨x, y, rfl, s2, exy⟩
    refine b_cut (fun σ1 H2 => σ1 = [some (.ref ap), some (.ref a), some v, some (.str tn), some (.int s0)] ∧ Same H H2) ?_ ?_
    · have hv3 := hv.mono (tp_same s2)
      have hv3' := hv'.mono (tp_same s2)
      refine s_if (t_cmp ?_)
      tm_at "go"
      refine rx_str hv3' (pl_at (j := 0) rfl rfl) ?_
      tm_at "go"
      refine ifd (fun c3 => ?_) (fun c3 => ?_)
      · rcases eI with ⟨r, rfl⟩ | ⟨s, rfl⟩
        · have hv2 : Dt M.K H2 v (.tuple [.str "loadat", .int r, .str tn, .int s0]) := hv3
          refine b_one (s_asg ?_)
          tm_at "go"
          refine rsl_tup hv2 fun x H3 s3 hx => ?_
          have hx2 : Dt M.K H3 x (.tuple [.str tn, .int s0]) := hx
          refine g_unp2 (by tm_at "at") (by tm_at "at") hx2 fun v4 v5 h4 h5 => ?_
          cases h4
          cases h5
          exact ⟨rfl, s2.trans s3⟩
        · simp only [wd] at c3
          exact absurd c3 (by decide)
      · obtain ⟨rfl, rfl⟩ := exy c3
        refine b_nil ?_
        exact ⟨rfl, s2⟩
    rintro _ H2 ⟨rfl, s2⟩
    have O2 := O.same s2
    have hm2 := hm.same s2
    refine b_one (s_ret (e_getM ?_))
    tm_at "go"
    refine ⟨ap, _, rfl, hm2, ?_⟩
    refine e_tup ?_
    refine a_cons (e_var (by tm_at "at") (a_cons ?_))
    refine e_get2 ?_
    tm_at "go"
    refine ⟨a, _, _, rfl, O2.g, okv_sl _ _ _ _, ?_⟩
    obtain ⟨kvs, g, lk, hsl⟩ := O2.s
    refine ⟨sa, rfl, .inl ⟨kvs, .inl g⟩, ?_⟩
    tm_at "go"
    refine ⟨kvs, Sum.inl (s0 : Int), g, rfl, ?_⟩
    rw [hsl s0]
    refine a_nil ⟨(Nat.le_of_ble_eq_true rfl), fun pt npt => ?_⟩
    have s3 : Same H2 (upd H2 pt (.tup [.str tn, .int (gS sl s0)])) := same_new npt
    have gt : (upd H2 pt (.tup [.str tn, .int (gS sl s0)])) pt = some (.tup [.str tn, .int (gS sl s0)]) := upd_same
    generalize upd H2 pt (.tup [.str tn, .int (gS sl s0)]) = H3 at *
    refine ⟨s3, keyAt tn (some (gS sl s0)), .inr ⟨tn, _, pt, rfl, rfl, .of gt⟩, ?_⟩
    have e := getK_pkv (b := 0) (n := tn) (o := some (gS sl s0)) nd
    rw [e, opt_get]
    exact k H3 (s2.trans s3)
end K

namespace K
open PySem PySem.Spec PyProof.Rows L2 G G.VD
variable {M : Md}
def lsV (vals : St1) : HO := .lst (vals.map V.int)
def evD (e : Str × Int × Int) : PyData := .tuple [.str e.1, .int e.2.1, .int e.2.2]
/-- what a step of the law's machine leaves -/
def OutV (K : PySem.W.Frag) (H : Hp) (a sa va : Addr) (vals : St1) : Out → V → Prop
  | .go i s, v => v = .non ∧ Own H a sa i i s ∧ H va = some (lsV vals)
  | .ev w c x i s vs, v => Dt K H v (evD (w, c, x)) ∧ Own H a sa i i s ∧ H va = some (lsV vs)
  | .fault _ _, v => v = .non ∧ (∃ i : Int, H a = some (.dK (okv i sa true true))) ∧ H va = some (lsV vals) ∧ ∃ kvs : List (Key × V), H sa = some (.dK kvs)
  | .over _ _, v => v = .non ∧ (∃ i : Int, H a = some (.dK (okv i sa true false))) ∧ H va = some (lsV vals) ∧ ∃ kvs : List (Key × V), H sa = some (.dK kvs)
theorem Own.km {S : List Addr} {H H' : Hp} {a sa : Addr} {i n : Nat} {sl : List Int} (h : Own H a sa i n sl) (k : Same H H') : Own H' a sa i n sl := h.same k
/-- the slots are written -/
theorem Own.put {H : Hp} {a sa : Addr} {i n : Nat} {sl : List Int} (h : Own H a sa i n sl) {r : Nat} (hr : r < sl.length) (v : Int) {kvs : List (Key × V)} (g : H sa = some (.dK kvs)) (l : kvs.length ≤ n) (hk : SlO kvs sl) :
    Own (upd H sa (.dK (putK kvs (Sum.inl (r : Int)) (.int v)))) a sa i (n + 1) (sl.set r v) :=
  ⟨h.ne, by rw [upd_ne h.ne]; exact h.g, _, upd_same, Nat.le_trans (length_putK kvs _ _) (by omega), hk.put hr v⟩
/-- something else is written -/
theorem Own.oth {H : Hp} {a sa p : Addr} {i n : Nat} {sl : List Int} {o : HO} (h : Own H a sa i n sl) (n1 : a ≠ p) (n2 : sa ≠ p) : Own (upd H p o) a sa i n sl :=
  ⟨h.ne, by rw [upd_ne n1]; exact h.g, let ⟨k, h1, h2⟩ := h.s; ⟨k, by rw [upd_ne n2]; exact h1, h2⟩⟩
def spTo (M : Md) : Sp := fun vs H Q _ => ∃ (ap a sa va : Addr) (v : V) (rs : List Row) (c : Bud) (i n : Nat) (sl : List Int) (vals : St1) (I : Ins), vs = [.ref ap, .ref a, v, .ref va] ∧ IsM M H ap (pkv rs 0) ∧ (rs.map (·.1)).Nodup ∧ Own H a sa (i + 1) n sl ∧ n ≤ i ∧ i ≤ 20 ∧ Dt M.K H v I.d ∧ isTch I = true ∧
  At rs c i sl vals ∧ InsOk rs c i I ∧ total rs ≤ 10 ∧ H va = some (lsV vals) ∧ va ≠ a ∧ va ≠ sa ∧ ap ∉ [a, sa, va] ∧ ∀ x H', Km [a, sa, va] H H' → OutV M.K H' a sa va vals (touchI rs I i sl vals) x → Q x H'
abbrev dcTo (M : Md) : Prop := Dc M "_law_touch" ["_law_places_here", "_law_own", "_law_part_here", "_law_values"] 2 (spTo M)
theorem vals_at {vals : St1} {j : Int} (h0 : 0 ≤ j) (h1 : j < vals.length) : atI (vals.map V.int) j = some (.int (gt vals j)) := by
  have h : j.toNat < vals.length := by omega
  refine pl_at (j := j.toNat) (by omega) ?_
  unfold gt
  rw [List.getElem?_map, List.getD_eq_getElem?_getD, List.getElem?_eq_getElem h]
  rfl
set_option maxHeartbeats 2000000 in
theorem ok_touch {f fd} (F : Fun M.K "_law_touch" "_law_touch" s__law_touch f fd) (b : Bl M) (ds : dcSp M) : FnG M.prog M.w M.K M.mg M.base CX0 2 f fd ["_law_places_here", "_law_own", "_law_part_here", "_law_values"] (spTo M) := by
  refine fn_ok F sc__law_touch (fun vs H Q E h => by obtain ⟨_, _, _, _, _, _, _, _, _, _, _, _, rfl, _⟩ := h; rfl) (fun H vs Q E h => ?_)
  obtain ⟨ap, a, sa, va, v, rs, c, i, n, sl, vals, I, rfl, hm, nd, O, ni, i8, hv, ht, A, ok, tot, gv, nva, nvs, nap, k⟩ := h
  have nsa := Ne.symm O.ne
  refine b_cut (fun σ1 H1 => σ1 = [some (.ref ap), some (.ref a), some v, some (.ref va), some (optV (spotOf rs sl I)), some (.ref sa)] ∧ Same H H1) ?_ ?_
  · refine s_par2 (by tm_at "at") (by tm_at "at") (e_call ds ?_)
    tm_at "go"
    refine ⟨ap, a, sa, v, rs, i + 1, n, sl, I, rfl, hm, nd, O, hv, ht, fun hw => ?_, fun H1 s1 => ?_⟩
    · cases I with
      | load r p => exact ok.2
      | store p r => exact ok.2
      | _ => first | (simp only [wd] at hw; exact absurd hw (by decide)) | cases ht
    · tm_at "go"
      refine ⟨a, _, _, rfl, (O.same s1).g, okv_sl _ _ _ _, ?_⟩
      exact ⟨rfl, s1⟩
  rintro _ H1 ⟨rfl, s1⟩
  have O1 := O.same s1
  have hv1 := hv.mono (tp_same s1)
  have gv1 := s1 _ _ gv
  have k1 : Km [a, sa, va] H H1 := km_same s1
  cases hsp : spotOf rs sl I with
  | none =>
    have e : touchI rs I i sl vals = .fault i sl := by unfold touchI; rw [hsp]
    rw [e] at k
    refine b_cons (s_if (t_cmp ?_))
    tm_at "run"
    refine b_cut (fun σ1 H2 => σ1 = [some (.ref ap), some (.ref a), some v, some (.ref va), some .non, some (.ref sa)] ∧ Km [a, sa, va] H H2 ∧ H2 a = some (.dK (okv (i + 1 : Nat) sa true true)) ∧ H2 va = some (lsV vals) ∧ ∃ kvs : List (Key × V), H2 sa = some (.dK kvs)) ?_ ?_
    · refine s_asg ?_ (hw := sw0 (by rfl))
      refine e_tup ?_
      tm_at "go"
      refine ⟨(Nat.le_of_ble_eq_true rfl), fun pt npt => ?_⟩
      have s4 : Same H1 (upd H1 pt (.tup [.bl true, .bl true])) := same_new npt
      have gt : (upd H1 pt (.tup [.bl true, .bl true])) pt = some (.tup [.bl true, .bl true]) := upd_same
      generalize upd H1 pt (.tup [.bl true, .bl true]) = H4 at *
      refine g_tup (.of gt) ?_
      refine gs_cons (g_sub ?_)
      tm_at "go"
      refine rp_dict (k := Sum.inr "over") rfl (s4 _ _ O1.g) (Nat.le_of_ble_eq_true rfl) ?_
      rw [okv_put3]
      refine gs_cons (g_sub ?_)
      tm_at "go"
      refine rp_dict (k := Sum.inr "fault") rfl upd_same (Nat.le_of_ble_eq_true rfl) ?_
      rw [okv_put4]
      refine gs_nil ?_
      exact ⟨rfl, ((k1.trans (km_same s4)).trans (km_dK (s4 _ _ O1.g) (by simp))).trans (km_dK upd_same (by simp)), upd_same, by rw [upd_ne nva, upd_ne nva]; exact s4 _ _ gv1, let ⟨kv, g, _⟩ := O1.s; ⟨kv, by rw [upd_ne nsa, upd_ne nsa]; exact s4 _ _ g⟩⟩
    rintro _ H2 ⟨rfl, k2, g2, gv2, gd2⟩
    tm_at "go"
    exact k _ _ k2 ⟨rfl, ⟨_, g2⟩, gv2, gd2⟩
  | some j =>
    obtain ⟨j0, j1⟩ := spot_in hsp
    have jl : j < vals.length := by rw [A.vl]; exact j1
    refine b_cons (s_if (t_cmp ?_))
    tm_at "run"
    refine b_nil ?_
    have hv1' := hv1
    rw [ins_d] at hv1'
    refine b_cons (s_if (t_cmp (inC ["load", "loadat"] ?_)))
    tm_at "go"
    refine rx_str hv1' (pl_at (j := 0) rfl rfl) ?_
    tm_at "go"
    refine ⟨dtStrs ["load", "loadat"], (Nat.le_of_ble_eq_true rfl), fun H2 s2 => ?_⟩
    have O2 := O1.same s2
    have gv2 := s2 _ _ gv1
    have k2 : Km [a, sa, va] H H2 := k1.trans (km_same s2)
    have hv2 := hv1.mono (tp_same s2)
    obtain ⟨kvs, gs, lk, hk⟩ := O2.s
    refine ⟨_, rfl, ifd (fun c1 => ?_) (fun c1 => ?_)⟩
    · obtain ⟨r, m, ed, r32, et⟩ := tch_load c1
      rw [et rs i sl vals j hsp] at k
      rw [ed] at hv2
      refine b_cut (fun σ1 H3 => σ1 = [some (.ref ap), some (.ref a), some v, some (.ref va), some (.int j), some (.ref sa)] ∧ Km [a, sa, va] H H3 ∧ Own H3 a sa (i + 1) (n + 1) (sl.set r (gt vals j)) ∧ H3 va = some (lsV vals)) ?_ ?_
      · refine s_asg ?_
        tm_at "go"
        refine rx_list (.of gv2) (vals_at j0 jl) ?_
        refine g_sub ?_
        tm_at "go"
        refine rx_int hv2 (pl_at (j := 1) rfl rfl) ?_
        refine rp_dict (k := Sum.inl (r : Int)) rfl gs (by omega) ?_
        exact ⟨rfl, k2.trans (km_dK gs (by simp)), O2.put (by rw [A.sl32]; exact r32 rs c i ok) _ gs lk hk, by rw [upd_ne nvs]; exact gv2⟩
      rintro _ H3 ⟨rfl, k3, O3, gv3⟩
      refine b_one (s_ret (e_tupD ?_))
      tm_at "go"
      refine rx_list (.of gv3) (vals_at j0 jl) ?_
      tm_at "go"
      refine tupend (ds := [.str "load", .int j, .int (gt vals j)]) (.cons (.str _) (.cons (.int _) (.cons (.int _) .nil))) (Nat.le_of_ble_eq_true rfl) fun w1 Ha sa' ha => ?_
      exact k _ _ (k3.trans (km_same sa')) ⟨ha, (O3.same sa').up (by omega), sa' _ _ gv3⟩
    · obtain ⟨r, m, ed, em, r32, et⟩ := tch_store ht c1
      rw [et rs i sl vals j hsp] at k
      rw [ed] at hv2
      refine b_nil ?_
      have km3 : Km [a, sa, va] H2 (upd H2 va (.lst ((vals.map V.int).set j.toNat (.int (gS sl r))))) := km_lst gv2 (by simp)
      refine b_cut (fun σ1 H3 => σ1 = [some (.ref ap), some (.ref a), some v, some (.ref va), some (.int j), some (.ref sa)] ∧ Km [a, sa, va] H H3 ∧ Own H3 a sa (i + 1) n sl ∧ H3 va = some (lsV (vals.set j.toNat (gS sl r)))) ?_ ?_
      · refine s_asg ?_
        refine e_get2 ?_
        tm_at "go"
        refine ⟨.inl ⟨kvs, .inl gs⟩, ?_⟩
        tm_at "go"
        refine rx_int hv2 em ?_
        tm_at "go"
        refine ⟨kvs, Sum.inl (r : Int), gs, rfl, ?_⟩
        rw [hk r]
        refine g_sub ?_
        tm_at "go"
        refine rp_of (r := rSetL) (fun X h => set_list) ⟨va, _, j, j.toNat, rfl, rfl, gv2, ?_, ?_⟩
        · rw [List.length_map]
          unfold ixN
          rw [if_pos j0, if_pos (by omega)]
        · refine ⟨rfl, k2.trans km3, O2.oth (Ne.symm nva) (Ne.symm nvs), ?_⟩
          unfold lsV
          rw [List.map_set]
          exact upd_same
      rintro _ H3 ⟨rfl, k3, O3, gv3⟩
      have jl3 : j < (vals.set j.toNat (gS sl r)).length := by rw [List.length_set]; exact jl
      have eg : gt (vals.set j.toNat (gS sl r)) j = gS sl r := by
        unfold gt
        rw [List.getD_eq_getElem?_getD, List.getElem?_set_self (by omega)]
        rfl
      refine b_one (s_ret (e_tupD ?_))
      tm_at "go"
      refine rx_list (.of gv3) (vals_at j0 jl3) ?_
      rw [eg]
      tm_at "go"
      refine tupend (ds := [.str "store", .int j, .int (gS sl r)]) (.cons (.str _) (.cons (.int _) (.cons (.int _) .nil))) (Nat.le_of_ble_eq_true rfl) fun w1 Ha sa' ha => ?_
      exact k _ _ (k3.trans (km_same sa')) ⟨ha, (O3.same sa').up (by omega), sa' _ _ gv3⟩
end K

namespace K
open PySem PySem.Spec PyProof.Rows L2 G G.VD
variable {M : Md}
def spDo (M : Md) : Sp := fun vs H Q _ => ∃ (ap a sa va : Addr) (vl : V) (rs : List Row) (code : List Ins) (c : Bud) (i : Nat) (sl : List Int) (vals : St1), vs = [.ref ap, vl, .ref a, .ref va] ∧ IsM M H ap (pkv rs 0) ∧ (rs.map (·.1)).Nodup ∧ Own H a sa i i sl ∧ Dt M.K H vl (codeD code) ∧ CodeOk rs c code ∧
  At rs c i sl vals ∧ H va = some (lsV vals) ∧ va ≠ a ∧ va ≠ sa ∧ ap ∉ [a, sa, va] ∧ ∀ x H', Km [a, sa, va] H H' → OutV M.K H' a sa va vals (stepO rs code i sl vals) x → Q x H'
abbrev dcDo (M : Md) : Prop := Dc M "_law_do" ["_law_places_here", "_law_lines", "_law_own", "_law_values"] 3 (spDo M)
theorem iffF {p q : Prop} {b : Bool} (e : b = false) (h : q) : if b = true then p else q := by rw [e]; exact h
theorem mem4 {I : Ins} : wd I ∈ (["load", "loadat", "store", "storeat"] : List Str) ↔ isTch I = true := by
  cases I <;> simp only [wd, isTch] <;> decide
theorem op_touch {rs : List Row} {code : List Ins} {i : Nat} {sl : List Int} {vals : St1} {I : Ins} (h : code[i]? = some I) (ht : isTch I = true) : stepO rs code i sl vals = touchI rs I i sl vals := by
  unfold stepO
  rw [h]
  exact tch_out ht
set_option maxHeartbeats 4000000 in
theorem ok_do {f fd} (F : Fun M.K "_law_do" "_law_do" s__law_do f fd) (b : Bl M) (dt : dcTo M) (dr : dcRs M) : FnG M.prog M.w M.K M.mg M.base CX0 3 f fd ["_law_places_here", "_law_lines", "_law_own", "_law_values"] (spDo M) := by
  refine fn_ok F sc__law_do (fun vs H Q E h => by obtain ⟨_, _, _, _, _, _, _, _, _, _, _, rfl, _⟩ := h; rfl) (fun H vs Q E h => ?_)
  obtain ⟨ap, a, sa, va, vl, rs, code, c, i, sl, vals, rfl, hm, nd, O, hl, C, A, gv, nva, nvs, nap, k⟩ := h
  have nsa := Ne.symm O.ne
  have hl : Dt M.K H vl (.tuple (code.map Ins.d)) := hl
  refine b_cons (s_if (t_cmp ?_))
  tm_at "run"
  refine ⟨a, _, _, rfl, O.g, okv_at _ _ _ _, ?_⟩
  tm_at "run"
  refine rc_lenT hl ?_
  tm_at "run"
  rw [List.length_map]
  refine ifd (fun c1 => ?_) (fun c1 => ?_)
  · have e : stepO rs code i sl vals = .over i sl := by
      unfold stepO
      rw [List.getElem?_eq_none (by omega)]
    rw [e] at k
    tm_at "go"
    refine ⟨a, _, rfl, O.g, (Nat.le_of_ble_eq_true rfl), ?_⟩
    rw [okv_put3]
    tm_at "go"
    exact k _ _ (km_dK O.g (by simp)) ⟨rfl, ⟨_, upd_same⟩, by rw [upd_ne nva]; exact gv, let ⟨kv, g, _⟩ := O.s; ⟨kv, by rw [upd_ne nsa]; exact g⟩⟩
  have il : i < code.length := by omega
  obtain ⟨I, hI⟩ : ∃ I, code[i]? = some I := ⟨_, List.getElem?_eq_getElem il⟩
  have at_d : atI (code.map Ins.d) (i : Nat) = some I.d := pl_at (j := i) rfl (by rw [List.getElem?_map, hI]; rfl)
  have ok := C.ins i I hI
  have len := C.len
  have lim := C.lim
  refine b_nil ?_
  refine b_cut (fun σ1 H1 => ∃ v, σ1 = [some (.ref ap), some vl, some (.ref a), some (.ref va), some v, some (.ref sa), none] ∧ H = H1 ∧ Dt M.K H v I.d) ?_ ?_
  · refine s_par2 (by tm_at "at") (by tm_at "at") (e_ix (e_var (by tm_at "at") ?_))
    tm_at "go"
    refine ⟨a, _, _, rfl, O.g, okv_at _ _ _ _, ?_⟩
    refine rx_tup hl at_d fun v hv => ?_
    tm_at "go"
    refine ⟨a, _, _, rfl, O.g, okv_sl _ _ _ _, ?_⟩
    exact ⟨v, rfl, rfl, hv⟩
  rintro _ _ ⟨v, rfl, rfl, hv⟩
  refine b_cut (fun σ1 H1 => σ1 = [some (.ref ap), some vl, some (.ref a), some (.ref va), some v, some (.ref sa), none] ∧ Km [a, sa, va] H H1 ∧ Own H1 a sa (i + 1) i sl ∧ H1 va = some (lsV vals)) ?_ ?_
  · tm_at "go"
    refine ⟨a, _, _, rfl, O.g, okv_at _ _ _ _, ?_⟩
    tm_at "go"
    refine ⟨a, _, rfl, O.g, (Nat.le_of_ble_eq_true rfl), ?_⟩
    rw [okv_put1]
    refine ⟨rfl, km_dK O.g (by simp), ⟨O.ne, upd_same, ?_⟩, by rw [upd_ne nva]; exact gv⟩
    obtain ⟨kvs, g, l, hk⟩ := O.s
    exact ⟨kvs, by rw [upd_ne nsa]; exact g, l, hk⟩
  rintro _ H1 ⟨rfl, k1, O1, gv1⟩
  have hm1 := IsM.km hm k1 nap
  have hv1 := hv.mono k1.t
  have hv1' := hv1
  rw [ins_d] at hv1'
  refine b_cons (s_if (t_cmp (inC ["load", "loadat", "store", "storeat"] ?_)))
  tm_at "go"
  refine rx_str hv1' (pl_at (j := 0) rfl rfl) ?_
  tm_at "go"
  refine ⟨dtStrs ["load", "loadat", "store", "storeat"], (Nat.le_of_ble_eq_true rfl), fun H2 s2 => ?_⟩
  have O2 := O1.same s2
  have hm2 := hm1.same s2
  have hv2 := hv1.mono (tp_same s2)
  have gv2 := s2 _ _ gv1
  have k2 := k1.trans (km_same (S := [a, sa, va]) s2)
  obtain ⟨kvs, gs, lk, hk⟩ := O2.s
  refine ⟨_, rfl, ifd (fun c2 => ?_) (fun c2 => ?_)⟩
  · have ht := mem4.mp c2
    rw [op_touch hI ht] at k
    refine b_one (s_ret (e_call dt ?_))
    tm_at "go"
    exact ⟨ap, a, sa, va, v, rs, c, i, i, sl, vals, I, rfl, hm2, nd, O2, Nat.le_refl _, by omega, hv2, ht, A, ok, C.tot, gv2, nva, nvs, nap, fun x H' k3 z => k x H' (k2.trans k3) z⟩
  refine b_nil ?_
  have nt : isTch I = false := by
    cases e : isTch I with
    | true => exact absurd (mem4.mpr e) c2
    | false => rfl
  have so : stepO rs code i sl vals = oneI rs I i sl vals := by unfold stepO; rw [hI]
  rw [so] at k
  refine b_cut (fun σ1 H3 => (∃ w, σ1 = [some (.ref ap), some vl, some (.ref a), some (.ref va), some v, some (.ref sa), w]) ∧ Km [a, sa, va] H H3 ∧ OutV M.K H3 a sa va vals (oneI rs I i sl vals) .non) ?_ ?_
  · cases I with
    | cst r x =>
      have hv3 : Dt M.K H2 v (.tuple [.str "const", .int r, .int x]) := hv2
      refine s_if (t_cmp ?_)
      tm_at "run"
      refine b_one (s_asg ?_)
      tm_at "run"
      refine g_sub ?_
      tm_at "run"
      refine rp_dict (k := Sum.inl (r : Int)) rfl gs (by omega) ?_
      exact ⟨⟨_, rfl⟩, k2.trans (km_dK gs (by simp)), rfl, O2.put (by rw [A.sl32]; exact ok.1) _ gs lk hk, by rw [upd_ne nvs]; exact gv2⟩
    | op o r x y =>
      have hv3 : Dt M.K H2 v (.tuple [.str "do", .str o, .int r, .int x, .int y]) := hv2
      obtain ⟨r1, r2, r3, r4, _⟩ := ok
      have bx : (gS sl x).natAbs < 2 ^ 1800 := pow_up (A.small _ (gS_mem (by rw [A.sl32]; exact r2))) C.top
      have by_ : (gS sl y).natAbs < 2 ^ 1800 := pow_up (A.small _ (gS_mem (by rw [A.sl32]; exact r3))) C.top
      refine s_if (t_cmp ?_)
      tm_at "run"
      refine ifF (by decide) ?_
      refine b_one (s_if (t_cmp ?_))
      tm_at "run"
      refine b_cut (fun σ1 H3 => ∃ w, σ1 = [some (.ref ap), some vl, some (.ref a), some (.ref va), some v, some (.ref sa), some w] ∧ Same H2 H3 ∧ Dt M.K H3 w (optD (res2 o (gS sl x) (gS sl y)))) ?_ ?_
      · refine s_set (by tm_at "at") (e_callF dr ?_)
        tm_at "run"
        refine e_get2 ?_
        tm_at "run"
        refine ⟨.inl ⟨kvs, .inl gs⟩, ?_⟩
        tm_at "run"
        refine ⟨kvs, Sum.inl (x : Int), gs, rfl, ?_⟩
        rw [hk x]
        tm_at "run"
        refine e_get2 ?_
        tm_at "run"
        refine ⟨.inl ⟨kvs, .inl gs⟩, ?_⟩
        tm_at "run"
        refine ⟨kvs, Sum.inl (y : Int), gs, rfl, ?_⟩
        rw [hk y]
        tm_at "run"
        exact ⟨_, _, .cons (.str _) (.cons (.int _) (.cons (.int _) .nil)), ⟨o, _, _, rfl, r4, bx, by_, rfl⟩, fun w H3 s3 h3 => ⟨w, rfl, s3, h3⟩⟩
      rintro _ H3 ⟨w, rfl, s3, h3⟩
      have O3 := O2.same s3
      have gs3 := s3 _ _ gs
      have hv4 := hv3.mono (tp_same s3)
      have gv3 := s3 _ _ gv2
      have k3 := k2.trans (km_same (S := [a, sa, va]) s3)
      refine b_cut (fun σ1 H4 => σ1 = [some (.ref ap), some vl, some (.ref a), some (.ref va), some v, some (.ref sa), some w] ∧ H4 = upd H3 sa (.dK (putK kvs (Sum.inl (r : Int)) w))) ?_ ?_
      · refine s_asg ?_
        tm_at "run"
        refine g_sub ?_
        tm_at "run"
        refine rp_dict (k := Sum.inl (r : Int)) rfl gs3 (by omega) ?_
        exact ⟨rfl, rfl⟩
      rintro _ _ ⟨rfl, rfl⟩
      have km4 : Km [a, sa, va] H3 (upd H3 sa (.dK (putK kvs (Sum.inl (r : Int)) w))) := km_dK gs3 (by simp)
      have ga4 : (upd H3 sa (.dK (putK kvs (Sum.inl (r : Int)) w))) a = some (.dK (okv ((i + 1 : Nat) : Int) sa false false)) := by rw [upd_ne O.ne]; exact O3.g
      have gv4 : (upd H3 sa (.dK (putK kvs (Sum.inl (r : Int)) w))) va = some (lsV vals) := by rw [upd_ne nvs]; exact gv3
      have own4 : ∀ z : Int, w = .int z → Own (upd H3 sa (.dK (putK kvs (Sum.inl (r : Int)) w))) a sa (i + 1) (i + 1) (sl.set r z) := fun z e => by
        subst e
        exact O3.put (by rw [A.sl32]; exact r1) z gs3 lk hk
      have gsa4 : ∃ kv : List (Key × V), (upd H3 sa (.dK (putK kvs (Sum.inl (r : Int)) w))) sa = some (.dK kv) := ⟨_, upd_same⟩
      generalize upd H3 sa (.dK (putK kvs (Sum.inl (r : Int)) w)) = H4 at *
      refine b_one (s_asg ?_ (hw := swSub))
      refine e_tup ?_
      tm_at "run"
      refine ⟨(Nat.le_of_ble_eq_true rfl), fun pt npt => ?_⟩
      have s5 : Same H4 (upd H4 pt (.tup [.bl (decide (w = V.non)), .bl (decide (w = V.non))])) := same_new npt
      have gt : (upd H4 pt (.tup [.bl (decide (w = V.non)), .bl (decide (w = V.non))])) pt = some (.tup [.bl (decide (w = V.non)), .bl (decide (w = V.non))]) := upd_same
      generalize upd H4 pt (.tup [.bl (decide (w = V.non)), .bl (decide (w = V.non))]) = H5 at *
      refine g_tup (.of gt) ?_
      refine gs_cons (g_sub ?_)
      tm_at "run"
      refine rp_dict (k := Sum.inr "over") rfl (s5 _ _ ga4) (Nat.le_of_ble_eq_true rfl) ?_
      rw [okv_put3]
      refine gs_cons (g_sub ?_)
      tm_at "run"
      refine rp_dict (k := Sum.inr "fault") rfl upd_same (Nat.le_of_ble_eq_true rfl) ?_
      rw [okv_put4]
      refine gs_nil ?_
      have km5 := ((k3.trans km4).trans (km_same (S := [a, sa, va]) s5)).trans ((km_dK (S := [a, sa, va]) (o := .dK (okv ((i + 1 : Nat) : Int) sa (decide (w = V.non)) false)) (s5 _ _ ga4) (by simp)).trans (km_dK (o := .dK (okv ((i + 1 : Nat) : Int) sa (decide (w = V.non)) (decide (w = V.non)))) upd_same (by simp)))
      refine ⟨⟨_, rfl⟩, km5, ?_⟩
      have eo : oneI rs (.op o r x y) i sl vals = match res2 o (gS sl x) (gS sl y) with | none => .fault i sl | some z => .go (i + 1) (sl.set r z) := rfl
      rw [eo]
      cases er : res2 o (gS sl x) (gS sl y) with
      | none =>
        rw [er] at h3
        cases h3
        exact ⟨rfl, ⟨_, by rw [decide_eq_true rfl]; exact upd_same⟩, by rw [upd_ne nva, upd_ne nva]; exact s5 _ _ gv4, let ⟨kv, g⟩ := gsa4; ⟨kv, by rw [upd_ne nsa, upd_ne nsa]; exact s5 _ _ g⟩⟩
      | some z =>
        rw [er] at h3
        cases h3
        have o4 := own4 z rfl
        rw [decide_eq_false (show ¬ V.int z = V.non from fun e => nomatch e)]
        refine ⟨rfl, ⟨O.ne, upd_same, ?_⟩, ?_⟩
        · obtain ⟨kv, g, l, h⟩ := (o4.same s5).s
          exact ⟨kv, by rw [upd_ne nsa, upd_ne nsa]; exact g, l, h⟩
        · rw [upd_ne nva, upd_ne nva]
          exact s5 _ _ gv4
    | «unless» s t =>
      have hv3 : Dt M.K H2 v (.tuple [.str "unless", .int s, .int t]) := hv2
      refine s_if (t_cmp ?_)
      tm_at "run"
      refine ifF (by decide) ?_
      refine b_one (s_if (t_cmp ?_))
      tm_at "run"
      refine ifF (by decide) ?_
      refine b_one (s_if (t_cmp ?_))
      tm_at "run"
      refine ifF (by decide) ?_
      refine b_one (s_if (t_w (e := .BoolOp _ _ _) (w_or (t_cmp ?_))))
      tm_at "run"
      refine e_get2 ?_
      tm_at "run"
      refine ⟨.inl ⟨kvs, .inl gs⟩, ?_⟩
      tm_at "run"
      refine ⟨kvs, Sum.inl (s : Int), gs, rfl, ?_⟩
      rw [hk s]
      tm_at "run"
      have eo : oneI rs (.unless s t) i sl vals = .go (if gS sl s = 0 then t else i + 1) sl := rfl
      rw [eo]
      refine ifd (fun c3 => ?_) (fun c3 => ?_)
      · rw [if_pos c3]
        refine b_one (s_asg ?_)
        tm_at "run"
        refine g_sub ?_
        tm_at "run"
        refine rp_dict (k := Sum.inr "at") rfl O2.g (Nat.le_of_ble_eq_true rfl) ?_
        rw [okv_put1]
        refine ⟨⟨_, rfl⟩, k2.trans (km_dK O2.g (by simp)), rfl, ⟨O.ne, upd_same, kvs, by rw [upd_ne nsa]; exact gs, by have := ok.2.1; omega, hk⟩, by rw [upd_ne nva]; exact gv2⟩
      · rw [if_neg c3]
        refine b_nil ?_
        exact ⟨⟨_, rfl⟩, k2, rfl, O2.up (by omega), gv2⟩
    | jump t =>
      have hv3 : Dt M.K H2 v (.tuple [.str "jump", .int t]) := hv2
      refine s_if (t_cmp ?_)
      tm_at "run"
      refine ifF (by decide) ?_
      refine b_one (s_if (t_cmp ?_))
      tm_at "run"
      refine ifF (by decide) ?_
      refine b_one (s_if (t_cmp ?_))
      tm_at "run"
      refine ifF (by decide) ?_
      refine b_one (s_if (t_w (e := .BoolOp _ _ _) (w_or (t_cmp ?_))))
      tm_at "run"
      refine b_one (s_asg ?_)
      tm_at "run"
      refine g_sub ?_
      tm_at "run"
      refine rp_dict (k := Sum.inr "at") rfl O2.g (Nat.le_of_ble_eq_true rfl) ?_
      rw [okv_put1]
      refine ⟨⟨_, rfl⟩, k2.trans (km_dK O2.g (by simp)), rfl, ⟨O.ne, upd_same, kvs, by rw [upd_ne nsa]; exact gs, by have := ok.1; omega, hk⟩, by rw [upd_ne nva]; exact gv2⟩
    | fin =>
      have hv3 : Dt M.K H2 v (.tuple [.str "end"]) := hv2
      refine s_if (t_cmp ?_)
      tm_at "run"
      refine ifF (by decide) ?_
      refine b_one (s_if (t_cmp ?_))
      tm_at "run"
      refine ifF (by decide) ?_
      refine b_one (s_if (t_cmp ?_))
      tm_at "run"
      refine b_one (s_asg ?_)
      tm_at "run"
      refine g_sub ?_
      tm_at "run"
      refine rp_dict (k := Sum.inr "over") rfl O2.g (Nat.le_of_ble_eq_true rfl) ?_
      rw [okv_put3]
      exact ⟨⟨_, rfl⟩, k2.trans (km_dK O2.g (by simp)), rfl, ⟨_, upd_same⟩, by rw [upd_ne nva]; exact gv2, let ⟨kv, g, _⟩ := O2.s; ⟨kv, by rw [upd_ne nsa]; exact g⟩⟩
    | _ => cases nt
  rintro _ H3 ⟨⟨w, rfl⟩, k3, z⟩
  tm_at "go"
  exact k _ _ k3 z
end K

namespace K
open PySem PySem.Spec PyProof.Rows L2 G G.VD
variable {M : Md}
def spEv (M : Md) : Sp := fun vs H Q _ => ∃ (ap a sa va : Addr) (vl : V) (rs : List Row) (code : List Ins) (c : Bud) (n i : Nat) (sl : List Int) (vals : St1) (o : Out), vs = [.ref ap, vl, .ref a, .ref va] ∧ IsM M H ap (pkv rs 0) ∧ (rs.map (·.1)).Nodup ∧ Own H a sa i i sl ∧ Dt M.K H vl (codeD code) ∧ CodeOk rs c code ∧
  At rs c i sl vals ∧ H va = some (lsV vals) ∧ va ≠ a ∧ va ≠ sa ∧ ap ∉ [a, sa, va] ∧ Runs rs code n i sl vals o ∧ ∀ x H', Km [a, sa, va] H H' → OutV M.K H' a sa va vals o x → Q x H'
def spEv2 (M : Md) : Sp := fun vs H Q E => spEv M vs H Q E ∨ ∃ (ap a sa va : Addr) (vl : V) (i : Int) (ff : Bool), vs = [.ref ap, vl, .ref a, .ref va] ∧ H a = some (.dK (okv i sa true ff)) ∧ Q .non H
abbrev dcEve (M : Md) : Prop := Dc M "_law_event" ["_law_places_here", "_law_lines", "_law_own", "_law_values"] 4 (spEv2 M)
theorem runs_not {rs : List Row} {code : List Ins} : ∀ {n i : Nat} {sl : List Int} {vals : St1} {o : Out}, Runs rs code n i sl vals o → ∀ a s, o ≠ .go a s
  | 0, _, _, _, _, h => h.2
  | _ + 1, _, _, _, _, ⟨_, _, _, h⟩ => runs_not h
theorem ev_ref {K : PySem.W.Frag} {H : Hp} {x : V} {e : Str × Int × Int} (h : Dt K H x (evD e)) : x ≠ V.non := by
  rintro rfl
  cases h
set_option maxHeartbeats 2000000 in
theorem ok_event {f fd} (F : Fun M.K "_law_event" "_law_event" s__law_event f fd) (b : Bl M) (dd : dcDo M) : FnG M.prog M.w M.K M.mg M.base CX0 4 f fd ["_law_places_here", "_law_lines", "_law_own", "_law_values"] (spEv2 M) := by
  refine fn_ok F sc__law_event (fun vs H Q E h => ?_) (fun H vs Q E h => ?_)
  · rcases h with ⟨_, _, _, _, _, _, _, _, _, _, _, _, _, rfl, _⟩ | ⟨_, _, _, _, _, _, _, rfl, _⟩ <;> rfl
  rcases h with h | ⟨ap, a, sa, va, vl, i, ff, rfl, ga, k⟩
  case inr =>
    refine b_cut (fun σ1 H1 => σ1 = [some (.ref ap), some vl, some (.ref a), some (.ref va), some .non] ∧ H = H1) ?_ ?_
    · tm_at "go"
      exact ⟨rfl, rfl⟩
    rintro _ _ ⟨rfl, rfl⟩
    refine b_cut (fun σ1 H1 => σ1 = [some (.ref ap), some vl, some (.ref a), some (.ref va), some .non] ∧ H = H1) ?_ ?_
    · refine s_while (fun m σ' H1 => σ' = [some (.ref ap), some vl, some (.ref a), some (.ref va), some .non] ∧ H = H1) 0 ⟨rfl, rfl⟩ ?_
      rintro m _ _ ⟨rfl, rfl⟩
      refine t_w (e := .BoolOp _ _ _) (w_and (t_cmp ?_))
      tm_at "run"
      refine t_val ?_
      tm_at "run"
      refine ⟨a, _, _, rfl, ga, okv_ov _ _ _ _, ?_⟩
      refine ⟨_, rfl, ?_⟩
      refine iff0 ?_
      exact ⟨rfl, rfl⟩
    rintro _ _ ⟨rfl, rfl⟩
    tm_at "go"
    exact k
  obtain ⟨ap, a, sa, va, vl, rs, code, c, n, i, sl, vals, o, rfl, hm, nd, O, hl, C, A, gv, nva, nvs, nap, R, k⟩ := h
  refine b_cut (fun σ1 H1 => σ1 = [some (.ref ap), some vl, some (.ref a), some (.ref va), some .non] ∧ H = H1) ?_ ?_
  · tm_at "go"
    exact ⟨rfl, rfl⟩
  rintro _ _ ⟨rfl, rfl⟩
  refine b_cut (fun σ1 H1 => ∃ x, σ1 = [some (.ref ap), some vl, some (.ref a), some (.ref va), some x] ∧ Km [a, sa, va] H H1 ∧ OutV M.K H1 a sa va vals o x) ?_ ?_
  · refine s_while (fun m σ' H1 => ∃ x, σ' = [some (.ref ap), some vl, some (.ref a), some (.ref va), some x] ∧ Km [a, sa, va] H H1 ∧ ((x = .non ∧ ∃ m' i s, m = m' + 1 ∧ Own H1 a sa i i s ∧ H1 va = some (lsV vals) ∧ At rs c i s vals ∧ Runs rs code m' i s vals o) ∨ OutV M.K H1 a sa va vals o x ∧ (∀ a s, o ≠ .go a s))) (n + 1) ⟨_, rfl, km_same (Same.refl _), .inl ⟨rfl, n, i, sl, rfl, O, gv, A, R⟩⟩ ?_
    rintro m σ' H1 ⟨x, rfl, k1, st⟩
    rcases st with ⟨rfl, m', i1, s1, rfl, O1, gv1, A1, R1⟩ | ⟨ov, ng⟩
    · refine t_w (e := .BoolOp _ _ _) (w_and (t_cmp ?_))
      tm_at "run"
      refine t_val ?_
      tm_at "run"
      refine ⟨a, _, _, rfl, O1.g, okv_ov _ _ _ _, ?_⟩
      refine ⟨_, rfl, ?_⟩
      refine ift ?_
      refine b_one (s_set (by tm_at "at") (e_call dd ?_))
      tm_at "run"
      refine ⟨ap, a, sa, va, vl, rs, code, c, i1, s1, vals, rfl, IsM.km hm k1 nap, nd, O1, hl.mono k1.t, C, A1, gv1, nva, nvs, nap, fun x H2 k2 ov => ?_⟩
      cases m' with
      | zero =>
        rw [R1.1] at ov
        exact ⟨0, Nat.zero_lt_succ _, x, rfl, k1.trans k2, .inr ⟨ov, R1.2⟩⟩
      | succ m2 =>
        obtain ⟨a2, s2, e, R2⟩ := R1
        have z := step_ok C A1
        rw [e] at ov z
        obtain ⟨rfl, O2, gv2⟩ := ov
        exact ⟨m2 + 1, Nat.lt_succ_self _, _, rfl, k1.trans k2, .inl ⟨rfl, m2, a2, s2, rfl, O2, gv2, z.2.2, R2⟩⟩
    · refine t_w (e := .BoolOp _ _ _) (w_and (t_cmp ?_))
      tm_at "run"
      cases o with
      | go a2 s2 => exact absurd rfl (ng a2 s2)
      | ev w j v a2 s2 vs =>
        refine ifF (ev_ref ov.1) ?_
        exact ⟨x, rfl, k1, ov⟩
      | fault a2 s2 =>
        have ov' := ov
        obtain ⟨rfl, ⟨i2, g2⟩, _⟩ := ov'
        refine ifT rfl ?_
        tm_at "run"
        refine t_val ?_
        tm_at "run"
        refine ⟨a, _, _, rfl, g2, okv_ov _ _ _ _, ?_⟩
        refine ⟨_, rfl, ?_⟩
        refine iff0 ?_
        exact ⟨_, rfl, k1, ov⟩
      | over a2 s2 =>
        have ov' := ov
        obtain ⟨rfl, ⟨i2, g2⟩, _⟩ := ov'
        refine ifT rfl ?_
        tm_at "run"
        refine t_val ?_
        tm_at "run"
        refine ⟨a, _, _, rfl, g2, okv_ov _ _ _ _, ?_⟩
        refine ⟨_, rfl, ?_⟩
        refine iff0 ?_
        exact ⟨_, rfl, k1, ov⟩
  rintro _ H1 ⟨x, rfl, k1, ov⟩
  tm_at "go"
  exact k x H1 k1 ov
end K

namespace K
open PySem PySem.Spec PyProof.Rows L2 G
/-! ### all machines together come to an end -/
theorem sum_at {α : Type} (f : α → Nat) : ∀ {l : List α} {k : Nat} {a : α}, l[k]? = some a → (l.map f).sum = f a + ((l.eraseIdx k).map f).sum
  | x :: l, 0, a, h => by cases h; rfl
  | x :: l, k + 1, a, h => by
    have ih := sum_at f (l := l) (k := k) (a := a) (by simpa using h)
    rw [List.eraseIdx_cons_succ, List.map_cons, List.map_cons, List.sum_cons, List.sum_cons, ih]
    omega
theorem sum_set {α : Type} (f : α → Nat) : ∀ {l : List α} {k : Nat} {a b : α}, l[k]? = some a → ((l.set k b).map f).sum = f b + ((l.eraseIdx k).map f).sum
  | x :: l, 0, a, b, h => rfl
  | x :: l, k + 1, a, b, h => by
    have ih := sum_set f (l := l) (k := k) (a := a) (b := b) (by simpa using h)
    rw [List.eraseIdx_cons_succ, List.set_cons_succ, List.map_cons, List.map_cons, List.sum_cons, List.sum_cons, ih]
    omega
structure Par where
  L : Nat
  K : Nat
  q : Nat
  B : Nat
def Par.bud (p : Par) (S T : Nat) : Bud := ⟨p.L, p.K, p.q, S, T, p.B⟩
def Par.rem (p : Par) (r : Rn) : Nat := match r.1 with
  | none => 0
  | some i => p.L - i
def Par.mm (p : Par) (r : Rn) : Nat := match r.1 with
  | none => 0
  | some i => if i ≤ 1 then p.q else 0
structure Codes (rs : List Row) (p : Par) (codes : List (List Ins)) : Prop where
  lim : p.L ≤ 20
  top : p.B ≤ 1800
  tot : total rs ≤ 10
  len : ∀ code ∈ codes, code.length ≤ p.L
  ins : ∀ code ∈ codes, ∀ i I, code[i]? = some I → InsOk rs (p.bud 0 0) i I
theorem ins_bud {rs : List Row} {p : Par} {S T i : Nat} {I : Ins} (h : InsOk rs (p.bud 0 0) i I) : InsOk rs (p.bud S T) i I := by
  cases I <;> exact h
theorem Codes.ok {rs : List Row} {p : Par} {codes : List (List Ins)} (C : Codes rs p codes) {code : List Ins} (h : code ∈ codes) (S T : Nat) : CodeOk rs (p.bud S T) code :=
  ⟨C.len code h, C.lim, C.top, C.tot, fun i I hI => ins_bud (C.ins code h i I hI)⟩
structure GI (rs : List Row) (p : Par) (e : Nat) (ms : List Rn) (v : St1) : Prop where
  one : 1 ≤ e
  K : p.K ≤ e
  vl : v.length = total rs
  vb : ∀ x ∈ v, x.natAbs < 2 ^ e
  m : ∀ r ∈ ms, ∀ i, r.1 = some i → i ≤ p.L ∧ r.2.length = 32 ∧ (∀ x ∈ r.2, x.natAbs < 2 ^ e) ∧ (i = 0 → ∀ x ∈ r.2, x = 0)
  pot : (e + (ms.map p.rem).sum) * 2 ^ (ms.map p.mm).sum ≤ p.B
section
variable {rs : List Row} {p : Par} {codes : List (List Ins)}
theorem gi_small {e : Nat} {ms : List Rn} {v : St1} (G : GI rs p e ms v) : ∀ x ∈ v, x.natAbs < 2 ^ p.B := fun x hx => by
  refine pow_up (G.vb x hx) (Nat.le_trans ?_ G.pot)
  exact Nat.le_trans (by omega) (Nat.le_mul_of_pos_right _ (Nat.pow_pos (by decide)))
def mu (p : Par) (r : Rn) : Nat := match r.1 with
  | none => 0
  | some i => p.L + 1 - i
theorem stp_ex (C : Codes rs p codes) {e k : Nat} {ms : List Rn} {v : St1} {r : Rn} {code : List Ins} (G : GI rs p e ms v) (hr : ms[k]? = some r) (hc : code ∈ codes) : ∃ q, StpG rs code r v q ∧ (r.1 ≠ none → mu p q.1 < mu p r) ∧ ∃ f, GI rs p f (ms.set k q.1) q.2 := by
  obtain ⟨a, s⟩ := r
  have kl := (List.getElem?_eq_some_iff.mp hr).1
  have same : ∀ x ∈ ms, ∀ i, x.1 = some i → i ≤ p.L ∧ x.2.length = 32 ∧ (∀ y ∈ x.2, y.natAbs < 2 ^ e) ∧ (i = 0 → ∀ y ∈ x.2, y = 0) := G.m
  cases a with
  | none =>
    refine ⟨((none, s), v), rfl, fun z => absurd rfl z, e, ?_⟩
    have : ms.set k (none, s) = ms := by
      refine List.ext_getElem? fun j => ?_
      by_cases ej : k = j
      · subst ej
        rw [List.getElem?_set_self kl, hr]
      · rw [List.getElem?_set_ne ej]
    rw [this]
    exact G
  | some i =>
    obtain ⟨iL, s32, sb, sz⟩ := G.m _ (List.mem_of_getElem? hr) i rfl
    have e1 := sum_at p.rem hr
    have e2 := sum_at p.mm hr
    have r1 : p.rem (some i, s) = p.L - i := rfl
    have r2 : p.mm (some i, s) = if i ≤ 1 then p.q else 0 := rfl
    have CO := C.ok hc ((ms.eraseIdx k).map p.rem).sum ((ms.eraseIdx k).map p.mm).sum
    have A : AtE rs (p.bud ((ms.eraseIdx k).map p.rem).sum ((ms.eraseIdx k).map p.mm).sum) e i s v := by
      refine ⟨s32, G.vl, sb, G.vb, sz, G.one, G.K, ?_⟩
      have := G.pot
      rw [e1, e2, r1, r2, ← Nat.add_assoc] at this
      exact this
    obtain ⟨n, o, R⟩ := runs_ex CO _ e i s v (Nat.le_refl _) A
    -- a machine that is over
    have dead : ∀ s', GI rs p e (ms.set k (none, s')) v := fun s' => by
      refine ⟨G.one, G.K, G.vl, G.vb, fun x hx j hj => ?_, ?_⟩
      · rcases set_mem hx with h | rfl
        · exact G.m x h j hj
        · cases hj
      · rw [sum_set p.rem hr, sum_set p.mm hr]
        refine Nat.le_trans (Nat.mul_le_mul ?_ (Nat.pow_le_pow_right (by decide) ?_)) G.pot
        · rw [e1, r1]
          show e + (0 + _) ≤ _
          omega
        · rw [e2]
          show 0 + _ ≤ _
          omega
    refine ⟨aft v o, ⟨_, n, o, CO, ⟨e, A⟩, R, rfl⟩, fun _ => ?_, ?_⟩
    · cases o with
      | go a s' => exact absurd rfl (runs_no R a s')
      | ev w j x a s' vs =>
        have z := runs_E CO n e i s v R A
        have z2 : a ≤ p.L := z.2.1
        show p.L + 1 - a < p.L + 1 - i
        have := z.1
        omega
      | fault a s' => show 0 < p.L + 1 - i; omega
      | over a s' => show 0 < p.L + 1 - i; omega
    · cases o with
      | go a s' => exact absurd rfl (runs_no R a s')
      | fault a s' => exact ⟨e, dead s'⟩
      | over a s' => exact ⟨e, dead s'⟩
      | ev w j x a s' vs =>
        obtain ⟨z1, z2, _, ⟨f, ef, A'⟩, _⟩ := runs_E CO n e i s v R A
        refine ⟨f, A'.one, A'.K, A'.vl, A'.vb, fun y hy l hl => ?_, ?_⟩
        · rcases set_mem hy with h | rfl
          · obtain ⟨h1, h2, h3, h4⟩ := G.m y h l hl
            exact ⟨h1, h2, fun t ht => pow_up (h3 t ht) ef, h4⟩
          · cases hl
            exact ⟨z2, A'.sl32, A'.sb, A'.z⟩
        · have := A'.pot
          show (f + ((ms.set k (some a, s')).map p.rem).sum) * 2 ^ ((ms.set k (some a, s')).map p.mm).sum ≤ p.B
          rw [sum_set p.rem hr, sum_set p.mm hr]
          have q1 : p.rem (some a, s') = p.L - a := rfl
          have q2 : p.mm (some a, s') = if a ≤ 1 then p.q else 0 := rfl
          rw [q1, q2, ← Nat.add_assoc]
          exact this
theorem sch_ex (C : Codes rs p codes) : ∀ (ks : List Nat) {e : Nat} {ms : List Rn} {v : St1}, (∀ k ∈ ks, k < codes.length) → ms.length = codes.length → GI rs p e ms v → ∃ ms' u f, SchT rs codes ks ms v ms' u ∧ ms'.length = codes.length ∧ GI rs p f ms' u
  | [], e, ms, v, _, hl, G => ⟨ms, v, e, ⟨rfl, rfl⟩, hl, G⟩
  | k :: ks, e, ms, v, hk, hl, G => by
    have kc := hk k (List.mem_cons_self ..)
    obtain ⟨code, hcode⟩ : ∃ code, codes[k]? = some code := ⟨_, List.getElem?_eq_getElem kc⟩
    obtain ⟨r, hr⟩ : ∃ r, ms[k]? = some r := ⟨_, List.getElem?_eq_getElem (by omega)⟩
    obtain ⟨q, st, _, f, G'⟩ := stp_ex C G hr (List.mem_of_getElem? hcode)
    obtain ⟨ms', u, g, T, l, G2⟩ := sch_ex C ks (fun j hj => hk j (List.mem_cons_of_mem _ hj)) (by rw [List.length_set]; exact hl) G'
    exact ⟨ms', u, g, ⟨code, r, q, hcode, hr, st, T⟩, l, G2⟩
theorem fin_ex (C : Codes rs p codes) {code : List Ins} (hc : code ∈ codes) {k : Nat} : ∀ (N : Nat) {e : Nat} {ms : List Rn} {v : St1} {r : Rn}, mu p r ≤ N → ms[k]? = some r → GI rs p e ms v → ∃ m u ms' f, FinT rs code m r v u ∧ ms'.length = ms.length ∧ ms'.drop (k + 1) = ms.drop (k + 1) ∧ GI rs p f ms' u
  | N, e, ms, v, r, hN, hr, G => by
    by_cases h0 : r.1 = none
    · exact ⟨0, v, ms, e, ⟨h0, rfl⟩, rfl, rfl, G⟩
    · obtain ⟨q, st, dec, f, G'⟩ := stp_ex C G hr hc
      have d := dec h0
      have kl := (List.getElem?_eq_some_iff.mp hr).1
      match N, hN with
      | 0, hN => omega
      | N + 1, hN =>
        obtain ⟨m, u, ms', g, T, l, dr, G2⟩ := fin_ex C hc N (r := q.1) (by omega) (List.getElem?_set_self kl) G'
        refine ⟨m + 1, u, ms', g, ⟨h0, q, st, T⟩, by rw [l, List.length_set], ?_, G2⟩
        rw [dr, List.drop_set_of_lt (Nat.lt_succ_self _)]
theorem fins_ex (C : Codes rs p codes) : ∀ (n k : Nat) {e : Nat} {ms : List Rn} {v : St1}, n = codes.length - k → ms.length = codes.length → GI rs p e ms v → ∃ u ms' f, FinsT rs (codes.drop k) (ms.drop k) v u ∧ GI rs p f ms' u
  | 0, k, e, ms, v, hn, hl, G => by
    rw [List.drop_of_length_le (by omega)]
    exact ⟨v, ms, e, rfl, G⟩
  | n + 1, k, e, ms, v, hn, hl, G => by
    have kc : k < codes.length := by omega
    have km : k < ms.length := by omega
    obtain ⟨m, u, ms', f, T, l, dr, G'⟩ := fin_ex C (List.getElem_mem kc) (k := k) (mu p ms[k]) (Nat.le_refl _) (List.getElem?_eq_getElem km) G
    obtain ⟨u2, ms2, g, T2, G2⟩ := fins_ex C n (k + 1) (by omega) (l.trans hl) G'
    rw [List.drop_eq_getElem_cons kc, List.drop_eq_getElem_cons km]
    rw [dr] at T2
    exact ⟨u2, ms2, g, ⟨m, u, T, T2⟩, G2⟩
theorem tog_ex (C : Codes rs p codes) {plan : List Nat} {v : St1} {e : Nat} (h1 : 1 ≤ e) (hK : p.K ≤ e) (vl : v.length = total rs) (vb : ∀ x ∈ v, x.natAbs < 2 ^ e) (hp : ∀ k ∈ plan, k < codes.length) (pot : (e + codes.length * p.L) * 2 ^ (codes.length * p.q) ≤ p.B) :
    ∃ v', TogT rs codes plan v v' ∧ v'.length = total rs ∧ ∀ x ∈ v', x.natAbs < 2 ^ p.B := by
  have s1 : ((codes.map fun _ => begR).map p.rem).sum = codes.length * p.L := by
    rw [List.map_map]
    clear pot hp C
    induction codes with
    | nil => simp
    | cons c cs ih =>
      rw [List.map_cons, List.sum_cons, ih, List.length_cons, Nat.succ_mul]
      show p.L - 0 + _ = _
      omega
  have s2 : ((codes.map fun _ => begR).map p.mm).sum = codes.length * p.q := by
    rw [List.map_map]
    clear pot hp C s1
    induction codes with
    | nil => simp
    | cons c cs ih =>
      rw [List.map_cons, List.sum_cons, ih, List.length_cons, Nat.succ_mul]
      show p.q + _ = _
      omega
  have G0 : GI rs p e (codes.map fun _ => begR) v := by
    refine ⟨h1, hK, vl, vb, fun r hr i hi => ?_, by rw [s1, s2]; exact pot⟩
    obtain ⟨_, _, rfl⟩ := List.mem_map.mp hr
    cases hi
    have z : ∀ x ∈ sl0, x = 0 := fun x hx => (List.mem_replicate.mp hx).2
    exact ⟨Nat.zero_le _, rfl, fun x hx => by rw [show x = 0 from z x hx]; exact Nat.pow_pos (by decide), fun _ => z⟩
  obtain ⟨ms, u, f, T1, l, G1⟩ := sch_ex C plan hp (by rw [List.length_map]) G0
  obtain ⟨v', ms2, g, T2, G2⟩ := fins_ex C codes.length 0 (by omega) l G1
  exact ⟨v', ⟨ms, u, T1, l, T2⟩, G2.vl, gi_small G2⟩
end
end K

namespace K
open PySem PySem.Spec PyProof.Rows L2 G
/-! ### all schedules are told -/
section
variable {rs : List Row} {p : Par} {codes : List (List Ins)}
theorem stpB_ex (C : Codes rs p codes) {e k : Nat} {ms : List Rn} {v : St1} {r : Rn} {code : List Ins} (G : GI rs p e ms v) (hr : ms[k]? = some r) (hc : code ∈ codes) : ∃ q b, StpB rs code r v q b ∧ (b = true → mu p q.1 < mu p r) ∧ ∃ f, GI rs p f (ms.set k q.1) q.2 := by
  obtain ⟨a, s⟩ := r
  have kl := (List.getElem?_eq_some_iff.mp hr).1
  have same : ∀ x ∈ ms, ∀ i, x.1 = some i → i ≤ p.L ∧ x.2.length = 32 ∧ (∀ y ∈ x.2, y.natAbs < 2 ^ e) ∧ (i = 0 → ∀ y ∈ x.2, y = 0) := G.m
  cases a with
  | none =>
    refine ⟨((none, s), v), false, ⟨rfl, rfl⟩, (fun z => nomatch z), e, ?_⟩
    have : ms.set k (none, s) = ms := by
      refine List.ext_getElem? fun j => ?_
      by_cases ej : k = j
      · subst ej
        rw [List.getElem?_set_self kl, hr]
      · rw [List.getElem?_set_ne ej]
    rw [this]
    exact G
  | some i =>
    obtain ⟨iL, s32, sb, sz⟩ := G.m _ (List.mem_of_getElem? hr) i rfl
    have e1 := sum_at p.rem hr
    have e2 := sum_at p.mm hr
    have r1 : p.rem (some i, s) = p.L - i := rfl
    have r2 : p.mm (some i, s) = if i ≤ 1 then p.q else 0 := rfl
    have CO := C.ok hc ((ms.eraseIdx k).map p.rem).sum ((ms.eraseIdx k).map p.mm).sum
    have A : AtE rs (p.bud ((ms.eraseIdx k).map p.rem).sum ((ms.eraseIdx k).map p.mm).sum) e i s v := by
      refine ⟨s32, G.vl, sb, G.vb, sz, G.one, G.K, ?_⟩
      have := G.pot
      rw [e1, e2, r1, r2, ← Nat.add_assoc] at this
      exact this
    obtain ⟨n, o, R⟩ := runs_ex CO _ e i s v (Nat.le_refl _) A
    -- a machine that is over
    have dead : ∀ s', GI rs p e (ms.set k (none, s')) v := fun s' => by
      refine ⟨G.one, G.K, G.vl, G.vb, fun x hx j hj => ?_, ?_⟩
      · rcases set_mem hx with h | rfl
        · exact G.m x h j hj
        · cases hj
      · rw [sum_set p.rem hr, sum_set p.mm hr]
        refine Nat.le_trans (Nat.mul_le_mul ?_ (Nat.pow_le_pow_right (by decide) ?_)) G.pot
        · rw [e1, r1]
          show e + (0 + _) ≤ _
          omega
        · rw [e2]
          show 0 + _ ≤ _
          omega
    refine ⟨aft v o, isEv o, ⟨_, n, o, CO, ⟨e, A⟩, R, rfl, rfl⟩, fun _ => ?_, ?_⟩
    · cases o with
      | go a s' => exact absurd rfl (runs_no R a s')
      | ev w j x a s' vs =>
        have z := runs_E CO n e i s v R A
        have z2 : a ≤ p.L := z.2.1
        show p.L + 1 - a < p.L + 1 - i
        have := z.1
        omega
      | fault a s' => show 0 < p.L + 1 - i; omega
      | over a s' => show 0 < p.L + 1 - i; omega
    · cases o with
      | go a s' => exact absurd rfl (runs_no R a s')
      | fault a s' => exact ⟨e, dead s'⟩
      | over a s' => exact ⟨e, dead s'⟩
      | ev w j x a s' vs =>
        obtain ⟨z1, z2, _, ⟨f, ef, A'⟩, _⟩ := runs_E CO n e i s v R A
        refine ⟨f, A'.one, A'.K, A'.vl, A'.vb, fun y hy l hl => ?_, ?_⟩
        · rcases set_mem hy with h | rfl
          · obtain ⟨h1, h2, h3, h4⟩ := G.m y h l hl
            exact ⟨h1, h2, fun t ht => pow_up (h3 t ht) ef, h4⟩
          · cases hl
            exact ⟨z2, A'.sl32, A'.sb, A'.z⟩
        · have := A'.pot
          show (f + ((ms.set k (some a, s')).map p.rem).sum) * 2 ^ ((ms.set k (some a, s')).map p.mm).sum ≤ p.B
          rw [sum_set p.rem hr, sum_set p.mm hr]
          have q1 : p.rem (some a, s') = p.L - a := rfl
          have q2 : p.mm (some a, s') = if a ≤ 1 then p.q else 0 := rfl
          rw [q1, q2, ← Nat.add_assoc]
          exact this
theorem lon_ex (C : Codes rs p codes) {e : Nat} {ms : List Rn} {v : St1} (G : GI rs p e ms v) (ml : ms.length = codes.length) : ∀ (cs : List (List Ins)) (k : Nat), codes.drop k = cs → ∃ nx, LonT rs ms v cs k nx ∧ ∀ x ∈ nx, x.2.1.length = codes.length ∧ (∃ f, GI rs p f x.2.1 x.2.2) ∧ (x.2.1.map (mu p)).sum < (ms.map (mu p)).sum
  | [], k, h => ⟨[], rfl, fun _ h => nomatch h⟩
  | code :: cs, k, h => by
    have kl : k < codes.length := by
      rcases Nat.lt_or_ge k codes.length with c | c
      · exact c
      · rw [List.drop_of_length_le c] at h; cases h
    rw [List.drop_eq_getElem_cons kl] at h
    injection h with h1 h2
    obtain ⟨nx, L, ok⟩ := lon_ex C G ml cs (k + 1) h2
    have hr : ms[k]? = some ms[k] := List.getElem?_eq_getElem (by omega)
    obtain ⟨q, b, st, dec, gi⟩ := stpB_ex C G hr (h1 ▸ List.getElem_mem kl : code ∈ codes)
    refine ⟨if b = true then (k, ms.set k q.1, q.2) :: nx else nx, ⟨ms[k], q, b, nx, hr, st, L, rfl⟩, fun x hx => ?_⟩
    cases b with
    | false => exact ok x hx
    | true =>
      rcases List.mem_cons.mp hx with rfl | hx
      · refine ⟨by show (ms.set k q.1).length = _; rw [List.length_set]; exact ml, gi, ?_⟩
        show ((ms.set k q.1).map (mu p)).sum < _
        rw [sum_set (mu p) hr, sum_at (mu p) hr]
        have := dec rfl
        omega
      · exact ok x hx
theorem kids_ex {A : List Rn → St1 → List (List Nat) → Prop} : ∀ {nx : List Nxt}, (∀ x ∈ nx, ∃ o, A x.2.1 x.2.2 o) → ∃ outs, KidsT A nx outs
  | [], _ => ⟨[], rfl⟩
  | x :: r, h => by
    obtain ⟨o1, h1⟩ := h x (List.mem_cons_self ..)
    obtain ⟨o2, h2⟩ := kids_ex (nx := r) fun y hy => h y (List.mem_cons_of_mem _ hy)
    exact ⟨_, o1, o2, h1, h2, rfl⟩
theorem all_ex (C : Codes rs p codes) : ∀ (N : Nat) {e : Nat} {ms : List Rn} {v : St1}, (ms.map (mu p)).sum ≤ N → ms.length = codes.length → GI rs p e ms v → ∃ outs, AllT rs codes N ms v outs
  | 0, e, ms, v, hN, ml, G => by
    obtain ⟨nx, L, ok⟩ := lon_ex C G ml codes 0 rfl
    cases nx with
    | nil => exact ⟨[[]], ml, L, rfl⟩
    | cons x r =>
      have := (ok x (List.mem_cons_self ..)).2.2
      omega
  | N + 1, e, ms, v, hN, ml, G => by
    obtain ⟨nx, L, ok⟩ := lon_ex C G ml codes 0 rfl
    by_cases hn : nx = []
    · exact ⟨[[]], ml, nx, L, .inl ⟨hn, rfl⟩⟩
    · obtain ⟨outs, K1⟩ := kids_ex (A := AllT rs codes N) (nx := nx) fun x hx => by
        obtain ⟨h1, ⟨f, h2⟩, h3⟩ := ok x hx
        exact all_ex C N (by omega) h1 h2
      exact ⟨outs, ml, nx, L, .inr ⟨hn, K1⟩⟩
end
end K

namespace K
open PySem PySem.Spec PyProof.Rows L2 G
variable {M : Md}
structure RowsN (rs : List Row) : Prop where
  g : RowsG rs
  nd : (rs.map (·.1)).Nodup
  tot : total rs ≤ 10
theorem rs4_okN : ∀ rs ∈ rs4, RowsN rs := by
  intro rs h
  refine ⟨rs4_ok rs h, ?_, ?_⟩
  · have e : rs4.all (fun rs => decide (rs.map (·.1)).Nodup) = true := by decide +kernel
    exact of_decide_eq_true (List.all_eq_true.mp e rs h)
  · have e : rs4.all (fun rs => decide (total rs ≤ 10)) = true := by decide +kernel
    exact of_decide_eq_true (List.all_eq_true.mp e rs h)
theorem fIdx_mem {key : Option Int} : ∀ {rs : List Row} {r : Row} {b : Int}, (rs.map (·.1)).Nodup → r ∈ rs → ∃ b', fIdx rs r.1 key b = hit r key b'
  | q :: rs, r, b, nd, hr => by
    rw [List.map_cons, List.nodup_cons] at nd
    rw [fIdx]
    rcases List.mem_cons.mp hr with rfl | hr
    · exact ⟨b, if_pos rfl⟩
    · rw [if_neg fun z => nd.1 (by rw [z]; exact List.mem_map.mpr ⟨r, hr, rfl⟩)]
      exact fIdx_mem nd.2 hr
theorem nm_gdI {rs : List Row} (R : RowsN rs) : ∀ d ∈ (rs.map rowD).filterMap gPl ++ tabPl rs, ∃ p : Pl, d = p.d ∧ Gd 1 243 p.d ∧ (p.spot rs).isSome = true := by
  intro d hd
  have g := nm_gd R.g d hd
  rcases List.mem_append.mp hd with h | h
  · obtain ⟨y, hy, e⟩ := List.mem_filterMap.mp h
    obtain ⟨r, hr, rfl⟩ := List.mem_map.mp hy
    rw [gPl_row] at e
    split at e
    · rename_i c
      cases e
      obtain ⟨b', hb⟩ := fIdx_mem (key := none) (b := 0) R.nd hr
      refine ⟨.cell r.1, rfl, g, ?_⟩
      show (fIdx rs r.1 none 0).isSome = true
      rw [hb]
      show (if (r.2.1 : Int) = 0 then some b' else none).isSome = true
      rw [if_pos c]
      rfl
    · cases e
  · obtain ⟨r, hr, h2⟩ := List.mem_flatMap.mp h
    obtain ⟨k, hk, rfl⟩ := List.mem_map.mp h2
    have hk := List.mem_range.mp hk
    obtain ⟨b', hb⟩ := fIdx_mem (key := some (k : Int)) (b := 0) R.nd hr
    refine ⟨.tab r.1 k, rfl, g, ?_⟩
    show (fIdx rs r.1 (some (k : Int)) 0).isSome = true
    rw [hb]
    show (if 0 ≤ (k : Int) ∧ (k : Int) < (r.2.1 : Int) then some (b' + (k : Int)) else none).isSome = true
    rw [if_pos (by omega)]
    rfl
def c05 : Bud := ⟨5, 2, 1, 0, 0, 500⟩
def RI (rs : List Row) (i : Nat) (d : PyData) : Prop := Gd 2 1248 d ∧ ∃ I : Ins, d = I.d ∧ InsOk rs c05 i I
def prePartI : List PyData → Prop := fun ds => ∃ (rs : List Row) (at0 : Nat) (many : Int), ds = [cellsD rs, .int at0, .int many] ∧ RowsN rs ∧ at0 < many ∧ many ≤ 5
def rInsI : List PyData → PyData → Prop := fun ds d => ∃ (rs : List Row) (at0 : Nat) (many : Int), ds = [cellsD rs, .int at0, .int many] ∧ RI rs at0 d
local macro_rules | `(tactic| tm_at "mk") => `(tactic| repeat (first | (refine gRE ?_; refine e_tupD ?_) | tm_at "s" | (refine gRB ?_; first | refine b_one ?_ | refine b_cons ?_) | (refine tupend (by tm_at "dts") (Nat.le_of_ble_eq_true rfl) fun v H s h => ?_)))
set_option maxHeartbeats 4000000 in
theorem ok_partI {f fd} (F : Fun M.K "_law_part" "_law_part" s__law_part f fd) (b : Bl M) (dn : dcNext M) (dt : Dc M "_law_table_places" ["_law_rows_here"] 1 (spL rTab M.K)) :
    FnG M.prog M.w M.K M.mg M.base CX0 2 f fd ["_law_source_here", "_law_rows_here", "_law_at", "_law_many"] (spD 6 prePartI rInsI M.K) := by
  refine fn_ok F sc__law_part (spD_len (n := 3) (by rintro ds ⟨rs, a, m, rfl, _⟩; rfl)) (fun H vs Q E h => ?_)
  obtain ⟨fp, cl, rest, ds, n, rfl, hf, hn, hds, ⟨rs, at0, many, rfl, RN, p1, p9⟩, k⟩ := h
  have R := RN.g
  have p0 : 0 ≤ (at0 : Int) := Int.natCast_nonneg _
  obtain _ | ⟨hc, hds⟩ := hds
  obtain _ | ⟨ha, hds⟩ := hds
  obtain _ | ⟨hm, hds⟩ := hds
  cases hds
  cases ha
  cases hm
  rename_i vc
  -- the names
  refine b_cut (fun σ1 H1 => ∃ l us, σ1 = [some (.ref fp), some vc, some (.int (at0 : Nat)), some (.int many), some (.ref l), none, none, none, none, none, none, none] ∧ Same H H1 ∧ H l = none ∧ H1 l = some (.lst us) ∧ DtAll M.K H1 us ((rs.map rowD).filterMap gPl ++ tabPl rs)) ?_ ?_
  · tm_at "go"
    refine e_lc (own := [("_law_row", 11)]) (Blk.of (N := N__law_part) (sc := defScope s__law_part) rfl rfl (by decide +kernel)) ?_
    refine lcT_F gPl ?_
    tm_at "go"
    refine ⟨rs.map rowD, hc, by rw [List.length_map]; have := R.len; omega, fun d v H' hm s3 hv => ?_, fun p us H3 s3 n3 g3 h3 => ?_⟩
    · obtain ⟨r, hr, rfl⟩ := List.mem_map.mp hm
      refine g_name (by tm_at "at") ⟨rfl, rfl, ts_one ?_⟩
      tm_at "go"
      rw [gPl_row]
      refine ⟨Same.refl _, ifd (fun c => ?_) (fun c => ?_)⟩
      · tm_at "go"
        exact ⟨Same.refl _, _, if_pos c, .str _⟩
      · exact if_neg c
    · refine e_callL dt ?_
      tm_at "go"
      refine ⟨_, _, .cons (hc.mono (tp_same s3)) .nil, ⟨rs, rfl, R, rfl⟩, fun l us2 H4 s4 n4 g4 h4 => ?_⟩
      have l1 := h3.len
      have l2 := h4.len
      have l3 := tabPl_le (rs := rs) fun q hq => (R.nm q hq).2.2
      have l4 : ((rs.map rowD).filterMap gPl).length ≤ rs.length := Nat.le_trans (List.length_filterMap_le ..) (by rw [List.length_map]; exact Nat.le_refl _)
      have l5 := R.len
      refine ro_cat (s4 _ _ g3) g4 (by omega) fun l6 H6 s6 n6 g6 => ?_
      exact ⟨l6, _, rfl, s3.trans (s4.trans s6), same_none (s3.trans s4) n6, g6, (h3.mono (tp_same (s4.trans s6))).app (h4.mono (tp_same s6))⟩
  rintro _ H1 ⟨l, us, rfl, s1, n1, g1, h1⟩
  -- the tables
  refine b_cut (fun σ1 H2 => ∃ l2 us2, σ1 = [some (.ref fp), some vc, some (.int (at0 : Nat)), some (.int many), some (.ref l), some (.ref l2), none, none, none, none, none, none] ∧ Same H1 H2 ∧ H1 l2 = none ∧ H2 l2 = some (.lst us2) ∧ DtAll M.K H2 us2 ((rs.map rowD).filterMap gTb)) ?_ ?_
  · refine s_setLc (own := [("_law_row", 11)]) (by tm_at "at") (Blk.of (N := N__law_part) (sc := defScope s__law_part) rfl rfl (by decide +kernel)) ?_
    refine lcT_F gTb ?_
    tm_at "go"
    refine ⟨rs.map rowD, hc.mono (tp_same s1), by rw [List.length_map]; have := R.len; omega, fun d v H' hm s3 hv => ?_, fun p us H3 s3 n3 g3 h3 => ?_⟩
    · obtain ⟨r, hr, rfl⟩ := List.mem_map.mp hm
      refine g_name (by tm_at "at") ⟨rfl, rfl, ts_one ?_⟩
      tm_at "go"
      rw [gTb_row]
      refine ⟨Same.refl _, ifd (fun c => ?_) (fun c => ?_)⟩
      · tm_at "go"
        exact ⟨Same.refl _, _, if_pos c, .str _⟩
      · exact if_neg c
    · exact ⟨p, us, rfl, s3, n3, g3, h3⟩
  rintro _ H2 ⟨l2, us2, rfl, s2, n2, g2, h2⟩
  have s02 := s1.trans s2
  have nl : l ≠ fp := ne_feed hf (Same.refl _) n1
  have nl2 : l2 ≠ fp := ne_feed (hf.same s1) (Same.refl _) n2
  refine b_cut (fun σ1 H3 => ∃ way r s : Int, σ1 = [some (.ref fp), some vc, some (.int (at0 : Nat)), some (.int many), some (.ref l), some (.ref l2), some (.int way), some (.int r), some (.int s), none, none, none] ∧ Kp fp H2 H3 ∧ Feed M.K H3 fp cl (n + 1 + 1 + 1) ∧ (0 ≤ way ∧ way < 12) ∧ (0 ≤ r ∧ r < 3) ∧ 0 ≤ s ∧ s < 3) ?_ ?_
  · tm_at "go"
    refine e_draw dn ?_
    tm_at "go"
    refine ⟨fp, cl, n, 12, rfl, rfl, hf.same s02, by omega, ⟨by decide, by decide⟩, fun way H3 w0 w1 k3 f3 => ?_⟩
    refine e_draw dn ?_
    tm_at "go"
    refine ⟨fp, cl, n + 1, 3, rfl, rfl, f3, by omega, ⟨by decide, by decide⟩, fun r H4 r0 r1 k4 f4 => ?_⟩
    refine e_draw dn ?_
    tm_at "go"
    refine ⟨fp, cl, n + 1 + 1, 3, rfl, rfl, f4, by omega, ⟨by decide, by decide⟩, fun s H5 q0 q1 k5 f5 => ?_⟩
    exact ⟨way, r, s, rfl, k3.trans (k4.trans k5), f5, ⟨w0, w1⟩, ⟨r0, r1⟩, q0, q1⟩
  rintro _ H3 ⟨way, r, s, rfl, k3, f3, ⟨w0, w1⟩, ⟨r0, r1⟩, q0, q1⟩
  obtain ⟨r, rfl⟩ := Int.eq_ofNat_of_zero_le r0
  obtain ⟨s, rfl⟩ := Int.eq_ofNat_of_zero_le q0
  have r32 : r < 32 := by omega
  have s32 : s < 32 := by omega
  have g3 := k3.k _ _ nl (s2 _ _ g1)
  have h3 := (h1.mono (tp_same s2)).mono k3.t
  have g23 := k3.k _ _ nl2 g2
  have h23 := h2.mono k3.t
  have k03 : Kp fp H H3 := (kp_same s02).trans k3
  have npos := nm_pos R
  have ngd := nm_gdI RN
  have nlen : ((rs.map rowD).filterMap gPl ++ tabPl rs).length ≤ 100 := by
    have l3 := tabPl_le (rs := rs) fun q hq => (R.nm q hq).2.2
    have l4 : ((rs.map rowD).filterMap gPl).length ≤ rs.length := Nat.le_trans (List.length_filterMap_le ..) (by rw [List.length_map]; exact Nat.le_refl _)
    have l5 := R.len
    rw [List.length_append]
    omega
  generalize (rs.map rowD).filterMap gPl ++ tabPl rs = nms at *
  -- a drawn name
  have pick : ∀ {σ : L2.St} {p p1 p2 p3 p4 p5 p6 p7 : Pos} {Q2 : VK}, σ[0]? = some (some (.ref fp)) → σ[4]? = some (some (.ref l)) → (∀ v (p : Pl) H4, Gd 1 243 p.d → (p.spot rs).isSome = true → Kp fp H3 H4 → Feed M.K H4 fp cl (n + 6) → Dt M.K H4 v p.d → Q2 v H4) →
      RE ⟨M, N__law_part, defScope s__law_part, 1, true, false, none⟩ (.Subscript (.Name "_law_names" p1) (.Call (.Name "_law_next" p2) [.Name "_law_source_here" p3, .Call (.Name "len" p4) [.Name "_law_names" p5] [] p6] [] p7) p) σ H3 Q2 := by
    intro σ p p1 p2 p3 p4 p5 p6 p7 Q2 e0 e4 kk
    refine e_ix (e_var (by tm_at "at") ?_ e4)
    refine e_draw dn (e_var (by tm_at "at") ?_ e0)
    refine e_callB (id := "len") b.len (by decide +kernel) (a_cons (e_var (by tm_at "at") (a_nil ?_) e4))
    refine rc_lenL (.of g3) ?_
    rw [h3.len]
    refine ⟨fp, cl, _, _, rfl, rfl, f3, by omega, ⟨by omega, by omega⟩, fun j H4 j0 j1 k4 f4 => ?_⟩
    exact rx_pick (.of (k4.k _ _ nl g3)) (h3.mono k4.t) j0 j1 fun v d hd hv => by
      obtain ⟨pl, rfl, g1, g2⟩ := ngd d (List.mem_of_getElem? hd)
      exact kk v pl H4 g1 g2 k4 (f4.up (by omega)) hv
  have done : ∀ v d H4, RI rs at0 d → Kp fp H3 H4 → Feed M.K H4 fp cl (n + 6) → Dt M.K H4 v d → Q v H4 := fun v d H4 gd k4 f4 hv => k d v H4 ⟨rs, at0, many, rfl, gd⟩ (k03.trans k4) f4 hv
  tm_at "go"
  refine ifd (fun c1 => ?_) (fun c1 => ?_)
  · tm_at "go"
    refine e_tupD ?_
    refine a_cons ?_
    refine e_str ?_
    refine a_cons ?_
    refine e_var (by tm_at "at") ?_
    refine a_cons ?_
    refine pick rfl rfl fun v pl H4 gd4 sp4 k4 f4 hv => ?_
    tm_at "go"
    exact tupend (by tm_at "dts") (Nat.le_of_ble_eq_true rfl) fun v2 H5 s5 h5 => done _ _ _ ⟨gd5 (all3 (gs (by decide +kernel) (Nat.le_of_ble_eq_true rfl)) (gi (by omega) (by omega)) gd4) (Nat.le_of_ble_eq_true rfl), .load r pl, rfl, r32, sp4⟩ (k4.trans (kp_same s5)) (f4.same s5) h5
  tm_at "go"
  refine ifd (fun c2 => ?_) (fun c2 => ?_)
  · tm_at "go"
    refine e_tupD ?_
    refine a_cons ?_
    refine e_str ?_
    refine a_cons ?_
    refine pick rfl rfl fun v pl H4 gd4 sp4 k4 f4 hv => ?_
    tm_at "go"
    exact tupend (by tm_at "dts") (Nat.le_of_ble_eq_true rfl) fun v2 H5 s5 h5 => done _ _ _ ⟨gd5 (all3 (gs (by decide +kernel) (Nat.le_of_ble_eq_true rfl)) gd4 (gi (by omega) (by omega))) (Nat.le_of_ble_eq_true rfl), .store pl r, rfl, r32, sp4⟩ (k4.trans (kp_same s5)) (f4.same s5) h5
  -- one of some tuples of small things
  have lst : ∀ {HX : Hp} {nx : Nat} (fx : Feed M.K HX fp cl nx) (lx : nx + 1 ≤ n + 6) (kx : Kp fp H3 HX) {σ : L2.St} {ts : List (List PyData)} {es : List Expr} {m : Int} {p1 p2 p3 p4 p5 p6 : Pos} {j0 : Nat} {Q2 : VK}, σ[0]? = some (some (.ref fp)) → m = ts.length → 0 < m ∧ m < 1000000 → (∀ ds ∈ ts, RI rs at0 (.tuple ds)) →
      (∀ Q3 : List V → Hp → Prop, (∀ us H4, Same HX H4 → us.length ≤ 1000 → DtAll M.K H4 us (ts.map .tuple) → Q3 us H4) → RA ⟨M, N__law_part, defScope s__law_part, 1, true, false, none⟩ es σ HX Q3) → (∀ v d H4, RI rs at0 d → Kp fp H3 H4 → Feed M.K H4 fp cl (n + 6) → Dt M.K H4 v d → Q2 v H4) →
      RE ⟨M, N__law_part, defScope s__law_part, 1, true, false, none⟩ (.Subscript (.List es p1) (.Call (.Name "_law_next" p2) [.Name "_law_source_here" p3, .Constant (.int m) j0 p5] [] p6) p4) σ HX Q2 := by
    intro HX nx fx lx kx σ ts es m p1 p2 p3 p4 p5 p6 j0 Q2 e0 em hm hts hes kk
    refine e_ix ?_
    refine e_lstD ?_
    refine hes _ fun us H4 s4 lu hu => ?_
    refine ⟨lu, fun pl H5 s5 n5 g5 => ?_⟩
    refine e_draw dn (e_var (by tm_at "at") ?_ e0)
    refine e_int ?_
    refine ⟨fp, cl, _, _, rfl, rfl, fx.same (s4.trans s5), by omega, hm, fun j H6 j0 j1 k6 f6 => ?_⟩
    have npl : pl ≠ fp := ne_feed fx s4 n5
    refine rx_pick (.of (k6.k _ _ npl g5)) ((hu.mono (tp_same s5)).mono k6.t) j0 (by rw [List.length_map]; omega) fun v d hd hv => ?_
    rw [List.getElem?_map] at hd
    obtain ⟨ds, hds, rfl⟩ := Option.map_eq_some_iff.mp hd
    exact kk v _ H6 (hts ds (List.mem_of_getElem? hds)) (kx.trans ((kp_same (s4.trans s5)).trans k6)) (f6.up (by omega)) hv
  refine b_nil ?_
  refine b_cut (fun σ1 H4 => Same H3 H4 ∧ σ1 = [some (.ref fp), some vc, some (.int (at0 : Nat)), some (.int many), some (.ref l), some (.ref l2), some (.int way), some (.int r), some (.int s), none, none, none]) ?_ ?_
  · tm_at "go"
    refine ifd (fun c3 => ?_) (fun c3 => ?_)
    · tm_at "go"
      refine e_lstD ?_
      tm_at "go"
      refine ⟨(Nat.le_of_ble_eq_true rfl), fun q9 H4 s4 n4 g4 => ?_⟩
      refine ro_neNil (n := 1) (s4 _ _ g23) (h23.mono (tp_same s4)) (fun d hd => ?_) (by decide) g4 ?_
      · obtain ⟨y, hy, e⟩ := List.mem_filterMap.mp hd
        obtain ⟨r, hr, rfl⟩ := List.mem_map.mp hy
        rw [gTb_row] at e
        split at e
        · cases e; exact shp_str (R.nm r hr).1
        · cases e
      refine ⟨_, rfl, ?_⟩
      have tgd : ∀ d ∈ (rs.map rowD).filterMap gTb, ∃ s0 : Str, d = .str s0 ∧ Gd 1 243 d := fun d hd => by
        obtain ⟨y, hy, e⟩ := List.mem_filterMap.mp hd
        obtain ⟨r, hr, rfl⟩ := List.mem_map.mp hy
        rw [gTb_row] at e
        split at e
        · cases e; exact ⟨_, rfl, gs (R.nm r hr).1 (by have := (R.nm r hr).2.1; omega)⟩
        · cases e
      generalize (rs.map rowD).filterMap gTb = tbs at *
      cases tbs with
      | nil =>
        refine iff0 ?_
        tm_at "go"
        exact ⟨s4, rfl⟩
      | cons d0 dt0 =>
        obtain ⟨s0, rfl, gs0⟩ := tgd d0 (List.mem_cons_self ..)
        obtain _ | ⟨hv0, hvs⟩ := h23
        cases hv0
        refine ift ?_
        refine b_one ?_
        refine s_ret ?_
        refine lst (f3.same s4) (by omega) (kp_same s4) (ts := [[.str "loadat", .int r, .str s0, .int s], [.str "storeat", .str s0, .int r, .int s]]) rfl rfl ⟨by decide, by decide⟩ (fun ds hds => ?_) (fun Q3 kk => ?_) (fun v d H5 g5 k5 f5 h5 => done v d H5 g5 k5 f5 h5)
        · simp only [List.mem_cons, List.not_mem_nil, or_false] at hds
          rcases hds with rfl | rfl
          · exact ⟨gd5 (all4 (gs (by decide +kernel) (Nat.le_of_ble_eq_true rfl)) (gi (by omega) (by omega)) gs0 (gi (by omega) (by omega))) (Nat.le_of_ble_eq_true rfl), .loadat r s0 s, rfl, r32, s32⟩
          · exact ⟨gd5 (all4 (gs (by decide +kernel) (Nat.le_of_ble_eq_true rfl)) gs0 (gi (by omega) (by omega)) (gi (by omega) (by omega))) (Nat.le_of_ble_eq_true rfl), .storeat s0 r s, rfl, r32, s32⟩
        · refine a_cons ?_
          refine e_tupD ?_
          tm_at "go"
          refine rx_list (.of (s4 _ _ g23)) (v := .str s0) (pl_at (j := 0) rfl rfl) ?_
          tm_at "go"
          refine tupend (by tm_at "dts") (Nat.le_of_ble_eq_true rfl) fun v5 H5 s5 h5 => ?_
          refine a_cons ?_
          refine e_tupD ?_
          tm_at "go"
          refine rx_list (.of (s5 _ _ (s4 _ _ g23))) (v := .str s0) (pl_at (j := 0) rfl rfl) ?_
          tm_at "go"
          refine tupend (by tm_at "dts") (Nat.le_of_ble_eq_true rfl) fun v6 H6 s6 h6 => ?_
          refine a_nil ?_
          exact kk _ _ (s5.trans s6) (Nat.le_of_ble_eq_true rfl) (.cons (h5.mono (tp_same s6)) (.cons h6 .nil))
    · tm_at "go"
      exact ⟨Same.refl _, rfl⟩
  rintro _ H4 ⟨s4, rfl⟩
  have f4 := f3.same s4
  have d4 : ∀ v d H5, RI rs at0 d → Kp fp H4 H5 → Feed M.K H5 fp cl (n + 6) → Dt M.K H5 v d → Q v H5 := fun v d H5 g5 k5 f5 h5 => done v d H5 g5 ((kp_same s4).trans k5) f5 h5
  tm_at "go"
  refine ifd (fun c5 => ?_) (fun c5 => ?_)
  · tm_at "go"
    refine e_tupD ?_
    tm_at "go"
    refine e_draw dn ?_
    tm_at "go"
    refine ⟨fp, cl, _, 4, rfl, rfl, f4, by omega, ⟨by decide, by decide⟩, fun j H5 j0 j1 k5 f5 => ?_⟩
    tm_at "go"
    exact tupend (by tm_at "dts") (Nat.le_of_ble_eq_true rfl) fun v2 H6 s6 h6 => d4 _ _ _ ⟨gd5 (all3 (gs (by decide +kernel) (Nat.le_of_ble_eq_true rfl)) (gi (by omega) (by omega)) (gi (by omega) (by omega))) (Nat.le_of_ble_eq_true rfl), .cst r (j - 1), rfl, r32, by show (j - 1).natAbs < 4; omega⟩ (k5.trans (kp_same s6)) ((f5.same s6).up (by omega)) h6
  tm_at "go"
  refine ifd (fun c6 => ?_) (fun c6 => ?_)
  · tm_at "go"
    refine e_lstD ?_
    tm_at "go"
    refine ⟨(Nat.le_of_ble_eq_true rfl), fun pl H5 s5 n5 g5 => ?_⟩
    refine e_draw dn ?_
    tm_at "go"
    refine ⟨fp, cl, _, 10, rfl, rfl, f4.same s5, by omega, ⟨by decide, by decide⟩, fun j H6 j0 j1 k6 f6 => ?_⟩
    have npl : pl ≠ fp := ne_feed f4 (Same.refl _) n5
    refine rx_pick (ds := (["+", "-", "*", "least", "most", "=", "<", "<=", "div", "mod"] : List Str).map .str) (.of (k6.k _ _ npl g5)) (dtStrs ["+", "-", "*", "least", "most", "=", "<", "<=", "div", "mod"]) j0 (by show j < 10; exact j1) fun v d hd hv => ?_
    rw [List.getElem?_map] at hd
    obtain ⟨op, hop, rfl⟩ := Option.map_eq_some_iff.mp hd
    cases hv
    have gop : ∀ w ∈ (["+", "-", "*", "least", "most", "=", "<", "<=", "div", "mod"] : List Str), PyData.strOk w = true ∧ w.length ≤ 20 := by decide +kernel
    have mop : op ∈ ops10 := List.mem_of_getElem? hop
    have go1 := gop op (List.mem_of_getElem? hop)
    refine b_cut (fun σ1 H7 => H7 = H6 ∧ ∃ op2 : Str, ((PyData.strOk op2 = true ∧ op2.length ≤ 20) ∧ op2 ∈ ops10 ∧ (op2 = "*" → at0 ≤ 1)) ∧ σ1 = [some (.ref fp), some vc, some (.int (at0 : Nat)), some (.int many), some (.ref l), some (.ref l2), some (.int way), some (.int r), some (.int s), some (.str op2), none, none]) ?_ ?_
    · tm_at "go"
      refine ifd (fun c7 => ?_) (fun c7 => ?_)
      · tm_at "go"
        refine ifd (fun c8 => ?_) (fun c8 => ?_)
        · tm_at "go"
          exact ⟨rfl, "most", ⟨⟨by decide +kernel, (Nat.le_of_ble_eq_true rfl)⟩, by decide, fun z => absurd z (by decide)⟩, rfl⟩
        · tm_at "go"
          exact ⟨rfl, op, ⟨go1, mop, fun _ => by omega⟩, rfl⟩
      · tm_at "go"
        exact ⟨rfl, op, ⟨go1, mop, fun z => absurd z c7⟩, rfl⟩
    rintro _ _ ⟨rfl, op2, ⟨go2, mop2, st2⟩, rfl⟩
    tm_at "go"
    refine e_tupD ?_
    tm_at "go"
    refine e_draw dn ?_
    tm_at "go"
    refine ⟨fp, cl, _, 3, rfl, rfl, f6, by omega, ⟨by decide, by decide⟩, fun j2 H8 q2 q3 k8 f8 => ?_⟩
    obtain ⟨j2, rfl⟩ := Int.eq_ofNat_of_zero_le q2
    tm_at "go"
    exact tupend (by tm_at "dts") (Nat.le_of_ble_eq_true rfl) fun v2 H9 s9 h9 => d4 _ _ _ ⟨gd5 (all5 (gs (by decide +kernel) (Nat.le_of_ble_eq_true rfl)) (gs go2.1 go2.2) (gi (by omega) (by omega)) (gi (by omega) (by omega)) (gi (by omega) (by omega))) (Nat.le_of_ble_eq_true rfl), .op op2 r s j2, rfl, r32, s32, by omega, mop2, fun z => ⟨st2 z, rfl⟩⟩ (((kp_same s5).trans k6).trans (k8.trans (kp_same s9))) ((f8.same s9).up (by omega)) h9
  refine b_nil ?_
  tm_at "go"
  refine e_draw dn ?_
  tm_at "go"
  refine ⟨fp, cl, _, many - at0, rfl, rfl, f4, by omega, ⟨by omega, by omega⟩, fun j H5 j0 j1 k5 f5 => ?_⟩
  obtain ⟨j, rfl⟩ := Int.eq_ofNat_of_zero_le j0
  refine ro_add ?_
  refine b_one ?_
  refine s_ret ?_
  refine lst f5 (by omega) ((kp_same s4).trans k5) (ts := [[.str "unless", .int s, .int ((at0 + 1 + j : Nat) : Int)], [.str "unless", .int r, .int ((at0 + 1 + j : Nat) : Int)], [.str "jump", .int ((at0 + 1 + j : Nat) : Int)], [.str "end"]]) rfl rfl ⟨by decide, by decide⟩ (fun ds hds => ?_) (fun Q3 kk => ?_) done
  · simp only [List.mem_cons, List.not_mem_nil, or_false] at hds
    rcases hds with rfl | rfl | rfl | rfl
    · exact ⟨gd5 (all3 (gs (by decide +kernel) (Nat.le_of_ble_eq_true rfl)) (gi (by omega) (by omega)) (gi (by omega) (by omega))) (Nat.le_of_ble_eq_true rfl), .unless s (at0 + 1 + j), rfl, s32, by omega, by show at0 + 1 + j ≤ 5; omega⟩
    · exact ⟨gd5 (all3 (gs (by decide +kernel) (Nat.le_of_ble_eq_true rfl)) (gi (by omega) (by omega)) (gi (by omega) (by omega))) (Nat.le_of_ble_eq_true rfl), .unless r (at0 + 1 + j), rfl, r32, by omega, by show at0 + 1 + j ≤ 5; omega⟩
    · exact ⟨gd5 (all2 (gs (by decide +kernel) (Nat.le_of_ble_eq_true rfl)) (gi (by omega) (by omega))) (Nat.le_of_ble_eq_true rfl), .jump (at0 + 1 + j), rfl, by omega, by show at0 + 1 + j ≤ 5; omega⟩
    · exact ⟨gd5 (fun d hd => by rw [List.mem_singleton.mp hd]; exact gs (by decide +kernel) (Nat.le_of_ble_eq_true rfl)) (Nat.le_of_ble_eq_true rfl), .fin, rfl, trivial⟩
  · refine a_cons ?_
    refine e_tupD ?_
    tm_at "go"
    refine tupend (by tm_at "dts") (Nat.le_of_ble_eq_true rfl) fun v1 H6 s6 h6 => ?_
    refine a_cons ?_
    refine e_tupD ?_
    tm_at "go"
    refine tupend (by tm_at "dts") (Nat.le_of_ble_eq_true rfl) fun v2 H7 s7 h7 => ?_
    refine a_cons ?_
    refine e_tupD ?_
    tm_at "go"
    refine tupend (by tm_at "dts") (Nat.le_of_ble_eq_true rfl) fun v3 H8 s8 h8 => ?_
    refine a_cons ?_
    refine e_tupD ?_
    tm_at "go"
    refine tupend (by tm_at "dts") (Nat.le_of_ble_eq_true rfl) fun v4 H9 s9 h9 => ?_
    refine a_nil ?_
    exact kk _ _ (s6.trans (s7.trans (s8.trans s9))) (Nat.le_of_ble_eq_true rfl) (.cons (h6.mono (tp_same (s7.trans (s8.trans s9)))) (.cons (h7.mono (tp_same (s8.trans s9))) (.cons (h8.mono (tp_same s9)) (.cons h9 .nil))))
def preCodeI : List PyData → Prop := fun ds => ∃ rs : List Row, ds = [cellsD rs, .int 5] ∧ RowsN rs
def rCodeI : List PyData → PyData → Prop := fun ds d => ∃ (rs : List Row) (code : List Ins), ds = [cellsD rs, .int 5] ∧ d = codeD code ∧ code.length ≤ 5 ∧ (∀ i I, code[i]? = some I → InsOk rs c05 i I) ∧ ∀ x ∈ code, Gd 2 1248 x.d
theorem ok_codeI {f fd} (F : Fun M.K "_law_code" "_law_code" s__law_code f fd) (b : Bl M) (dn : dcNext M) (dp : Dc M "_law_part" ["_law_source_here", "_law_rows_here", "_law_at", "_law_many"] 2 (spD 6 prePartI rInsI M.K)) :
    FnG M.prog M.w M.K M.mg M.base CX0 3 f fd ["_law_source_here", "_law_rows_here", "_law_most"] (spD 55 preCodeI rCodeI M.K) := by
  refine fn_ok F sc__law_code (spD_len (n := 2) (by rintro ds ⟨rs, rfl, _⟩; rfl)) (fun H vs Q E h => ?_)
  obtain ⟨fp, cl, rest, ds, n, rfl, hf, hn, hds, ⟨rs, rfl, R⟩, k⟩ := h
  obtain _ | ⟨hc, hds⟩ := hds
  obtain _ | ⟨hm, hds⟩ := hds
  cases hds
  cases hm
  rename_i vc
  tm_at "go"
  refine e_draw dn ?_
  tm_at "go"
  refine ⟨fp, cl, _, 5, rfl, rfl, hf, by omega, ⟨by decide, by decide⟩, fun j H1 j0 j1 k1 f1 => ?_⟩
  tm_at "go"
  refine e_lc (own := [("_law_at", 4)]) (Blk.of (N := N__law_code) (sc := defScope s__law_code) rfl rfl (by decide +kernel)) ?_
  refine lc_R1 b.range ?_
  tm_at "go"
  refine ⟨by omega, fun D hD => ?_⟩
  have nD : D ≠ fp := ne_feed f1 (Same.refl _) hD
  refine ⟨fun t acc H' => ∃ es : List Ins, acc.length ≤ t ∧ es.length = t ∧ Kp fp H H' ∧ Feed M.K H' fp cl (n + 1 + 6 * t) ∧ H' D = some (.lst acc) ∧ DtAll M.K H' acc (es.map Ins.d) ∧ (∀ e ∈ es, Gd 2 1248 e.d) ∧ ∀ i I, es[i]? = some I → InsOk rs c05 i I, ?_, ?_, ?_, ?_⟩
  · exact ⟨[], Nat.le_refl _, rfl, kp_mut k1 (kp_none k1 hD nD), f1.upd nD (ne_cl f1 (Same.refl _) hD), upd_same, .nil, (fun _ h => nomatch h), fun i I h => by simp at h⟩
  · rintro t acc H' ⟨es, h, _⟩
    exact h
  · rintro t acc H2 ht ⟨es, la, le, k2, f2, g2, h2, he, hi⟩
    have ht' : t < 5 := by omega
    refine g_name (by tm_at "at") ⟨rfl, ts_nil (ift ?_)⟩
    refine e_callD dp ?_
    tm_at "go"
    refine ⟨fp, cl, _, _, _, rfl, f2, by omega, .cons (hc.mono k2.t) (.cons (.int _) (.cons (.int _) .nil)), ⟨rs, t, _, rfl, R, by omega, by omega⟩, fun d v H3 hd k3 f3 hv => ?_⟩
    obtain ⟨rs', t', m', ee, gd, I, rfl, iok⟩ := hd
    have e1 : rs' = rs ∧ t' = t := by
      injection ee with e1 e2
      injection e2 with e2 e3
      injection e2 with e2
      exact ⟨(cellsD_inj e1).symm, by omega⟩
    obtain ⟨rfl, rfl⟩ := e1
    have g3 := k3.k _ _ nD g2
    have ku := kp_upd (o' := .lst (acc ++ [v])) g3 (fun _ e => nomatch e) (fun _ _ e => nomatch e)
    refine ⟨g3, es ++ [I], by rw [List.length_append]; exact Nat.succ_le_succ la, by rw [List.length_append, le]; rfl, kp_mut (k2.trans k3) (kp_none k1 hD nD), (f3.upd nD (ne_cl f1 (Same.refl _) hD)).up (by omega), upd_same, ?_, fun e he' => ?_, fun i J hJ => ?_⟩
    · rw [List.map_append]
      exact (h2.mono (k3.t.trans ku.t)).app (.cons (hv.mono ku.t) .nil)
    · rcases List.mem_append.mp he' with h | h
      · exact he e h
      · rw [List.mem_singleton.mp h]; exact gd
    · rcases Nat.lt_trichotomy i es.length with h | h | h
      · rw [List.getElem?_append_left h] at hJ
        exact hi i J hJ
      · subst h
        rw [List.getElem?_append_right (Nat.le_refl _), Nat.sub_self] at hJ
        cases hJ
        rw [le]
        exact iok
      · rw [List.getElem?_eq_none (by rw [List.length_append]; show es.length + 1 ≤ i; omega)] at hJ
        cases hJ
  · rintro acc H2 ⟨es, la, le, k2, f2, g2, h2, he, hi⟩
    tm_at "go"
    refine rc_tupL (.of g2) h2 fun v3 H3 s3 h3 => ?_
    exact k _ _ _ ⟨rs, es, rfl, rfl, by omega, hi, he⟩ (k2.trans (kp_same s3)) ((f2.same s3).up (by omega)) h3
end K

namespace G
open PySem PySem.Spec PyProof.Rows L2
section
variable {X : Cx}
/-- dict(d) of a dict whose keys are ints and texts -/
theorem call_dictC : CallR X (.type "dict") (fun xs H Q => ∃ (a : Addr) (kvs : List (Key × V)), xs = [.ref a] ∧ H a = some (.dK kvs) ∧ ∀ p, H p = none → Q (.ref p) (upd H p (.dK kvs))) := by
  intro pins s σ H xs us Q I r q
  obtain ⟨a, kvs, ex, ha, q⟩ := q
  subst ex
  obtain ⟨u, eu, rx⟩ := vals1 r
  subst eu
  cases rx
  obtain ⟨sz, lo, vs, rel, dd⟩ := dk_of I.hok ha
  refine kt_call_dict lo dd (by rw [← KV.length rel]; exact sz) fun h' hd' sb => ?_
  have hm : (s.heap.objs.size == sysModules) = false := beq_eq_false_iff_ne.mpr (Nat.ne_of_gt I.big)
  have k : ∀ b o, s.heap.get? b = some o → h'.get? b = some o := fun b o e => by
    rw [sb.2 b (Nat.ne_of_lt (Heap.lt_size e))]
    exact Heap.get?_push_of_some _ e
  exact ⟨.ref s.heap.objs.size, upd H s.heap.objs.size (.dK kvs), I.laid (t' := s.toks) k (Nat.le_refl _) (show ObjOk X.prog X.w _ _ _ (.dK kvs) from ⟨sz, hm, vs, rel, hd'⟩), rfl, q _ (I.hok.fresh (Nat.le_refl _))⟩
end
theorem rc_dictC {c : Cd} {H : Hp} {Q : VK} {a : Addr} {kvs : List (Key × V)} (h : H a = some (.dK kvs)) (q : ∀ p H', Same H H' → H p = none → H' p = some (.dK kvs) → Q (.ref p) H') : RC c (.type "dict") [.ref a] H Q :=
  rc_of (r := fun xs H Q => ∃ (a : Addr) (kvs : List (Key × V)), xs = [.ref a] ∧ H a = some (.dK kvs) ∧ ∀ p, H p = none → Q (.ref p) (upd H p (.dK kvs))) (fun X _ => call_dictC) ⟨a, kvs, rfl, h, fun p hn => q p _ (same_new hn) hn upd_same⟩
end G
namespace K
open PySem PySem.Spec PyProof.Rows L2 G G.VD
variable {M : Md}
/-! ### a copy of a machine -/
def spCop : Sp := fun vs H Q _ => ∃ (a sa : Addr) (i : Int) (o f : Bool) (kvs : List (Key × V)), vs = [.ref a] ∧ H a = some (.dK (okv i sa o f)) ∧ H sa = some (.dK kvs) ∧
  ∀ b sb H', Same H H' → H b = none → H sb = none → b ≠ sb → H' b = some (.dK (okv i sb o f)) → H' sb = some (.dK kvs) → Q (.ref b) H'
abbrev dcCop (M : Md) : Prop := Dc M "_law_copied" ["_law_own"] 1 spCop
set_option maxHeartbeats 2000000 in
theorem ok_copied {f fd} (F : Fun M.K "_law_copied" "_law_copied" s__law_copied f fd) (b : Bl M) : FnG M.prog M.w M.K M.mg M.base CX0 1 f fd ["_law_own"] spCop := by
  refine fn_ok F sc__law_copied (fun vs H Q E h => by obtain ⟨_, _, _, _, _, _, rfl, _⟩ := h; rfl) (fun H vs Q E h => ?_)
  obtain ⟨a, sa, i, o, ff, kvs, rfl, ga, gs, k⟩ := h
  refine b_one (s_ret ?_)
  refine e_disp (fun X h => pps_cons (pe_re h) (pe_re h) (pps_cons (pe_re h) (pe_re h) (pps_cons (pe_re h) (pe_re h) (pps_cons (pe_re h) (pe_re h) pps_nil)))) rfl rfl (by intro e; cases e) (by decide) ?_
  intro p hp
  simp only [tPairs]
  have s0 := same_new (o := .dK []) hp
  have gp0 : (upd H p (.dK [])) p = some (.dK []) := upd_same
  generalize upd H p (.dK []) = H0 at *
  tm_at "go"
  refine ⟨a, _, _, rfl, s0 _ _ ga, okv_at _ _ _ _, ?_⟩
  tm_at "go"
  refine ⟨a, _, _, rfl, s0 _ _ ga, okv_sl _ _ _ _, ?_⟩
  tm_at "go"
  refine rc_dictC (s0 _ _ gs) fun sb H1 s1 nb g1 => ?_
  tm_at "go"
  have s01 := s0.trans s1
  refine ⟨a, _, _, rfl, s01 _ _ ga, okv_ov _ _ _ _, ?_⟩
  tm_at "go"
  refine ⟨a, _, _, rfl, s01 _ _ ga, okv_fl _ _ _ _, ?_⟩
  have gp : H1 p = some (.dK []) := s1 _ _ gp0
  have ne : sb ≠ p := by
    rintro rfl
    rw [gp0] at nb
    cases nb
  refine ⟨gp, okv i sb o ff, rfl, (Nat.le_of_ble_eq_true rfl), ?_⟩
  rw [show mergeK [] (okv i sb o ff) = okv i sb o ff from rfl]
  exact k p sb _ (same_mut s01 hp) hp (same_none s0 nb) (Ne.symm ne) upd_same (by rw [upd_ne ne]; exact g1)
end K

namespace G
open PySem PySem.Spec PyProof.Rows L2
section
variable {c : Cd} {σ : L2.St} {H : Hp} {Q : VK} {pos : Pos} {x y : V} {elt tg iter : Expr} {ifs : List Expr} {scope : Scope} {vs : List Nat}
/-- over a long list -/
theorem lc_LW (q : RE c iter σ H fun x H1 => ∃ a xs, x = .ref a ∧ SqL c.K H1 a xs ∧ xs.length ≤ 100000 ∧ ∀ D, H1 D = none → ∃ Pv : Nat → List V → Hp → Prop, Pv 0 [] (upd H1 D (.lst [])) ∧ (∀ i acc H', i ≤ xs.length → Pv i acc H' → SqL c.K H' a xs ∧ acc.length ≤ i) ∧
      (∀ i x acc H', xs[i]? = some x → Pv i acc H' → Turn1 (blkCd c scope) tg ifs elt vs σ D x H' acc (Pv (i + 1))) ∧ ∀ acc H', Pv xs.length acc H' → Q (.ref D) H') :
    tLc (RI c tg iter) (RG (blkCd c scope) tg) (RTs (blkCd c scope) ifs) (RE (blkCd c scope) elt) vs σ H Q := by
  refine i_list (RE.mono (fun x H1 z => ?_) q)
  obtain ⟨a, xs, rfl, ht, hl, z⟩ := z
  refine ⟨a, rfl, ⟨xs, ht⟩, fun D hD => ?_⟩
  obtain ⟨Pv, p0, pk, pt, pe⟩ := z D hD
  refine lc_list (xs := xs) (fun i H' => ∃ acc, Pv i acc H') ⟨_, p0⟩ (fun i H' hi ⟨acc, p⟩ => (pk i acc H' hi p).1) (fun i x H' hx ⟨acc, p⟩ => ?_) fun H' ⟨acc, p⟩ => pe acc H' p
  have hi : i < xs.length := (List.getElem?_eq_some_iff.mp hx).1
  have la := (pk i acc H' (Nat.le_of_lt hi) p).2
  refine RG.mono (fun σ2 H2 z => ?_) (pt i x acc H' hx p)
  refine ⟨z.1, RTs.mono (fun b H3 z => ?_) z.2⟩
  cases b with
  | true => exact RE.mono (fun y H4 z => ⟨acc, z.1, Nat.lt_of_le_of_lt la (Nat.lt_of_lt_of_le hi (Nat.le_trans hl (by decide))), _, z.2⟩) z
  | false => exact ⟨_, z⟩
theorem lcL_FW (g : PyData → Option PyData) (q : RE c iter σ H fun x H1 => ∃ a xs ds, x = .ref a ∧ SqL c.K H1 a xs ∧ DtAll c.K H1 xs ds ∧ ds.length ≤ 100000 ∧ (∀ d x H', d ∈ ds → Same H1 H' → Dt c.K H' x d → TurnF (blkCd c scope) tg ifs elt vs σ c.K x H' (g d)) ∧
      ∀ p us H2, Same H1 H2 → H1 p = none → H2 p = some (.lst us) → DtAll c.K H2 us (ds.filterMap g) → Q (.ref p) H2) :
    tLc (RI c tg iter) (RG (blkCd c scope) tg) (RTs (blkCd c scope) ifs) (RE (blkCd c scope) elt) vs σ H Q := by
  refine lc_LW (RE.mono (fun x H1 z => ?_) q)
  obtain ⟨a, xs, ds, rfl, ht, ha, hl, t, k⟩ := z
  have hle := ha.len
  refine ⟨a, xs, rfl, ht, by omega, fun D hD => ⟨fun i acc H' => acc.length ≤ i ∧ H' D = some (.lst acc) ∧ Same H1 H' ∧ DtAll c.K H' acc ((ds.take i).filterMap g), ⟨Nat.le_refl _, upd_same, same_new hD, .nil⟩, ?_, ?_, ?_⟩⟩
  · rintro i acc H' _ ⟨l, _, s, _⟩
    exact ⟨s.seq ht, l⟩
  · rintro i x acc H' hx ⟨l, h1, s, h2⟩
    obtain ⟨d, hd, hx'⟩ := ha.getV hx
    have T := TurnF.one hD s h1 h2 (t d x H' (List.mem_of_getElem? hd) s (hx'.mono (tp_same s)))
    refine RG.mono (fun σ2 H2 z => ⟨z.1, RTs.mono (fun b H3 z => ?_) z.2⟩) T
    cases b with
    | true => exact RE.mono (fun y H4 z => ⟨z.1, by rw [List.length_append, List.length_singleton]; omega, z.2.1, z.2.2.1, by rw [← outs_step hd]; exact z.2.2.2⟩) z
    | false => exact ⟨by omega, z.1, z.2.1, by rw [← outs_step hd]; exact z.2.2⟩
  · rintro acc H' ⟨l, h1, s, h2⟩
    refine k D acc H' s hD h1 ?_
    rw [hle, List.take_length] at h2
    exact h2
end
end G
namespace K
open PySem PySem.Spec PyProof.Rows L2 G G.VD
variable {M : Md}
theorem ints_dt {K : PySem.W.Frag} {H : Hp} : ∀ {vals : St1} {xs : List V}, DtAll K H xs (vals.map .int) → xs = vals.map V.int
  | [], _, h => by cases h; rfl
  | x :: vals, _, h => by
    cases h with
    | cons h1 h2 =>
      cases h1
      rw [ints_dt h2]
      rfl
/-! ### all ways: the tree, told once for leaves and inner places -/
theorem kids_mono {A B : List Rn → St1 → List (List Nat) → Prop} (h : ∀ ms v o, A ms v o → B ms v o) : ∀ {nx : List Nxt} {outs : List (List Nat)}, KidsT A nx outs → KidsT B nx outs
  | [], _, e => e
  | _ :: _, _, ⟨o1, o2, a, k, e⟩ => ⟨o1, o2, h _ _ _ a, kids_mono h k, e⟩
theorem kids_ne {A : List Rn → St1 → List (List Nat) → Prop} (h : ∀ ms v o, A ms v o → o ≠ []) : ∀ {nx : List Nxt} {outs : List (List Nat)}, nx ≠ [] → KidsT A nx outs → outs ≠ []
  | [], _, n, _ => absurd rfl n
  | _ :: _, _, _, ⟨o1, o2, a, k, e⟩ => by
    rw [e]
    intro z
    have := (List.append_eq_nil_iff.mp z).1
    exact h _ _ _ a (List.map_eq_nil_iff.mp this)
theorem all_ne {rs : List Row} {codes : List (List Ins)} : ∀ (n : Nat) {ms : List Rn} {v : St1} {outs : List (List Nat)}, AllT rs codes n ms v outs → outs ≠ []
  | 0, ms, v, outs, h => by rw [h.2.2]; exact fun z => nomatch z
  | n + 1, ms, v, outs, ⟨_, nx, _, h⟩ => by
    rcases h with ⟨_, rfl⟩ | ⟨hn, h⟩
    · exact fun z => nomatch z
    · exact kids_ne (fun _ _ _ h => all_ne n h) hn h
theorem all_uni {rs : List Row} {codes : List (List Ins)} {n : Nat} {ms : List Rn} {v : St1} {outs : List (List Nat)} (h : AllT rs codes n ms v outs) :
    ms.length = codes.length ∧ ∃ nx o0, LonT rs ms v codes 0 nx ∧ KidsT (fun ms v o => ∃ m, n = m + 1 ∧ AllT rs codes m ms v o) nx o0 ∧ outs = if o0 = [] then [[]] else o0 := by
  cases n with
  | zero => exact ⟨h.1, [], [], h.2.1, rfl, h.2.2⟩
  | succ n =>
    obtain ⟨l, nx, L, h⟩ := h
    refine ⟨l, nx, ?_⟩
    rcases h with ⟨rfl, rfl⟩ | ⟨hn, h⟩
    · exact ⟨[], L, rfl, rfl⟩
    · refine ⟨outs, L, kids_mono (fun _ _ _ h => ⟨n, rfl, h⟩) h, ?_⟩
      rw [if_neg (kids_ne (fun _ _ _ h => all_ne n h) hn h)]
/-! ### the law's machines -/
/-- the law's machine at p is the run r -/
def McJ (H : Hp) (p : Addr × Addr) (r : Rn) : Prop := match r.1 with
  | some i => Own H p.1 p.2 i i r.2
  | none => ∃ (i : Int) (f : Bool) (kvs : List (Key × V)), H p.1 = some (.dK (okv i p.2 true f)) ∧ H p.2 = some (.dK kvs)
theorem McJ.km {H H' : Hp} {S : List Addr} {p : Addr × Addr} {r : Rn} (h : McJ H p r) (k : Km S H H') (n1 : p.1 ∉ S) (n2 : p.2 ∉ S) : McJ H' p r := by
  obtain ⟨a, s⟩ := r
  cases a with
  | none =>
    obtain ⟨i, f, kvs, g, g2⟩ := h
    exact ⟨i, f, kvs, k.k _ _ n1 g, k.k _ _ n2 g2⟩
  | some i =>
    have h : Own H p.1 p.2 i i s := h
    exact ⟨h.ne, k.k _ _ n1 h.g, let ⟨kv, g, l⟩ := h.s; ⟨kv, k.k _ _ n2 g, l⟩⟩
theorem McJ.same {H H' : Hp} {p : Addr × Addr} {r : Rn} (h : McJ H p r) (k : Same H H') : McJ H' p r := h.km (S := []) (km_same k) (fun z => nomatch z) (fun z => nomatch z)
/-- both of its dicts -/
theorem McJ.two {H : Hp} {p : Addr × Addr} {r : Rn} (h : McJ H p r) : ∃ (i : Int) (o f : Bool) (kvs : List (Key × V)), H p.1 = some (.dK (okv i p.2 o f)) ∧ H p.2 = some (.dK kvs) := by
  obtain ⟨a, s⟩ := r
  cases a with
  | none =>
    obtain ⟨i, f, kvs, g, g2⟩ := h
    exact ⟨i, true, f, kvs, g, g2⟩
  | some i =>
    have h : Own H p.1 p.2 i i s := h
    obtain ⟨kv, g, l⟩ := h.s
    exact ⟨i, false, false, kv, h.g, g⟩
/-- a copy of it is the same run -/
theorem McJ.copy {H H' : Hp} {p q : Addr × Addr} {r : Rn} (h : McJ H p r) {i : Int} {o f : Bool} {kvs : List (Key × V)} (g1 : H p.1 = some (.dK (okv i p.2 o f))) (g2 : H p.2 = some (.dK kvs)) (ne : q.1 ≠ q.2) (e1 : H' q.1 = some (.dK (okv i q.2 o f))) (e2 : H' q.2 = some (.dK kvs)) : McJ H' q r := by
  obtain ⟨a, s⟩ := r
  cases a with
  | none =>
    obtain ⟨i', f', kvs', g, g'⟩ := h
    rw [g1] at g
    injection g with g
    injection g with g
    have a1 : i = i' := by injection g with a _; injection a with _ a; injection a
    have a2 : o = true := by injection g with _ g; injection g with _ g; injection g with a _; injection a with _ a; injection a
    have a3 : f = f' := by injection g with _ g; injection g with _ g; injection g with _ g; injection g with a _; injection a with _ a; injection a
    subst a1 a2 a3
    exact ⟨i, f, kvs, e1, e2⟩
  | some j =>
    have h : Own H p.1 p.2 j j s := h
    have g := h.g
    rw [g1] at g
    injection g with g
    injection g with g
    have a1 : i = (j : Nat) := by injection g with a _; injection a with _ a; injection a
    have a2 : o = false := by injection g with _ g; injection g with _ g; injection g with a _; injection a with _ a; injection a
    have a3 : f = false := by injection g with _ g; injection g with _ g; injection g with _ g; injection g with a _; injection a with _ a; injection a
    subst a1 a2 a3
    obtain ⟨kv, gk, l, hk⟩ := h.s
    rw [g2] at gk
    injection gk with gk
    injection gk with gk
    subst gk
    exact ⟨ne, e1, kvs, e2, l, hk⟩
structure Apt (ap va lm : Addr) (ps : List (Addr × Addr)) : Prop where
  pw : ∀ (j k : Nat) (p q : Addr × Addr), ps[j]? = some p → ps[k]? = some q → j ≠ k → p.1 ≠ q.1 ∧ p.1 ≠ q.2 ∧ p.2 ≠ q.1 ∧ p.2 ≠ q.2
  hva : ∀ p ∈ ps, va ≠ p.1 ∧ va ≠ p.2
  hap : ∀ p ∈ ps, ap ∉ [p.1, p.2, va]
  hlm : ∀ p ∈ ps, lm ∉ [p.1, p.2, va]
theorem Apt.other {ap va lm : Addr} {ps : List (Addr × Addr)} (A : Apt ap va lm ps) {j k : Nat} {p q : Addr × Addr} (hp : ps[j]? = some p) (hq : ps[k]? = some q) (n : j ≠ k) : p.1 ∉ [q.1, q.2, va] ∧ p.2 ∉ [q.1, q.2, va] := by
  obtain ⟨a, b, c, d⟩ := A.pw j k p q hp hq n
  obtain ⟨e, f⟩ := A.hva p (List.mem_of_getElem? hp)
  constructor <;> (intro z; simp only [List.mem_cons, List.not_mem_nil, or_false] at z)
  · rcases z with z | z | z
    · exact a z
    · exact b z
    · exact e z.symm
  · rcases z with z | z | z
    · exact c z
    · exact d z
    · exact f z.symm
/-- an event of one of them -/
theorem mj_event {H : Hp} {ap va lm : Addr} {ps : List (Addr × Addr)} (A : Apt ap va lm ps) {rs : List Row} {code : List Ins} {r : Rn} {v : St1} {q : Rn × St1} {bb : Bool} (st : StpB rs code r v q bb) {p : Addr × Addr} (hp : p ∈ ps) {vl : V} (hc : Dt M.K H vl (codeD code)) (hm : IsM M H ap (pkv rs 0)) (nd : (rs.map (·.1)).Nodup) (mc : McJ H p r) (gv : H va = some (lsV v)) {Q : VK} {E : XK}
    (k : ∀ x H', Km [p.1, p.2, va] H H' → McJ H' p q.1 → H' va = some (lsV q.2) → (decide (x = V.non)) = !bb → Q x H') : spEv2 M [.ref ap, vl, .ref p.1, .ref va] H Q E := by
  obtain ⟨a, s⟩ := r
  cases a with
  | none =>
    obtain ⟨e, rfl⟩ := st
    obtain rfl : q = ((none, s), v) := e
    obtain ⟨i, f, kvs, g, g2⟩ := mc
    exact .inr ⟨ap, p.1, p.2, va, vl, i, f, rfl, g, k _ _ (km_same (Same.refl _)) ⟨i, f, kvs, g, g2⟩ gv (decide_eq_true rfl)⟩
  | some i =>
    obtain ⟨c, n, o, C, At_, R, rfl, rfl⟩ := st
    have O : Own H p.1 p.2 i i s := mc
    obtain ⟨n1, n2⟩ := A.hva p hp
    refine .inl ⟨ap, p.1, p.2, va, vl, rs, code, c, n, i, s, v, o, rfl, hm, nd, O, hc, C, At_, gv, n1, n2, A.hap p hp, R, fun x H' km ov => k x H' km ?_ ?_ ?_⟩
    · cases o with
      | go a s => exact absurd rfl (runs_no R a s)
      | ev w j x a s vs => exact ov.2.1
      | fault a s => exact let ⟨_, ⟨i, g⟩, _, kv, g2⟩ := ov; ⟨i, true, kv, g, g2⟩
      | over a s => exact let ⟨_, ⟨i, g⟩, _, kv, g2⟩ := ov; ⟨i, false, kv, g, g2⟩
    · cases o with
      | go a s => exact absurd rfl (runs_no R a s)
      | ev w j x a s vs => exact ov.2.2
      | fault a s => exact ov.2.2.1
      | over a s => exact ov.2.2.1
    · cases o with
      | go a s => exact absurd rfl (runs_no R a s)
      | ev w j y a s vs => exact decide_eq_false (ev_ref ov.1)
      | fault a s => exact decide_eq_true ov.1
      | over a s => exact decide_eq_true ov.1
/-- the law's machines, cells and places -/
structure Sit (M : Md) (H : Hp) (ap lm va : Addr) (ps : List (Addr × Addr)) (rs : List Row) (codes : List (List Ins)) (ms : List Rn) (v : St1) : Prop where
  hm : IsM M H ap (pkv rs 0)
  lm : H lm = some (.lst (ps.map fun p : Addr × Addr => V.ref p.1))
  va : H va = some (lsV v)
  pl : ps.length = codes.length
  mc : ∀ (k : Nat) p r, ps[k]? = some p → ms[k]? = some r → McJ H p r
theorem Sit.same {H H' : Hp} {ap lm va : Addr} {ps : List (Addr × Addr)} {rs : List Row} {codes : List (List Ins)} {ms : List Rn} {v : St1} (h : Sit M H ap lm va ps rs codes ms v) (s : Same H H') : Sit M H' ap lm va ps rs codes ms v :=
  ⟨h.hm.same s, s _ _ h.lm, s _ _ h.va, h.pl, fun k p r a b => (h.mc k p r a b).same s⟩
end K

namespace K
open PySem PySem.Spec PyProof.Rows L2 G G.VD
variable {M : Md}
def gCons (k : Nat) : PyData → Option PyData
  | .tuple ds => some (.tuple (.int (k : Nat) :: ds))
  | _ => none
theorem gCons_plan (k : Nat) (o : List Nat) : gCons k (planD o) = some (planD (k :: o)) := rfl
theorem gCons_all (k : Nat) : ∀ outs : List (List Nat), (outs.map planD).filterMap (gCons k) = (outs.map (k :: ·)).map planD
  | [] => rfl
  | o :: r => by
    rw [List.map_cons, List.map_cons, List.map_cons, List.filterMap_cons_some (gCons_plan k o), gCons_all k r]
def spLAll (M : Md) (n : Nat) : Sp := fun vs H Q _ => ∃ (ap lm va : Addr) (vd : V) (ps : List (Addr × Addr)) (rs : List Row) (codes : List (List Ins)) (ms : List Rn) (v : St1) (outs : List (List Nat)), vs = [.ref ap, vd, .ref lm, .ref va] ∧ Sit M H ap lm va ps rs codes ms v ∧ (rs.map (·.1)).Nodup ∧ Dt M.K H vd (codesD codes) ∧ codes.length ≤ 100 ∧ AllT rs codes n ms v outs ∧ outs.length ≤ 100000 ∧ (∀ o ∈ outs, o.length ≤ 1000) ∧
  ∀ l us H', Same H H' → H l = none → H' l = some (.lst us) → DtAll M.K H' us (outs.map planD) → Q (.ref l) H'
abbrev dcLAll (M : Md) (n : Nat) : Prop := Dc M "_law_all" ["_law_places_here", "_law_sheets", "_law_machines", "_law_values"] (n + 5) (spLAll M n)
set_option maxHeartbeats 16000000 in
theorem ok_lall (n : Nat) {f fd} (F : Fun M.K "_law_all" "_law_all" s__law_all f fd) (b : Bl M) (dco : dcCop M) (de : dcEve M) (ih : ∀ m, n = m + 1 → dcLAll M m) : FnG M.prog M.w M.K M.mg M.base CX0 (n + 5) f fd ["_law_places_here", "_law_sheets", "_law_machines", "_law_values"] (spLAll M n) := by
  refine fn_ok F sc__law_all (fun vs H Q E h => by obtain ⟨_, _, _, _, _, _, _, _, _, _, rfl, _⟩ := h; rfl) (fun H vs Q E h => ?_)
  obtain ⟨ap, lm, va, vd, ps, rs, codes, ms, v, outs, rfl, S, nd, hd, few, T, ol, op, k⟩ := h
  obtain ⟨ml, nx, o0, L, Ks, eo⟩ := all_uni T
  have hd : Dt M.K H vd (.tuple (codes.map codeD)) := hd
  have apN : H ap ≠ none := by
    obtain ⟨xs, gx, _⟩ := S.hm
    rw [gx]
    exact fun z => nomatch z
  have o0l : o0.length ≤ outs.length ∧ ∀ o ∈ o0, o.length ≤ 1000 := by
    by_cases e : o0 = []
    · subst e
      exact ⟨Nat.zero_le _, fun _ h => nomatch h⟩
    · rw [if_neg e] at eo
      subst eo
      exact ⟨Nat.le_refl _, op⟩
  refine b_cut (fun σ1 H1 => ∃ lf, σ1 = [some (.ref ap), some vd, some (.ref lm), some (.ref va), some (.ref lf), none, none, none, none, none] ∧ Same H H1 ∧ H lf = none ∧ H1 lf = some (.lst [])) ?_ ?_
  · refine s_set (by tm_at "at") (e_lstD ?_)
    tm_at "go"
    exact ⟨(Nat.le_of_ble_eq_true rfl), fun p H1 s1 n1 g1 => ⟨p, rfl, s1, n1, g1⟩⟩
  rintro _ H1 ⟨lf, rfl, s1, n1, g1⟩
  refine b_cut (fun σ1 H2 => ∃ w5 w6 w7 w8 w9 us, σ1 = [some (.ref ap), some vd, some (.ref lm), some (.ref va), some (.ref lf), w5, w6, w7, w8, w9] ∧ Same H H2 ∧ H2 lf = some (.lst us) ∧ DtAll M.K H2 us (o0.map planD)) ?_ ?_
  · refine s_forR1 b.range ?_
    tm_at "go"
    refine rc_lenT (hd.mono (tp_same s1)) ?_
    rw [List.length_map]
    refine ⟨_, rfl, by omega, by omega, fun i σ' H4 => ∃ w5 w6 w7 w8 w9 us rest done todo, σ' = [some (.ref ap), some vd, some (.ref lm), some (.ref va), some (.ref lf), w5, w6, w7, w8, w9] ∧ Same H H4 ∧ H4 lf = some (.lst us) ∧ DtAll M.K H4 us (done.map planD) ∧ LonT rs ms v (codes.drop i) i rest ∧ KidsT (fun ms v o => ∃ m, n = m + 1 ∧ AllT rs codes m ms v o) rest todo ∧ o0 = done ++ todo, ⟨none, none, none, none, none, [], nx, [], o0, rfl, s1, g1, .nil, L, Ks, rfl⟩, ?_, ?_⟩
    · rintro i σ' H4 hi ⟨w5, w6, w7, w8, w9, us, rest, done, todo, rfl, s4, g4, h4, L, Ks, e0⟩
      have hi : i < codes.length := by omega
      obtain ⟨code, hcode⟩ : ∃ code, codes[i]? = some code := ⟨_, List.getElem?_eq_getElem hi⟩
      have ed : codes.drop i = code :: codes.drop (i + 1) := by
        obtain ⟨a1, a2⟩ := List.getElem?_eq_some_iff.mp hcode
        rw [← a2]
        exact List.drop_eq_getElem_cons a1
      rw [ed] at L
      obtain ⟨r, q, bb, rest2, hri, st, L2, er⟩ := L
      have S4 := S.same s4
      have dl := h4.len
      rw [List.length_map] at dl
      refine g_name (by tm_at "at") ?_
      -- the copies
      refine b_cut (fun σ1 H5 => ∃ lm' va' qs, σ1 = [some (.ref ap), some vd, some (.ref lm), some (.ref va), some (.ref lf), some (.int (i : Nat)), some (.ref lm'), some (.ref va'), w8, w9] ∧ Same H4 H5 ∧ H4 va' = none ∧ (∀ p ∈ qs, H4 (Prod.fst p) = none ∧ H4 (Prod.snd p) = none) ∧ Apt ap va' lm' qs ∧ Sit M H5 ap lm' va' qs rs codes ms v) ?_ ?_
      · refine s_par2 (by tm_at "at") (by tm_at "at") ?_
        refine e_lc (own := [("_law_own", 8)]) (Blk.of (N := N__law_all) (sc := defScope s__law_all) rfl rfl (by decide +kernel)) ?_
        refine lc_L ?_
        tm_at "go"
        refine ⟨lm, _, rfl, .of S4.lm, by rw [List.length_map, S4.pl]; omega, fun D hD => ?_⟩
        refine ⟨fun t acc H' => ∃ qs : List (Addr × Addr), acc = qs.map (fun p => V.ref p.1) ∧ qs.length = t ∧ Same H4 H' ∧ H' D = some (.lst acc) ∧ (∀ p ∈ qs, H4 p.1 = none ∧ H4 p.2 = none ∧ H' p.1 ≠ none ∧ H' p.2 ≠ none ∧ p.1 ≠ D ∧ p.2 ≠ D) ∧ (∀ (j k : Nat) (p q : Addr × Addr), qs[j]? = some p → qs[k]? = some q → j ≠ k → p.1 ≠ q.1 ∧ p.1 ≠ q.2 ∧ p.2 ≠ q.1 ∧ p.2 ≠ q.2) ∧ ∀ (k : Nat) p r, qs[k]? = some p → ms[k]? = some r → McJ H' p r, ?_, ?_, ?_, ?_⟩
        · exact ⟨[], rfl, rfl, same_new hD, upd_same, (fun _ h => nomatch h), (fun _ _ _ _ h => by simp at h), fun _ _ _ h => by simp at h⟩
        · rintro t acc H' _ ⟨qs, rfl, l, s, _⟩
          exact ⟨.of (s _ _ S4.lm), by rw [List.length_map, l]; exact Nat.le_refl _⟩
        · rintro t x acc H' hx ⟨qs, rfl, l, s, gD, ho, pw, mc⟩
          rw [List.getElem?_map] at hx
          obtain ⟨p, hp, rfl⟩ := Option.map_eq_some_iff.mp hx
          have tl := (List.getElem?_eq_some_iff.mp hp).1
          rw [S4.pl] at tl
          obtain ⟨rt, hrt⟩ : ∃ rt, ms[t]? = some rt := ⟨_, List.getElem?_eq_getElem (by omega)⟩
          have mcp := S4.mc t p rt hp hrt
          obtain ⟨ii, oo, ff, kvs, ga, gs⟩ := mcp.two
          refine g_name (by tm_at "at") ⟨rfl, ts_nil (ift ?_)⟩
          refine e_call dco ?_
          tm_at "go"
          refine ⟨p.1, p.2, ii, oo, ff, kvs, rfl, s _ _ ga, s _ _ gs, fun a sa H2 s2 na nsa ne ea es => ?_⟩
          have gD2 := s2 _ _ gD
          have aD : a ≠ D := fun z => by rw [z, gD] at na; cases na
          have sD : sa ≠ D := fun z => by rw [z, gD] at nsa; cases nsa
          have old : ∀ p ∈ qs, p.1 ≠ a ∧ p.1 ≠ sa ∧ p.2 ≠ a ∧ p.2 ≠ sa := fun p hp => by
            obtain ⟨_, _, h1, h2, _⟩ := ho p hp
            exact ⟨fun z => h1 (z ▸ na), fun z => h1 (z ▸ nsa), fun z => h2 (z ▸ na), fun z => h2 (z ▸ nsa)⟩
          have kD : Km [D] H2 (upd H2 D (.lst (qs.map (fun p => V.ref p.1) ++ [.ref a]))) := km_lst gD2 (by simp)
          have some2 : ∀ {x : Addr}, H' x ≠ none → x ≠ D → (upd H2 D (.lst (qs.map (fun p => V.ref p.1) ++ [.ref a]))) x ≠ none := fun {x} h n => by
            rw [upd_ne n]
            intro z
            exact h (same_none s2 z)
          refine ⟨gD2, qs ++ [(a, sa)], by rw [List.map_append]; rfl, by rw [List.length_append, l]; rfl, same_mut (s.trans s2) hD, upd_same, fun p hp => ?_, fun j k p q hj hk n => ?_, fun j p r hj hr => ?_⟩
          · rcases List.mem_append.mp hp with h | h
            · obtain ⟨n1, n2, n3, n4, d1, d2⟩ := ho p h
              exact ⟨n1, n2, some2 n3 d1, some2 n4 d2, d1, d2⟩
            · rw [List.mem_singleton.mp h]
              refine ⟨same_none s na, same_none s nsa, ?_, ?_, aD, sD⟩
              · rw [upd_ne aD, ea]; exact fun z => nomatch z
              · rw [upd_ne sD, es]; exact fun z => nomatch z
          · have at_ : ∀ {j : Nat} {p : Addr × Addr}, (qs ++ [(a, sa)])[j]? = some p → (qs[j]? = some p ∧ p ∈ qs) ∨ (j = qs.length ∧ p = (a, sa)) := fun {j p} h => by
              rcases Nat.lt_trichotomy j qs.length with c | c | c
              · rw [List.getElem?_append_left c] at h
                exact .inl ⟨h, List.mem_of_getElem? h⟩
              · subst c
                rw [List.getElem?_append_right (Nat.le_refl _), Nat.sub_self] at h
                cases h
                exact .inr ⟨rfl, rfl⟩
              · rw [List.getElem?_eq_none (by rw [List.length_append]; show qs.length + 1 ≤ j; omega)] at h
                cases h
            rcases at_ hj with ⟨a1, a2⟩ | ⟨a1, rfl⟩ <;> rcases at_ hk with ⟨b1, b2⟩ | ⟨b1, rfl⟩
            · exact pw j k p q a1 b1 n
            · exact old p a2
            · obtain ⟨z1, z2, z3, z4⟩ := old q b2
              exact ⟨z1.symm, z3.symm, z2.symm, z4.symm⟩
            · exact absurd (a1.trans b1.symm) n
          · rcases Nat.lt_trichotomy j qs.length with c | c | c
            · rw [List.getElem?_append_left c] at hj
              obtain ⟨_, _, _, _, d1, d2⟩ := ho p (List.mem_of_getElem? hj)
              exact ((mc j p r hj hr).same s2).km kD (by simpa using d1) (by simpa using d2)
            · subst c
              rw [List.getElem?_append_right (Nat.le_refl _), Nat.sub_self] at hj
              cases hj
              rw [l, hrt] at hr
              cases hr
              exact mcp.copy ga gs ne (by rw [upd_ne aD]; exact ea) (by rw [upd_ne sD]; exact es)
            · rw [List.getElem?_eq_none (by rw [List.length_append]; show qs.length + 1 ≤ j; omega)] at hj
              cases hj
        · rintro acc H' ⟨qs, rfl, l, s, gD, ho, pw, mc⟩
          rw [List.length_map, S4.pl] at l
          tm_at "go"
          refine rc_lstL (.of (s _ _ S4.va)) fun va' H5 s5 nva gva => ?_
          have nva4 := same_none s nva
          have vaN : ∀ p ∈ qs, va' ≠ p.1 ∧ va' ≠ p.2 := fun p hp => by
            obtain ⟨_, _, h1, h2, _⟩ := ho p hp
            exact ⟨fun z => h1 (z ▸ nva), fun z => h2 (z ▸ nva)⟩
          have ap4 : H4 ap ≠ none := fun z => apN (same_none s4 z)
          refine ⟨D, va', qs, rfl, s.trans s5, nva4, fun p hp => let ⟨n1, n2, _⟩ := ho p hp; ⟨n1, n2⟩, ⟨pw, vaN, fun p hp => ?_, fun p hp => ?_⟩, ⟨IsM.same S4.hm (s.trans s5), s5 _ _ gD, gva, l, fun j p r hj hr => (mc j p r hj hr).same s5⟩⟩
          · obtain ⟨n1, n2, _⟩ := ho p hp
            intro z
            simp only [List.mem_cons, List.not_mem_nil, or_false] at z
            rcases z with z | z | z
            · exact ap4 (z ▸ n1)
            · exact ap4 (z ▸ n2)
            · exact ap4 (z ▸ nva4)
          · obtain ⟨_, _, _, _, d1, d2⟩ := ho p hp
            intro z
            simp only [List.mem_cons, List.not_mem_nil, or_false] at z
            rcases z with z | z | z
            · exact d1 z.symm
            · exact d2 z.symm
            · rw [z, nva] at gD; cases gD
      rintro _ H5 ⟨lm', va', qs, rfl, s5, nva, nqs, AP, S5⟩
      obtain ⟨p, hp⟩ : ∃ p, qs[i]? = some p := ⟨_, List.getElem?_eq_getElem (by rw [S5.pl]; exact hi)⟩
      have pm := List.mem_of_getElem? hp
      have sH5 := s4.trans s5
      have nS : ∀ x ∈ [p.1, p.2, va'], H4 x = none := fun x hx => by
        simp only [List.mem_cons, List.not_mem_nil, or_false] at hx
        rcases hx with rfl | rfl | rfl
        · exact (nqs p pm).1
        · exact (nqs p pm).2
        · exact nva
      refine b_one (s_if (t_cmp ?_))
      refine e_call de ?_
      tm_at "run"
      refine rx_tup (hd.mono (tp_same sH5)) (pl_at (j := i) rfl (by rw [List.getElem?_map, hcode]; rfl)) fun vco hco => ?_
      tm_at "run"
      refine rx_list (.of S5.lm) (pl_at (j := i) rfl (by rw [List.getElem?_map, hp]; rfl)) ?_
      tm_at "run"
      refine mj_event AP st pm hco S5.hm nd (S5.mc i p r hp hri) S5.va fun x H6 km mcq gv6 ex => ?_
      tm_at "run"
      rw [ex, Bool.not_not]
      have s46 : Same H4 H6 := same_km s5 km nS
      have g6 := s46 _ _ g4
      have h6 := h4.mono (tp_same s46)
      cases bb with
      | false =>
        rw [if_neg (by decide)] at er
        subst er
        refine iff0 ?_
        refine b_nil ?_
        exact ⟨_, _, _, _, _, us, rest, done, todo, rfl, s4.trans s46, g6, h6, L2, Ks, e0⟩
      | true =>
        rw [if_pos rfl] at er
        subst er
        obtain ⟨t1, t2, ⟨m, em, A1⟩, Ks2, et⟩ := Ks
        have et : todo = t1.map (i :: ·) ++ t2 := et
        subst et
        have t1l : (done ++ t1.map (i :: ·)).length ≤ 100000 := by
          have := o0l.1
          rw [e0, List.length_append, List.length_append] at this
          rw [List.length_append]
          omega
        have t1o : ∀ o ∈ t1, o.length ≤ 999 := fun o ho => by
          have := o0l.2 (i :: o) (by
            rw [e0]
            exact List.mem_append_right _ (List.mem_append_left _ (List.mem_map.mpr ⟨o, ho, rfl⟩)))
          rw [List.length_cons] at this
          omega
        rw [List.length_append, List.length_map] at t1l
        have S6 : Sit M H6 ap lm' va' qs rs codes (ms.set i q.1) q.2 := ⟨IsM.km S5.hm km (AP.hap p pm), km.k _ _ (AP.hlm p pm) S5.lm, gv6, S5.pl, fun j p' r' hj hr' => by
          by_cases e : j = i
          · subst e
            cases hp.symm.trans hj
            rw [List.getElem?_set_self (List.getElem?_eq_some_iff.mp hri).1] at hr'
            cases hr'
            exact mcq
          · rw [List.getElem?_set_ne (Ne.symm e)] at hr'
            obtain ⟨n1, n2⟩ := AP.other hj hp e
            exact (S5.mc j p' r' hj hr').km km n1 n2⟩
        refine ift ?_
        refine b_one (s_expr (e_ext (e_var (by tm_at "at") ⟨lf, us, rfl, g6, ?_⟩)))
        refine e_lc (own := [("_law_rest", 9)]) (Blk.of (N := N__law_all) (sc := defScope s__law_all) rfl rfl (by decide +kernel)) ?_
        refine lcL_FW (gCons i) ?_
        refine e_call (ih m em) ?_ (hk := by subst em; exact Nat.le_refl _)
        tm_at "go"
        refine ⟨ap, lm', va', vd, qs, rs, codes, ms.set i q.1, q.2, t1, rfl, S6, nd, hd.mono (tp_same (s4.trans s46)), few, A1, by omega, fun o ho => Nat.le_of_lt (Nat.lt_of_le_of_lt (t1o o ho) (by decide)), fun l us2 H7 s7 n7 g7 h7 => ?_⟩
        refine ⟨l, us2, _, rfl, .of g7, h7, by rw [List.length_map]; omega, fun d x H' hm s3 hv => ?_, fun l2 us3 H8 s8 n8 g8 h8 => ?_⟩
        · obtain ⟨o, ho, rfl⟩ := List.mem_map.mp hm
          refine g_name (by tm_at "at") ⟨rfl, rfl, ts_nil ⟨Same.refl _, ift ?_⟩⟩
          refine e_bin (e_tupD (a_cons (e_var (by tm_at "at") (a_nil ?_))))
          refine tupend (ds := [.int (i : Nat)]) (.cons (.int _) .nil) (Nat.le_of_ble_eq_true rfl) fun z1 HA sA hA => ?_
          tm_at "go"
          refine ro_catT hA (show Dt M.K HA x (.tuple (o.map fun k => .int (k : Nat))) from hv.mono (tp_same sA)) (by rw [List.length_map]; have := t1o o ho; show 1 + o.length ≤ 100000; omega) fun z2 HB sB hB => ?_
          exact ⟨sA.trans sB, _, gCons_plan i o, hB⟩
        · have s68 := s7.trans s8
          have g68 := s68 _ _ g6
          rw [gCons_all] at h8
          have l3 := h8.len
          rw [List.length_map, List.length_map] at l3
          refine ⟨l2, us, us3, rfl, g68, g8, by omega, ?_⟩
          have ku := kp_upd (o' := .lst (us ++ us3)) g68 (fun _ e => nomatch e) (fun _ _ e => nomatch e)
          refine ⟨_, _, _, _, _, us ++ us3, rest2, done ++ t1.map (i :: ·), t2, rfl, same_mut (s4.trans (s46.trans s68)) n1, upd_same, ?_, L2, Ks2, by rw [List.append_assoc]; exact e0⟩
          rw [List.map_append]
          exact ((h6.mono (tp_same s68)).mono ku.t).app (h8.mono ku.t)
    · rintro σ' H4 ⟨w5, w6, w7, w8, w9, us, rest, done, todo, rfl, s4, g4, h4, L, Ks, e0⟩
      have L : LonT rs ms v (codes.drop (codes.length : Int).toNat) (codes.length : Int).toNat rest := L
      rw [Int.toNat_natCast, List.drop_length] at L
      obtain rfl : rest = [] := L
      obtain rfl : todo = [] := Ks
      rw [List.append_nil] at e0
      subst e0
      exact ⟨_, _, _, _, _, us, rfl, s4, g4, h4⟩
  rintro _ H2 ⟨w5, w6, w7, w8, w9, us, rfl, s2, g2, h2⟩
  refine b_one (s_ret (e_if (t_cmp ?_)))
  tm_at "go"
  refine e_lstD ?_
  tm_at "go"
  refine ⟨(Nat.le_of_ble_eq_true rfl), fun q9 H4 s4 n4 g4 => ?_⟩
  refine ro_neNil (n := 3) (s4 _ _ g2) (h2.mono (tp_same s4)) (fun d hd => ?_) (by decide) g4 ?_
  · obtain ⟨o, _, rfl⟩ := List.mem_map.mp hd
    exact shp_pl o
  refine ⟨_, rfl, ?_⟩
  cases o0 with
  | nil =>
    rw [if_pos rfl] at eo
    subst eo
    refine iff0 ?_
    refine e_lstD (a_cons (e_tupD (a_nil ?_)))
    refine tupend (ds := []) .nil (Nat.le_of_ble_eq_true rfl) fun z1 HA sA hA => ?_
    refine a_nil ⟨(Nat.le_of_ble_eq_true rfl), fun l H6 s6 n6 g6 => ?_⟩
    have s26 := s2.trans (s4.trans (sA.trans s6))
    exact k l _ _ s26 (same_none (s2.trans (s4.trans sA)) n6) g6 (.cons (hA.mono (tp_same s6)) .nil)
  | cons o r =>
    rw [if_neg (fun z => nomatch z)] at eo
    subst eo
    refine ift ?_
    tm_at "go"
    exact k lf _ _ (s2.trans s4) n1 (s4 _ _ g2) (h2.mono (tp_same s4))
end K

namespace G
open PySem PySem.Spec PyProof.Rows L2 GenW
/-! ### a generator def called with keywords -/
section
variable {X : Cx} {k : Nat} {f : Addr} {fd : FuncData} {ps ks : List Str} {sp : SpG} {x : Str} {p pos : Pos} {kws : List Keyword} {t : TA} {E : XK}
theorem pgen_kw {g : List Value → List Value} {gV : List V → List V} (F : GFn X.prog X.w X.K X.mg X.base k f fd ps sp) (room : Room k X.A) (gl : Gl X x) (hm : X.mg x = some (.ref f)) (kp : PySem.W.keepIn X.K (.ref f) = true)
    (bn : ∀ (s : Shared) (ws : List Value), ws.length = ks.length → BindsTo s fd ⟨[], ks.zip ws⟩ (ps.zip (g ws))) (rel : ∀ (zs : List V) (ws : List Value), Vals zs ws → zs.length = ks.length → Vals (gV zs) (g ws)) (hkw : PK X kws t)
    (h1 : (backToKw pos (keywordEach kws X.env)).all (·.1.isSome) = true) (h2 : (backToKw pos (keywordEach kws X.env)).filterMap (·.1) = ks) (hdb : (x == ("__debug__" : Str)) = false)
    (h3 : ((backTo pos (starEach [] X.env)).any (·.1) || (backToKw pos (keywordEach kws X.env)).any (·.1.isNone)) = false) :
    PGen X k (.Call (.Name x p) [] kws pos) (fun σ H cont => t σ H fun zs H2 => zs.length = ks.length ∧ sp (gV zs) H2 cont E) E := by
  refine ⟨fun pins s σ H cont I h => ?_⟩
  refine wpAny_Call_Name_kw (ld_glob I gl hm ?_ hdb)
  refine PySem.W.callWith_KW0 (h₀ := X.base) I.ok.mod.kin kp h1 ?_ h3
  refine thn (hkw.run pos pins s σ H _ I h) fun ws s1 ⟨zs, H1, J1, rz, lz, q⟩ => ⟨J1.kIn, ?_⟩
  rw [h2]
  refine wpAny_call (codeAny_mono (F.run X.A X.stack s1 H1 ⟨[], ks.zip ws⟩ (g ws) (gV zs) cont E room J1.env0 (bn s1 ws (rz.length.symm.trans lz)) (rel zs ws rz lz) q) fun r s' hq => ?_)
  cases r with
  | error e => exact False.elim hq
  | ok fl =>
    cases fl with
    | ret u => exact ⟨H1, s1, [], J1, .nil, hq⟩
    | next => exact False.elim hq
    | brk => exact False.elim hq
    | cont => exact False.elim hq
end
structure DcGk (c : Md) (x : Str) (ps ks : List Str) (gV : List V → List V) (k : Nat) (sp : SpG) : Prop where
  ex : ∃ (f : Addr) (fd : FuncData) (g : List Value → List Value), GFn c.prog c.w c.K c.mg c.base k f fd ps sp ∧ c.mg x = some (.ref f) ∧ PySem.W.keepIn c.K (.ref f) = true ∧ (∀ (s : Shared) (ws : List Value), ws.length = ks.length → BindsTo s fd ⟨[], ks.zip ws⟩ (ps.zip (g ws))) ∧
    ∀ (zs : List V) (ws : List Value), Vals zs ws → zs.length = ks.length → Vals (gV zs) (g ws)
section
variable {c : Cd} {σ : L2.St} {H : Hp} {Q : VK} {pos : Pos}
/-- list(f(a=e, ..)) of a generator def -/
theorem e_listGk {x : Str} {p p1 p2 : Pos} {kws : List Keyword} {ps ks : List Str} {gV : List V → List V} {k : Nat} {sp : SpG} (D : DcGk c.toMd x ps ks gV k sp) (hm0 : c.mg "list" = none) (q : RPK c kws σ H fun zs H1 => zs.length = ks.length ∧ sp (gV zs) H1 (fun out H2 => ∀ p, H2 p = none → Q (.ref p) (upd H2 p (.lst out))) fun _ _ _ => False) (hk : k + 3 ≤ c.k := by exact Nat.le_of_ble_eq_true rfl) (hg : c.sc.names.lookup x = some .globalImplicit := by rfl) (hg2 : c.sc.names.lookup ("list" : Str) = some .globalImplicit := by rfl)
    (h1 : ∀ env, (backToKw p2 (keywordEach kws env)).all (·.1.isSome) = true := by intro _; rfl) (h2 : ∀ env, (backToKw p2 (keywordEach kws env)).filterMap (·.1) = ks := by intro _; rfl) (hdb : (x == ("__debug__" : Str)) = false := by decide)
    (h3 : ∀ env, ((backTo p2 (starEach [] env)).any (·.1) || (backToKw p2 (keywordEach kws env)).any (·.1.isNone)) = false := by intro _; rfl) (h4 : ∀ env, starEach [.Call (.Name x p1) [] kws p2] env = (false, eval (.Call (.Name x p1) [] kws p2) env) :: starEach [] env := by intro _; rfl) :
    RE c (.Call (.Name "list" p) [.Call (.Name x p1) [] kws p2] [] pos) σ H Q := by
  obtain ⟨f, fd, g, F, hm, hkp, hb, hr⟩ := D.ex
  refine re_of (t := tListG (fun σ H cont => RPK c kws σ H fun zs H2 => zs.length = ks.length ∧ sp (gV zs) H2 cont fun _ _ _ => False)) (fun X h => ?_) q
  refine pe_listG (k := k) (E := fun _ _ _ => False) (pgen_kw (f := f) (fd := fd) (ps := ps) (ks := ks) (g := g) (gV := gV) ?_ (h.room.mono (Nat.le_trans (Nat.le_add_right _ _) hk)) (gl_of h hg) (by rw [h.mg]; exact hm) (by rw [h.K]; exact hkp) hb hr (pk_rk h) (h1 _) (h2 _) hdb (h3 _)) (fun _ _ _ _ _ _ _ z => by obtain ⟨_, _, _, _, _, _, _, _, _, _, _, _, hf⟩ := z; exact hf.elim) (fun _ _ _ z => z.elim) (h.room.mono hk) (gl_of h hg2) (by rw [h.mg]; exact hm0) (by decide +kernel) (by decide) (by decide) (h4 _)
  rw [h.prog, h.w, h.K, h.mg, h.base]; exact F
end
end G
namespace K
open PySem PySem.Spec PyProof.Rows L2 G G.VD
variable {M : Md}
/-! ### how many they are -/
theorem lon_in {rs : List Row} {ms : List Rn} {v : St1} : ∀ {cs : List (List Ins)} {k : Nat} {out : List Nxt}, LonT rs ms v cs k out → ∀ x ∈ out, x.1 < k + cs.length
  | [], _, _, h, x, hx => by
    rw [show _ = [] from h] at hx
    cases hx
  | code :: cs, k, out, ⟨_, q, b, rest, _, _, h, e⟩, x, hx => by
    have ih := lon_in h
    rw [List.length_cons]
    rw [e] at hx
    cases b with
    | true =>
      rcases List.mem_cons.mp hx with rfl | hx
      · show k < _
        omega
      · have := ih x hx
        omega
    | false =>
      have := ih x hx
      omega
theorem kids_bd {A : List Rn → St1 → List (List Nat) → Prop} {B n c : Nat} (h : ∀ ms v o, A ms v o → o.length ≤ B ∧ ∀ p ∈ o, p.length ≤ n ∧ ∀ k ∈ p, k < c) : ∀ {nx : List Nxt} {outs : List (List Nat)}, (∀ x ∈ nx, x.1 < c) → KidsT A nx outs → outs.length ≤ nx.length * B ∧ ∀ p ∈ outs, p.length ≤ n + 1 ∧ ∀ k ∈ p, k < c
  | [], outs, _, e => by
    obtain rfl : outs = [] := e
    exact ⟨Nat.zero_le _, fun _ h => nomatch h⟩
  | x :: r, outs, hx, ⟨o1, o2, a, k, e⟩ => by
    obtain ⟨h1, h2⟩ := h _ _ _ a
    obtain ⟨h3, h4⟩ := kids_bd h (fun y hy => hx y (List.mem_cons_of_mem _ hy)) k
    subst e
    refine ⟨?_, fun p hp => ?_⟩
    · rw [List.length_append, List.length_map, List.length_cons, Nat.succ_mul]
      omega
    · rcases List.mem_append.mp hp with z | z
      · obtain ⟨q, hq, rfl⟩ := List.mem_map.mp z
        obtain ⟨h5, h6⟩ := h2 q hq
        refine ⟨by rw [List.length_cons]; omega, fun j hj => ?_⟩
        rcases List.mem_cons.mp hj with rfl | hj
        · exact hx x (List.mem_cons_self ..)
        · exact h6 j hj
      · exact h4 p z
theorem all_bd {rs : List Row} {codes : List (List Ins)} (c1 : 1 ≤ codes.length) : ∀ (n : Nat) {ms : List Rn} {v : St1} {outs : List (List Nat)}, AllT rs codes n ms v outs → outs.length ≤ codes.length ^ n ∧ ∀ p ∈ outs, p.length ≤ n ∧ ∀ k ∈ p, k < codes.length
  | 0, ms, v, outs, h => by
    rw [h.2.2]
    refine ⟨Nat.le_refl _, fun p hp => ?_⟩
    rw [List.mem_singleton.mp hp]
    exact ⟨Nat.le_refl _, fun _ h => nomatch h⟩
  | n + 1, ms, v, outs, ⟨_, nx, L, h⟩ => by
    rcases h with ⟨_, rfl⟩ | ⟨_, h⟩
    · refine ⟨Nat.pow_pos c1, fun p hp => ?_⟩
      rw [List.mem_singleton.mp hp]
      exact ⟨Nat.zero_le _, fun _ h => nomatch h⟩
    · obtain ⟨h1, h2⟩ := kids_bd (fun _ _ _ a => all_bd c1 n a) (fun x hx => by have := lon_in L x hx; omega) h
      refine ⟨Nat.le_trans h1 ?_, h2⟩
      rw [Nat.pow_succ, Nat.mul_comm]
      exact Nat.mul_le_mul_left _ (lon_len L)
theorem all_up {rs : List Row} {codes : List (List Ins)} : ∀ (n : Nat) {ms : List Rn} {v : St1} {outs : List (List Nat)}, AllT rs codes n ms v outs → AllT rs codes (n + 1) ms v outs
  | 0, ms, v, outs, h => ⟨h.1, [], h.2.1, .inl ⟨rfl, h.2.2⟩⟩
  | n + 1, ms, v, outs, ⟨l, nx, L, h⟩ => by
    refine ⟨l, nx, L, ?_⟩
    rcases h with h | ⟨h1, h2⟩
    · exact .inl h
    · exact .inr ⟨h1, kids_mono (fun _ _ _ z => all_up n z) h2⟩
theorem all_to {rs : List Row} {codes : List (List Ins)} {n m : Nat} (h : n ≤ m) {ms : List Rn} {v : St1} {outs : List (List Nat)} (a : AllT rs codes n ms v outs) : AllT rs codes m ms v outs := by
  induction h with
  | refl => exact a
  | step _ ih => exact all_up _ ih
def plansD (outs : List (List Nat)) : PyData := .list (outs.map planD)
theorem sw_plans {outs : List (List Nat)} (l : outs.length ≤ 4096) (h : ∀ p ∈ outs, p.length ≤ 12 ∧ ∀ k ∈ p, k < 100) : Shw 60 1000000 (plansD outs) := by
  refine (sw_lst (m := 1) (n := 12 * (13 + 2) + 3) (k := 4096) (fun d hd => ?_) (by rw [List.length_map]; exact l)).up (by decide) (by decide)
  obtain ⟨p, hp, rfl⟩ := List.mem_map.mp hd
  obtain ⟨h1, h2⟩ := h p hp
  refine sw_tup (fun d hd => ?_) (by rw [List.length_map]; exact h1)
  obtain ⟨k, hk, rfl⟩ := List.mem_map.mp hd
  have := h2 k hk
  exact sw_int (by show k < _; omega)
def spRt (K : PySem.W.Frag) : Sp := fun vs H Q _ => ∃ (rs : List Row) (codes : List (List Ins)) (st : St1) (outs : List (List Nat)) (nb : Bool) (vr vs0 vd : V), vs = [vr, vs0, vd, .bl nb] ∧ Dt K H vr (cellsD rs) ∧ Dt K H vs0 (stD st) ∧ Dt K H vd (codesD codes) ∧ (rs.map (·.1)).Nodup ∧ total rs ≤ 10 ∧ codes.length ≤ 100 ∧
  AllT rs codes 12 (codes.map fun _ => begR) st outs ∧ outs.length ≤ 4096 ∧ (∀ p ∈ outs, p.length ≤ 12 ∧ ∀ k ∈ p, k < 100) ∧ Gd 5 900000 (.tuple [cellsD rs, codesD codes]) ∧ ∀ H', Same H H' → Q (.bl true) H'
abbrev dcRt (M : Md) : Prop := DcQ M "_law_is_right" ["_law_rows_here", "_law_stand", "_law_sheets", "_law_is_named"] 19 (spRt M.K)
set_option maxHeartbeats 8000000 in
theorem ok_right {f fd} (F : Fun M.K "_law_is_right" "_law_is_right" s__law_is_right f fd) (b : Bl M) (hp : M.mg "repr" = none) (dpl : dcPl M) (dfs : dcFs M) (dla : dcLAll M 12) (dsc : DcG M "schedules_of" ["cells", "state", "codes"] 8 (spSch M.K)) (ksc : DcGk M "schedules_of" ["cells", "state", "codes"] ["codes", "state", "cells"] List.reverse 8 (spSch M.K)) :
    FnQ M.prog M.w M.K M.mg M.base CX0 19 f fd ["_law_rows_here", "_law_stand", "_law_sheets", "_law_is_named"] (spRt M.K) := by
  refine fn_okQ F sc__law_is_right (fun vs H Q E h => ?_) (fun H vs Q E h => ?_)
  · obtain ⟨_, _, _, _, _, _, _, _, rfl, _⟩ := h
    rfl
  obtain ⟨rs, codes, st, outs, nb, vr, vs0, vd, rfl, hr, hs, hd, nd, tot, few, T, ol, op, g0, k⟩ := h
  have sp := sw_plans ol op
  have s0 := g0.shw (by decide) (by decide) (by decide)
  have hd' : Dt M.K H vd (.tuple (codes.map codeD)) := hd
  refine b_cut (fun σ1 H1 => σ1 = [some vr, some vs0, some vd, some (.bl nb), some (.str (PyData.shown (.tuple [cellsD rs, codesD codes]))), none, none] ∧ Same H H1) ?_ ?_
  · refine s_set (by tm_at "at") ?_
    refine e_callB (id := "repr") hp (by decide +kernel) (a_cons (e_tupD ?_))
    tm_at "run"
    refine tupend (ds := [cellsD rs, codesD codes]) (.cons hr (.cons hd .nil)) (Nat.le_of_ble_eq_true rfl) fun w1 H1 s1 h1 => ?_
    refine a_nil (rc_repG h1 s0 ?_)
    exact ⟨rfl, s1⟩
  rintro _ H1 ⟨rfl, s1⟩
  refine b_cut (fun σ1 H2 => σ1 = [some vr, some vs0, some vd, some (.bl nb), some (.str (PyData.shown (.tuple [cellsD rs, codesD codes]))), some (.str (plansD outs).shown), none] ∧ Same H H2) ?_ ?_
  · refine s_set (by tm_at "at") ?_
    refine e_callB (id := "repr") hp (by decide +kernel) (a_cons ?_)
    refine e_call dla ?_
    refine a_cons ?_
    refine e_call dpl ?_
    tm_at "run"
    refine ⟨rs, vr, rfl, hr.mono (tp_same s1), nd, by omega, fun ap H2 s2 np hpp => ?_⟩
    tm_at "run"
    have s12 := s1.trans s2
    obtain ⟨da, dxs, rfl, hda, hdd⟩ := (hd'.mono (tp_same s12)).tupE
    have dl := hdd.len
    rw [List.length_map] at dl
    have ap2 : H2 ap ≠ none := by
      obtain ⟨xs, gx, _⟩ := hpp
      rw [gx]
      exact fun z => nomatch z
    refine e_lc (own := [("_law_lines", 6)]) (Blk.of (N := N__law_is_right) (sc := defScope s__law_is_right) rfl rfl (by decide +kernel)) ?_
    refine lc_T ?_
    tm_at "go"
    refine ⟨da, dxs, rfl, hda, by omega, fun D hD => ?_⟩
    refine ⟨fun i acc H' => ∃ ps : List (Addr × Addr), acc = ps.map (fun p => V.ref p.1) ∧ ps.length = i ∧ Same H2 H' ∧ H' D = some (.lst acc) ∧ ∀ p ∈ ps, Own H' p.1 p.2 0 0 sl0 ∧ p.1 ≠ D ∧ p.2 ≠ D, ?_, ?_, ?_, ?_⟩
    · exact ⟨[], rfl, rfl, same_new hD, upd_same, (fun _ h => nomatch h)⟩
    · rintro i acc H' _ ⟨ps, rfl, l, s, _⟩
      exact ⟨(tp_same s).sqt hda, by rw [List.length_map, l]; exact Nat.le_refl _⟩
    · rintro i x acc H' hx ⟨ps, rfl, l, s, gD, ho⟩
      refine g_name (by tm_at "at") ⟨rfl, ts_nil (ift ?_)⟩
      refine e_call0 dfs ⟨rfl, fun a sa H3 s3 na nsa O => ?_⟩
      have gD2 := s3 _ _ gD
      have aD : a ≠ D := fun z => by rw [z, gD] at na; cases na
      have sD : sa ≠ D := fun z => by rw [z, gD] at nsa; cases nsa
      refine ⟨gD2, ps ++ [(a, sa)], by rw [List.map_append]; rfl, by rw [List.length_append, l]; rfl, same_mut (s.trans s3) hD, upd_same, fun p hp => ?_⟩
      rcases List.mem_append.mp hp with h | h
      · obtain ⟨o, d1, d2⟩ := ho p h
        exact ⟨(o.same s3).oth d1 d2, d1, d2⟩
      · rw [List.mem_singleton.mp h]
        exact ⟨O.oth aD sD, aD, sD⟩
    · rintro acc H3 ⟨ps, rfl, l, s3, gD, ho⟩
      refine a_cons ?_
      tm_at "go"
      have s13 := s12.trans s3
      refine rc_lstT (ds := st.map .int) (hs.mono (tp_same s13)) fun va ys H4 s4 nva gva hys => ?_
      obtain rfl := ints_dt hys
      tm_at "go"
      refine ⟨ap, D, va, .ref da, ps, rs, codes, _, st, outs, rfl, ⟨hpp.same (s3.trans s4), s4 _ _ gD, gva, by rw [l, dl], fun j p r hj hr' => ?_⟩, nd, hd.mono (tp_same (s13.trans s4)), few, T, by omega, fun o ho => by have := (op o ho).1; omega, fun l5 us H5 s5 n5 g5 h5 => ?_⟩
      · rw [List.getElem?_map] at hr'
        obtain ⟨_, _, rfl⟩ := Option.map_eq_some_iff.mp hr'
        exact (ho p (List.mem_of_getElem? hj)).1.same s4
      · refine a_nil ?_
        refine rc_repr (d := plansD outs) (.lst (.of g5) h5.dp) sp ?_
        exact ⟨rfl, s13.trans (s4.trans s5)⟩
  rintro _ H2 ⟨rfl, s2⟩
  refine b_cut (fun σ1 H3 => σ1 = [some vr, some vs0, some vd, some (.bl nb), some (.str (PyData.shown (.tuple [cellsD rs, codesD codes]))), some (.str (plansD outs).shown), none] ∧ Same H H3) ?_ ?_
  · refine s_if (t_cmp ?_)
    refine e_callB (id := "repr") hp (by decide +kernel) (a_cons ?_)
    refine e_listG dsc b.list ?_
    tm_at "run"
    refine ⟨rs, codes, st, 12, outs, vr, vs0, vd, rfl, hr.mono (tp_same s2), hs.mono (tp_same s2), hd.mono (tp_same s2), few, by decide, T, by omega, fun us H3 s3 h3 l n3 => ?_⟩
    have s4 := same_new (o := .lst us) n3
    refine a_nil ?_
    refine rc_repr (d := plansD outs) (.lst (.of upd_same) (h3.mono (tp_same s4)).dp) sp ?_
    tm_at "run"
    refine K.ro_neS ?_
    rw [decide_eq_true rfl]
    refine ⟨_, rfl, iff0 ?_⟩
    refine b_nil ?_
    exact ⟨rfl, s2.trans (s3.trans s4)⟩
  rintro _ H3 ⟨rfl, s3⟩
  refine b_cut (fun σ1 H4 => σ1 = [some vr, some vs0, some vd, some (.bl nb), some (.str (PyData.shown (.tuple [cellsD rs, codesD codes]))), some (.str (plansD outs).shown), none] ∧ Same H H4) ?_ ?_
  · refine s_if (t_w (e := .BoolOp _ _ _) (w_and (t_val ?_)))
    tm_at "run"
    cases nb with
    | false =>
      refine iff0 ?_
      refine iff0 ?_
      refine b_nil ?_
      exact ⟨rfl, s3⟩
    | true =>
      refine ift ?_
      refine w_and1 (t_cmp ?_)
      refine e_callB (id := "repr") hp (by decide +kernel) (a_cons ?_)
      refine e_listGk ksc b.list (k_cons ?_)
      tm_at "run"
      refine k_cons ?_
      tm_at "run"
      refine k_cons ?_
      tm_at "run"
      refine k_nil ⟨rfl, rs, codes, st, 12, outs, vr, vs0, vd, rfl, hr.mono (tp_same s3), hs.mono (tp_same s3), hd.mono (tp_same s3), few, by decide, T, by omega, fun us H4 s4 h4 l n4 => ?_⟩
      have s5 := same_new (o := .lst us) n4
      refine a_nil ?_
      refine rc_repr (d := plansD outs) (.lst (.of upd_same) (h4.mono (tp_same s5)).dp) sp ?_
      tm_at "run"
      refine K.ro_neS ?_
      rw [decide_eq_true rfl]
      refine ⟨_, rfl, iff0 ?_⟩
      refine b_nil ?_
      exact ⟨rfl, s3.trans (s4.trans s5)⟩
  rintro _ H4 ⟨rfl, s4⟩
  refine b_one (s_ret ?_)
  tm_at "run"
  refine e_callB (id := "repr") hp (by decide +kernel) (a_cons (e_tupD ?_))
  tm_at "run"
  refine tupend (ds := [cellsD rs, codesD codes]) (.cons (hr.mono (tp_same s4)) (.cons (hd.mono (tp_same s4)) .nil)) (Nat.le_of_ble_eq_true rfl) fun w1 H6 s6 h1 => ?_
  refine a_nil (rc_repG h1 s0 ?_)
  tm_at "run"
  rw [decide_eq_true rfl]
  exact k _ (s4.trans s6)
end K

local macro_rules | `(tactic| tm_at "mk") => `(tactic| repeat (first | (refine gRE ?_; refine e_tupD ?_) | tm_at "s" | (refine gRB ?_; first | refine b_one ?_ | refine b_cons ?_) | (refine tupend (by tm_at "dts") (Nat.le_of_ble_eq_true rfl) fun v H s h => ?_)))
namespace K
open PySem PySem.Spec PyProof.Rows L2 G
variable {M : Md}
def spSrc (K : PySem.W.Frag) : Sp := fun vs H Q _ => ∃ (sl : Addr) (ns : List Int), vs = [.ref sl] ∧ SqL K H sl (ns.map V.int) ∧ ∀ p cl H', Same H H' → H p = none → H cl = none → Feed K H' p cl 0 → Q (.ref p) H'
theorem ok_src {f fd} (F : Fun M.K "_law_source" "_law_source" s__law_source f fd) (b : Bl M) : FnG M.prog M.w M.K M.mg M.base CX0 1 f fd ["_law_script"] (spSrc M.K) := by
  refine fn_ok F sc__law_source (fun vs H Q E h => ?_) (fun H vs Q E h => ?_)
  · obtain ⟨sl, ns, rfl, _⟩ := h
    rfl
  obtain ⟨sl, ns, rfl, hs, k⟩ := h
  tm_at "go"
  refine e_disp (fun X h => pps_cons (pe_re h) (pe_re h) (pps_cons (pe_re h) (pe_re h) (pps_cons (pe_re h) (pe_re h) (pps_cons (pe_re h) (pe_re h) pps_nil)))) rfl rfl (by intro e; cases e) (by decide) ?_
  intro p hp
  simp only [tPairs]
  have s0 := same_new (o := .dK []) hp
  tm_at "go"
  refine rsl_list (s0.seq hs) fun l1 H1 s1 n1 g1 => ?_
  tm_at "go"
  have gp : H1 p = some (.dK []) := s1 _ _ upd_same
  have np : p ≠ l1 := by
    rintro rfl
    rw [upd_same] at n1
    cases n1
  rw [show cutV (ns.map V.int) none (some 63) = (G.cutD ns none (some 63)).map V.int from by simp only [cutV, G.cutD, List.length_map, List.map_take, List.map_drop]] at g1
  have hl : (G.cutD ns none (some 63)).length ≤ 63 := by
    show ((ns.drop 0).take (HT.sIx ns.length ns.length (some ((63 : Nat) : Int)) - 0)).length ≤ 63
    rw [HT.sIx_nat, List.length_take]
    omega
  refine ⟨gp, fkv (.ref l1) 0 0 0, rfl, by rw [fkv_len]; decide, ?_⟩
  rw [show mergeK [] (fkv (.ref l1) 0 0 0) = fkv (.ref l1) 0 0 0 by rfl]
  refine k p l1 _ (same_mut (s0.trans s1) hp) hp (same_none s0 n1) ⟨_, 0, 0, 0, upd_same, ?_, hl, Int.le_refl _, Int.le_refl _⟩
  rw [upd_ne (fun e => np e.symm)]
  exact g1
def spLaw (K : PySem.W.Frag) : Sp := fun vs H Q _ => ∃ (sl : Addr) (ns : List Int), vs = [.ref sl] ∧ SqL K H sl (ns.map V.int) ∧ ∀ H', Q (.bl true) H'
theorem r4_fact : ∀ rs ∈ rs4, ((∀ p ∈ rg rs, 1 ≤ span p ∧ -1000 ≤ p.1 ∧ p.2 ≤ 1000) ∧ many (rg rs) ≤ 256 ∧ 0 < many (rg rs)) ∧ (gd 1000 (cellsD rs) = true ∧ (cellsD rs).depth ≤ 3 ∧ wt (cellsD rs) ≤ 100000) ∧ ∀ st ∈ statesOf (rg rs), st.length = total rs ∧ ∀ x ∈ st, x.natAbs < 2 ^ 3 := by decide +kernel
def p5 : Par := ⟨5, 2, 1, 500⟩
structure Cd5 (rs : List Row) (code : List Ins) : Prop where
  len : code.length ≤ 5
  ins : ∀ i I, code[i]? = some I → InsOk rs c05 i I
  gd : ∀ x ∈ code, Gd 2 1248 x.d
theorem codes5 {rs : List Row} {codes : List (List Ins)} (R : RowsN rs) (h : ∀ code ∈ codes, Cd5 rs code) : Codes rs p5 codes := ⟨by decide, by decide, R.tot, fun c hc => (h c hc).len, fun c hc i I hI => (h c hc).ins i I hI⟩
theorem gd_code5 {code : List Ins} (l : code.length ≤ 19) (h : ∀ I ∈ code, Gd 2 1248 I.d) : Gd 3 25000 (codeD code) := by
  refine (gd_mk (m := 2) (k := 1248) (c := 19) (fun d hd => ?_) (by rw [List.length_map]; exact l)).up (by decide) (by decide)
  obtain ⟨I, hI, rfl⟩ := List.mem_map.mp hd
  exact h I hI
theorem gd_codes {codes : List (List Ins)} (l : codes.length ≤ 10) (h : ∀ code ∈ codes, Gd 3 25000 (codeD code)) : Gd 4 260000 (codesD codes) := by
  refine (gd_mk (m := 3) (k := 25000) (c := 10) (fun d hd => ?_) (by rw [List.length_map]; exact l)).up (by decide) (by decide)
  obtain ⟨I, hI, rfl⟩ := List.mem_map.mp hd
  exact h I hI
theorem gd_inp {rs : List Row} {codes : List (List Ins)} (h1 : Gd 3 100000 (cellsD rs)) (h2 : Gd 4 260000 (codesD codes)) : Gd 5 900000 (.tuple [cellsD rs, codesD codes]) := by
  refine (gd_mk (m := 4) (k := 260000) (c := 2) (fun d hd => ?_) (by simp)).up (by decide) (by decide)
  simp only [List.mem_cons, List.not_mem_nil, or_false] at hd
  rcases hd with rfl | rfl
  · exact h1.up (by decide) (by decide)
  · exact h2
/-- all schedules are there, and few -/
theorem begs_ex {rs : List Row} {p : Par} {codes : List (List Ins)} (C : Codes rs p codes) {v : St1} {e N : Nat} (h1 : 1 ≤ e) (hK : p.K ≤ e) (vl : v.length = total rs) (vb : ∀ x ∈ v, x.natAbs < 2 ^ e) (pot : (e + codes.length * p.L) * 2 ^ (codes.length * p.q) ≤ p.B)
    (c1 : 1 ≤ codes.length) (c9 : codes.length ≤ 100) (hN : codes.length * (p.L + 1) ≤ N) (n12 : N ≤ 12) (many : codes.length ^ N ≤ 4096) :
    ∃ outs, AllT rs codes 12 (codes.map fun _ => begR) v outs ∧ outs.length ≤ 4096 ∧ ∀ o ∈ outs, o.length ≤ 12 ∧ ∀ k ∈ o, k < 100 := by
  have sm : ∀ (f : Rn → Nat), ((codes.map fun _ => begR).map f).sum = codes.length * f begR := fun f => by
    rw [List.map_map]
    clear pot C c1 c9 hN many
    induction codes with
    | nil => simp
    | cons c cs ih =>
      rw [List.map_cons, List.sum_cons, ih, List.length_cons, Nat.succ_mul]
      show f begR + _ = _
      omega
  have G0 : GI rs p e (codes.map fun _ => begR) v := by
    refine ⟨h1, hK, vl, vb, fun r hr i hi => ?_, by rw [sm p.rem, sm p.mm]; exact pot⟩
    obtain ⟨_, _, rfl⟩ := List.mem_map.mp hr
    cases hi
    have z : ∀ x ∈ sl0, x = 0 := fun x hx => (List.mem_replicate.mp hx).2
    exact ⟨Nat.zero_le _, rfl, fun x hx => by rw [show x = 0 from z x hx]; exact Nat.pow_pos (by decide), fun _ => z⟩
  obtain ⟨outs, A⟩ := all_ex C N (by rw [sm (mu p)]; exact hN) (by rw [List.length_map]) G0
  obtain ⟨b1, b2⟩ := all_bd c1 N A
  refine ⟨outs, all_to n12 A, Nat.le_trans b1 many, fun o ho => ?_⟩
  obtain ⟨b3, b4⟩ := b2 o ho
  exact ⟨Nat.le_trans b3 n12, fun k hk => Nat.lt_of_lt_of_le (b4 k hk) c9⟩
theorem pot5 : ∀ n, n ≤ 2 → (3 + n * 5) * 2 ^ (n * 1) ≤ 500 := by decide
theorem many5 : ∀ n, n ≤ 2 → n ^ 12 ≤ 4096 := by decide
/-! ### by hand -/
def rsH : List Row := [("x", 0, 0, 1, true, false, 0), ("y", 0, 0, 1, false, true, 0)]
def pH (L : Nat) : Par := ⟨L, 2, 0, 500⟩
def hOne : List Ins := [.load 0 (.cell "x")]
def hFault : List Ins := [.load 0 (.cell "x"), .op "div" 0 0 1, .store (.cell "y") 0]
def hTest : List Ins := [.load 0 (.cell "x"), .unless 0 3, .store (.cell "y") 0, .fin]
def hCst : List Ins := [.cst 1 1, .store (.cell "x") 1]
structure HOk (L : Nat) (code : List Ins) : Prop where
  len : code.length ≤ L
  ins : ∀ i I, code[i]? = some I → InsOk rsH ((pH L).bud 0 0) i I
  gd : Gd 3 25000 (codeD code)
theorem rsH_gd : gd 1000 (cellsD rsH) = true ∧ (cellsD rsH).depth ≤ 3 ∧ wt (cellsD rsH) ≤ 100000 := by decide +kernel
theorem gd_of {d : PyData} (h : gd 1000 d = true ∧ d.depth ≤ 3 ∧ wt d ≤ 25000) : Gd 3 25000 d := ⟨h.1, h.2.1, h.2.2⟩
theorem hNil_ok (L : Nat) : HOk L [] := ⟨Nat.zero_le _, fun i I h => by simp at h, gd_of (by decide +kernel)⟩
theorem hOne_ok (L : Nat) (h : 1 ≤ L) : HOk L hOne := ⟨h, fun i I h => match i, h with
  | 0, h => by cases h; exact ⟨by decide, by decide⟩
  | _ + 1, h => by simp [hOne] at h, gd_of (by decide +kernel)⟩
theorem hFault_ok : HOk 4 hFault := ⟨by decide, fun i I h => match i, h with
  | 0, h => by cases h; exact ⟨by decide, by decide⟩
  | 1, h => by cases h; exact ⟨by decide, by decide, by decide, by decide, fun z => absurd z (by decide)⟩
  | 2, h => by cases h; exact ⟨by decide, by decide⟩
  | _ + 3, h => by simp [hFault] at h, gd_of (by decide +kernel)⟩
theorem hTest_ok : HOk 4 hTest := ⟨by decide, fun i I h => match i, h with
  | 0, h => by cases h; exact ⟨by decide, by decide⟩
  | 1, h => by cases h; exact ⟨by decide, by decide, by decide⟩
  | 2, h => by cases h; exact ⟨by decide, by decide⟩
  | 3, h => by cases h; exact trivial
  | _ + 4, h => by simp [hTest] at h, gd_of (by decide +kernel)⟩
theorem hCst_ok : HOk 4 hCst := ⟨by decide, fun i I h => match i, h with
  | 0, h => by cases h; exact ⟨by decide, by decide⟩
  | 1, h => by cases h; exact ⟨by decide, by decide⟩
  | _ + 2, h => by simp [hCst] at h, gd_of (by decide +kernel)⟩
def sets : List (List (List Ins)) := [[[]], [hOne, hOne, hOne], [hFault, hOne], [hTest, hCst], [[], hOne]]
/-- codes by hand, with a bound that fits them -/
structure SOk (codes : List (List Ins)) : Prop where
  h : ∃ L, (∀ c ∈ codes, HOk L c) ∧ L ≤ 4 ∧ codes.length * (L + 1) ≤ 12 ∧ codes.length ^ (codes.length * (L + 1)) ≤ 4096
  few : codes.length ≤ 3
  one : 1 ≤ codes.length
theorem two_of {P : List Ins → Prop} {a b : List Ins} (h1 : P a) (h2 : P b) : ∀ c ∈ [a, b], P c := fun c h => by
  simp only [List.mem_cons, List.not_mem_nil, or_false] at h
  rcases h with rfl | rfl
  · exact h1
  · exact h2
theorem sets_ok : ∀ s ∈ sets, SOk s := by
  intro s h
  simp only [sets, List.mem_cons, List.not_mem_nil, or_false] at h
  rcases h with rfl | rfl | rfl | rfl | rfl
  · exact ⟨⟨4, fun c h => by rw [List.mem_singleton.mp h]; exact hNil_ok 4, by decide, by decide, by decide⟩, by decide, by decide⟩
  · exact ⟨⟨1, fun c h => by
      simp only [List.mem_cons, List.not_mem_nil, or_false, or_self] at h
      rw [h]
      exact hOne_ok 1 (by decide), by decide, by decide, by decide⟩, by decide, by decide⟩
  · exact ⟨⟨4, two_of hFault_ok (hOne_ok 4 (by decide)), by decide, by decide, by decide⟩, by decide, by decide⟩
  · exact ⟨⟨4, two_of hTest_ok hCst_ok, by decide, by decide, by decide⟩, by decide, by decide⟩
  · exact ⟨⟨4, two_of (hNil_ok 4) (hOne_ok 4 (by decide)), by decide, by decide, by decide⟩, by decide, by decide⟩
theorem potH : ∀ n, n ≤ 3 → ∀ L, L ≤ 4 → (3 + n * L) * 2 ^ (n * 0) ≤ 500 := by decide
theorem codesH {L : Nat} (h4 : L ≤ 4) {codes : List (List Ins)} (h : ∀ code ∈ codes, HOk L code) : Codes rsH (pH L) codes := ⟨by show L ≤ 20; omega, by show 500 ≤ 1800; decide, by decide, fun c hc => (h c hc).len, fun c hc i I hI => (h c hc).ins i I hI⟩
theorem ask {K : PySem.W.Frag} {codes : List (List Ins)} {st : St1} {nb : Bool} {vr vs0 vd : V} {H : Hp} {Q : VK} (S : SOk codes) (l2 : st.length = 2) (hx : ∀ x ∈ st, x.natAbs < 2 ^ 3) (hr : Dt K H vr (cellsD rsH)) (hs : Dt K H vs0 (stD st)) (hd : Dt K H vd (codesD codes)) (kk : ∀ H', Same H H' → Q (.bl true) H') : spRt K [vr, vs0, vd, .bl nb] H Q fun _ _ _ => False := by
  obtain ⟨⟨L, ok, h4, n12, mn⟩, few, one⟩ := S
  obtain ⟨outs, A, b1, b2⟩ := begs_ex (codesH h4 ok) (v := st) (e := 3) (by decide) (by show 2 ≤ 3; decide) l2 hx (potH _ few L h4) one (by omega) (Nat.le_refl _) n12 mn
  exact ⟨rsH, codes, st, outs, nb, vr, vs0, vd, rfl, hr, hs, hd, by decide, by decide, by omega, A, b1, b2, gd_inp ⟨rsH_gd.1, rsH_gd.2.1, rsH_gd.2.2⟩ (gd_codes (by omega) fun c hc => (ok c hc).gd), kk⟩
end K

local macro_rules | `(tactic| tm_at "mk") => `(tactic| repeat (first | (refine gRE ?_; refine e_tupD ?_) | tm_at "s" | (refine gRB ?_; first | refine b_one ?_ | refine b_cons ?_) | (refine tupend (by tm_at "dts") (Nat.le_of_ble_eq_true rfl) fun v H s h => ?_)))
namespace K
open PySem PySem.Spec PyProof.Rows L2 G
variable {M : Md}
set_option maxHeartbeats 16000000 in
theorem ok_law {f fd} (F : Fun M.K "law" "law" s_law f fd) (b : Bl M) (dsr : Dc M "_law_source" ["_law_script"] 1 (spSrc M.K)) (dn : dcNext M) (dro : Dc M "_law_rows" ["_law_source_here"] 2 (spD 1 pre0 rRows M.K)) (dal : DcG M "all_states" ["program"] 4 (spAll M.K))
    (dco : Dc M "_law_code" ["_law_source_here", "_law_rows_here", "_law_most"] 3 (spD 55 preCodeI rCodeI M.K)) (dri : dcRt M) : FnQ M.prog M.w M.K M.mg M.base CX0 20 f fd ["_law_script"] (spLaw M.K) := by
  refine fn_okQ F sc_law (fun vs H Q E h => ?_) (fun H vs Q E h => ?_)
  · obtain ⟨sl, ns, rfl, _⟩ := h
    rfl
  obtain ⟨sl, ns, rfl, hs, k⟩ := h
  refine b_cut (fun σ1 H1 => ∃ fp cl, σ1 = [some (.ref sl), some (.ref fp), none, none, none, none, none, none, none, none, none] ∧ Feed M.K H1 fp cl 0) ?_ ?_
  · tm_at "go"
    refine e_call dsr ?_
    tm_at "go"
    exact ⟨sl, ns, rfl, hs, fun p cl H1 s1 _ _ f1 => ⟨p, cl, rfl, f1⟩⟩
  rintro _ H1 ⟨fp, cl, rfl, f1⟩
  refine b_cut (fun σ1 H2 => ∃ v2 v3 v4 v5 v6 v10, σ1 = [some (.ref sl), some (.ref fp), v2, v3, v4, v5, v6, none, none, none, v10]) ?_ ?_
  · refine s_forR1 b.range ?_
    tm_at "go"
    refine ⟨by decide, by decide, fun i σ' H' => ∃ v2 v3 v4 v5 v6 v10, σ' = [some (.ref sl), some (.ref fp), v2, v3, v4, v5, v6, none, none, none, v10] ∧ Feed M.K H' fp cl (200 * i), ⟨_, _, _, _, _, _, rfl, f1⟩, ?_, ?_⟩
    · rintro i σ' H2 hi ⟨v2, v3, v4, v5, v6, v10, rfl, f2⟩
      have hi4 : i < 5 := hi
      refine g_name (by tm_at "at") ?_
      refine b_cons ?_
      refine s_set (by tm_at "at") ?_
      refine e_callD dro ?_
      tm_at "go"
      refine ⟨fp, cl, [], [], _, rfl, f2, by omega, .nil, rfl, ?_⟩
      rintro d vr H3 ⟨rs, hrs, rfl⟩ k3 f3 h3
      obtain ⟨⟨q1, q2, q3⟩, ⟨q4, q5, q6⟩, q7⟩ := r4_fact rs hrs
      have RN := rs4_okN rs hrs
      have sm : Small rs := ⟨RN.tot, q1, q2⟩
      refine b_cons ?_
      refine s_set (by tm_at "at") ?_
      refine e_listG dal b.list ?_
      refine a_cons ?_
      refine e_tupD ?_
      refine a_cons (e_var (by tm_at "at") ?_)
      refine a_cons (e_tupD (a_nil ?_))
      refine tupend (ds := []) .nil (Nat.le_of_ble_eq_true rfl) fun x1 H4 s4 h4 => ?_
      refine a_cons (e_tupD (a_nil ?_))
      refine tupend (ds := []) .nil (Nat.le_of_ble_eq_true rfl) fun x2 H5 s5 h5 => ?_
      refine a_cons (e_int (a_nil ?_))
      refine tupend (.cons (h3.mono (tp_same (s4.trans s5))) (.cons (h4.mono (tp_same s5)) (.cons h5 (.cons (.int 1) .nil)))) (Nat.le_of_ble_eq_true rfl) fun x3 H6 s6 h6 => ?_
      refine a_nil ⟨x3, rs, _, rfl, h6, sm, fun out H7 s7 h7 l nl => ?_⟩
      have s8 := same_new (o := .lst out) nl
      have g8 : (upd H7 l (.lst out)) l = some (.lst out) := upd_same
      have h8 := h7.mono (tp_same s8)
      have s38 : Same H3 (upd H7 l (.lst out)) := s4.trans (s5.trans (s6.trans (s7.trans s8)))
      have nf : l ≠ fp := ne_feed f3 (s4.trans (s5.trans (s6.trans s7))) nl
      show RB _ _ _ _ (upd H7 l (.lst out))
      generalize upd H7 l (.lst out) = H8 at *
      have f8 := f3.same s38
      have c8 := h3.mono (tp_same s38)
      have l8 := h8.len
      rw [List.length_map, states_len] at l8
      refine b_cut (fun σ1 H9 => ∃ (vd : V) (codes : List (List Ins)), σ1 = [some (.ref sl), some (.ref fp), some (.int (i : Nat)), some vr, some (.ref l), some vd, v6, none, none, none, v10] ∧ Kp fp H8 H9 ∧ Feed M.K H9 fp cl (200 * i + 150) ∧ Dt M.K H9 vd (codesD codes) ∧ codes.length ≤ 2 ∧ 1 ≤ codes.length ∧ ∀ code ∈ codes, Cd5 rs code) ?_ ?_
      · refine s_set (by tm_at "at") ?_
        refine e_callT (T := "tuple") b.tuple (by decide +kernel) (a_cons ?_)
        refine e_lc (own := [("_law_k", 10)]) (Blk.of (N := N_law) (sc := defScope s_law) rfl rfl (by decide +kernel)) ?_
        refine lc_R1 b.range ?_
        tm_at "go"
        refine e_draw dn ?_
        tm_at "go"
        refine ⟨fp, cl, _, 2, rfl, rfl, f8, by omega, ⟨by decide, by decide⟩, fun j HA j0 j1 kA fA => ?_⟩
        tm_at "go"
        refine ⟨by omega, fun D hD => ?_⟩
        have nD : D ≠ fp := ne_feed fA (Same.refl _) hD
        refine ⟨fun t acc H' => ∃ codes : List (List Ins), acc.length ≤ t ∧ codes.length = t ∧ Kp fp HA H' ∧ Feed M.K H' fp cl (200 * i + 1 + 1 + 55 * t) ∧ H' D = some (.lst acc) ∧ DtAll M.K H' acc (codes.map codeD) ∧ ∀ code ∈ codes, Cd5 rs code, ?_, ?_, ?_, ?_⟩
        · exact ⟨[], Nat.le_refl _, rfl, kp_mut (Kp.refl _ _) hD, (fA.upd nD (ne_cl fA (Same.refl _) hD)).up (by omega), upd_same, .nil, fun _ h => nomatch h⟩
        · rintro t acc H' ⟨_, h, _⟩
          exact h
        · rintro t acc HB ht ⟨codes, la, lc, kB, fB, gB, hB, ok⟩
          have ht' : t < 2 := by omega
          refine g_name (by tm_at "at") ⟨rfl, ts_nil (ift ?_)⟩
          refine e_callD dco ?_
          tm_at "go"
          refine ⟨fp, cl, _, _, _, rfl, fB, by omega, .cons ((c8.mono kA.t).mono kB.t) (.cons (.int _) .nil), ⟨rs, rfl, RN⟩, ?_⟩
          rintro d vl HC ⟨rs', code, ee, rfl, z1, z2, z3⟩ kC fC hC
          have e1 : rs' = rs := by
            injection ee with e1 _
            exact (cellsD_inj e1).symm
          subst e1
          have gC := kC.k _ _ nD gB
          have ku := kp_upd (o' := .lst (acc ++ [vl])) gC (fun _ e => nomatch e) (fun _ _ e => nomatch e)
          refine ⟨gC, codes ++ [code], by rw [List.length_append]; exact Nat.succ_le_succ la, by rw [List.length_append, lc]; rfl, kp_mut (kB.trans kC) hD, (fC.upd nD (ne_cl fA (Same.refl _) hD)).up (by omega), upd_same, ?_, fun u hu => ?_⟩
          · rw [List.map_append]
            exact (hB.mono (kC.t.trans ku.t)).app (.cons (hC.mono ku.t) .nil)
          · rcases List.mem_append.mp hu with h | h
            · exact ok u h
            · rw [List.mem_singleton.mp h]
              exact ⟨z1, z2, z3⟩
        · rintro acc HB ⟨codes, la, lc, kB, fB, gB, hB, ok⟩
          refine a_nil ?_
          refine rc_tupL (.of gB) hB fun vd H9 s9 h9 => ?_
          exact ⟨vd, codes, rfl, (kA.trans kB).trans (kp_same s9), (fB.same s9).up (by omega), h9, by omega, by omega, ok⟩
      rintro _ H9 ⟨vd, codes, rfl, k9, f9, h9, n3, n1, ok⟩
      refine b_cut (fun σ1 HA => ∃ (vd : V) (codes : List (List Ins)), σ1 = [some (.ref sl), some (.ref fp), some (.int (i : Nat)), some vr, some (.ref l), some vd, v6, none, none, none, v10] ∧ Kp fp H8 HA ∧ Feed M.K HA fp cl (200 * i + 151) ∧ Dt M.K HA vd (codesD codes) ∧ codes.length ≤ 2 ∧ 1 ≤ codes.length ∧ ∀ code ∈ codes, Cd5 rs code) ?_ ?_
      · refine s_if (t_w (e := .BoolOp _ _ _) (w_and (t_cmp ?_)))
        refine e_callB (id := "len") b.len (by decide +kernel) (a_cons (e_var (by tm_at "at") (a_nil ?_)))
        refine rc_lenT (show Dt M.K H9 vd (.tuple (codes.map codeD)) from h9) ?_
        rw [List.length_map]
        tm_at "go"
        refine ifd (fun c0 => ?_) (fun c0 => ?_)
        · refine w_and1 (t_cmp ?_)
          refine e_draw dn ?_
          tm_at "go"
          refine ⟨fp, cl, _, 2, rfl, rfl, f9, by omega, ⟨by decide, by decide⟩, fun j HA j0 j1 kA fA => ?_⟩
          have hA := h9.mono kA.t
          tm_at "go"
          refine ifd (fun c1 => ?_) (fun c1 => ?_)
          · refine b_one (s_set (by tm_at "at") ?_)
            tm_at "go"
            have hA' : Dt M.K HA vd (.tuple (codes.map codeD)) := hA
            refine ro_catT hA' hA' (by rw [List.length_map]; omega) fun y HC sC hC => ?_
            rw [← List.map_append] at hC
            exact ⟨y, codes ++ codes, rfl, (k9.trans kA).trans (kp_same sC), (fA.same sC).up (by omega), hC, by rw [List.length_append]; omega, by rw [List.length_append]; omega, fun u hu => by
              rcases List.mem_append.mp hu with h | h
              · exact ok u h
              · exact ok u h⟩
          · refine b_nil ?_
            exact ⟨vd, codes, rfl, k9.trans kA, fA.up (by omega), hA, by omega, n1, ok⟩
        · refine b_nil ?_
          exact ⟨vd, codes, rfl, k9, f9.up (by omega), h9, by omega, n1, ok⟩
      rintro _ HA ⟨vd, codes, rfl, kA, fA, hA, n4, n1, ok⟩
      have cA := c8.mono kA.t
      have gA := kA.k _ _ nf g8
      have dA := h8.mono kA.t
      have CO := codes5 RN ok
      refine b_one (s_forR1 b.range ?_)
      tm_at "go"
      refine ⟨by decide, by decide, fun t σ' H' => ∃ v6 v10, σ' = [some (.ref sl), some (.ref fp), some (.int (i : Nat)), some vr, some (.ref l), some vd, v6, none, none, none, v10] ∧ Kp fp HA H' ∧ Feed M.K H' fp cl (200 * i + 151 + t), ⟨_, _, rfl, Kp.refl _ _, fA.up (by omega)⟩, ?_, ?_⟩
      · rintro t σ' HC ht ⟨v6, v10, rfl, kC, fC⟩
        have ht5 : t < 2 := ht
        refine g_name (by tm_at "at") ?_
        have gC := kC.k _ _ nf gA
        have dC := dA.mono kC.t
        refine b_one (s_if (t_not (t_val ?_)))
        refine e_callQ dri ?_
        refine a_cons (e_var (by tm_at "at") (a_cons ?_))
        refine e_ix (e_var (by tm_at "at") ?_)
        refine e_draw dn (e_var (by tm_at "at") ?_)
        refine e_callB (id := "len") b.len (by decide +kernel) (a_cons (e_var (by tm_at "at") (a_nil ?_)))
        refine rc_lenL (.of gC) ?_
        refine ⟨fp, cl, _, _, rfl, rfl, fC, by omega, ⟨by rw [l8]; omega, by rw [l8]; omega⟩, fun y HD y0 y1 kD fD => ?_⟩
        refine rx_pick (.of (kD.k _ _ nf gC)) (dC.mono kD.t) y0 (by rw [List.length_map, states_len, ← l8]; exact y1) fun vst d hd hst => ?_
        rw [List.getElem?_map] at hd
        obtain ⟨st, hmem, rfl⟩ := Option.map_eq_some_iff.mp hd
        obtain ⟨z1, z2⟩ := q7 st (List.mem_of_getElem? hmem)
        tm_at "go"
        have kk := kC.trans kD
        obtain ⟨outs, A, b1, b2⟩ := begs_ex CO (v := st) (e := 3) (by decide) (by decide) z1 z2 (pot5 _ n4) n1 (by omega) (show codes.length * 6 ≤ 12 by omega) (Nat.le_refl _) (many5 _ n4)
        refine ⟨rs, codes, st, outs, _, vr, vst, vd, rfl, cA.mono kk.t, hst, hA.mono kk.t, RN.nd, RN.tot, by omega, A, b1, b2, gd_inp ⟨q4, q5, q6⟩ (gd_codes (by omega) fun c hc => gd_code5 (by have := (ok c hc).len; omega) (ok c hc).gd), fun HE sE => ⟨_, rfl, iff0 ?_⟩⟩
        refine b_nil ?_
        exact ⟨_, _, rfl, kk.trans (kp_same sE), (fD.same sE).up (by omega)⟩
      · rintro σ' HB ⟨v6, v10, rfl, kB, fB⟩
        have fB : Feed M.K HB fp cl (200 * i + 151 + 2) := fB
        exact ⟨_, _, _, _, _, _, rfl, fB.up (by omega)⟩
    · rintro σ' H2 ⟨v2, v3, v4, v5, v6, v10, rfl, _⟩
      exact ⟨_, _, _, _, _, _, rfl⟩
  rintro _ H2 ⟨v2, v3, v4, v5, v6, v10, rfl⟩
  refine b_cut (fun σ1 H3 => ∃ vr, σ1 = [some (.ref sl), some (.ref fp), v2, some vr, v4, v5, v6, none, none, none, v10] ∧ Dt M.K H3 vr (cellsD rsH)) ?_ ?_
  · refine s_set (by tm_at "at") ?_
    tm_at "mk"
    assumption
  rintro _ H3 ⟨vr, rfl, hr⟩
  refine b_cut (fun σ1 H4 => ∃ vo vf, σ1 = [some (.ref sl), some (.ref fp), v2, some vr, v4, v5, v6, some vo, some vf, none, v10] ∧ Same H3 H4 ∧ Dt M.K H4 vo (codeD hOne) ∧ Dt M.K H4 vf (codeD hFault)) ?_ ?_
  · refine s_asg ?_ (hw := K.sw0 (by rfl))
    tm_at "mk"
    rename_i vz Hz sz hz
    have sZ : Same H3 Hz := by tm_at "same"
    refine g_unp2 (by tm_at "at") (by tm_at "at") (show Dt M.K Hz vz (.tuple [codeD hOne, codeD hFault]) from hz) fun v7 v8 h7 h8 => ?_
    exact ⟨_, _, rfl, sZ, h7, h8⟩
  rintro _ H4 ⟨vo, vf, rfl, s4, ho, hf⟩
  refine b_cut (fun σ1 H5 => ∃ vt, σ1 = [some (.ref sl), some (.ref fp), v2, some vr, v4, v5, v6, some vo, some vf, some vt, v10] ∧ Same H4 H5 ∧ Dt M.K H5 vt (codeD hTest)) ?_ ?_
  · refine s_set (by tm_at "at") ?_
    tm_at "mk"
    exact ⟨by tm_at "same", by assumption⟩
  rintro _ H5 ⟨vt, rfl, s5, ht⟩
  have hr5 := hr.mono (tp_same (s4.trans s5))
  have ho5 := ho.mono (tp_same s5)
  have hf5 := hf.mono (tp_same s5)
  refine b_cut (fun σ1 H6 => ∃ v5 v10, σ1 = [some (.ref sl), some (.ref fp), v2, some vr, v4, v5, v6, some vo, some vf, some vt, v10]) ?_ ?_
  · refine s_forT ?_
    clear hr ho hf s4
    refine e_tupD ?_
    refine a_cons (e_tupD (a_cons (e_tupD (a_nil ?_))))
    refine tupend (ds := []) .nil (Nat.le_of_ble_eq_true rfl) fun x1 Ha sa ha => ?_
    refine a_nil ?_
    refine tupend (ds := [.tuple []]) (.cons ha .nil) (Nat.le_of_ble_eq_true rfl) fun x2 Hb sb hb => ?_
    refine a_cons (e_tupD (a_cons (e_var (by tm_at "at") (a_cons (e_var (by tm_at "at") (a_cons (e_var (by tm_at "at") (a_nil ?_))))))))
    have sb5 := sa.trans sb
    have hob := ho5.mono (tp_same sb5)
    refine tupend (ds := [codeD hOne, codeD hOne, codeD hOne]) (.cons hob (.cons hob (.cons hob .nil))) (Nat.le_of_ble_eq_true rfl) fun x3 Hc' sc hc => ?_
    have sc5 := sb5.trans sc
    refine a_cons (e_tupD (a_cons (e_var (by tm_at "at") (a_cons (e_var (by tm_at "at") (a_nil ?_))))))
    refine tupend (ds := [codeD hFault, codeD hOne]) (.cons (hf5.mono (tp_same sc5)) (.cons (ho5.mono (tp_same sc5)) .nil)) (Nat.le_of_ble_eq_true rfl) fun x4 Hd sd hd => ?_
    have sd5 := sc5.trans sd
    refine a_cons (e_tupD (a_cons (e_var (by tm_at "at") (a_cons (e_tupD ?_)))))
    refine a_cons (e_tupD ?_)
    tm_at "run"
    refine tupend (ds := [.str "const", .int 1, .int 1]) (.cons (.str _) (.cons (.int _) (.cons (.int _) .nil))) (Nat.le_of_ble_eq_true rfl) fun y1 He se he => ?_
    refine a_cons (e_tupD ?_)
    tm_at "run"
    refine tupend (ds := [.str "store", .str "x", .int 1]) (.cons (.str _) (.cons (.str _) (.cons (.int _) .nil))) (Nat.le_of_ble_eq_true rfl) fun y2 Hf sf hff => ?_
    refine a_nil ?_
    refine tupend (ds := [.tuple [.str "const", .int 1, .int 1], .tuple [.str "store", .str "x", .int 1]]) (.cons (he.mono (tp_same sf)) (.cons hff .nil)) (Nat.le_of_ble_eq_true rfl) fun y3 Hg sg hg => ?_
    have sdg : Same Hd Hg := se.trans (sf.trans sg)
    refine a_nil ?_
    refine tupend (ds := [codeD hTest, codeD hCst]) (.cons (ht.mono (tp_same (sd5.trans sdg))) (.cons hg .nil)) (Nat.le_of_ble_eq_true rfl) fun x5 Hh sh hh => ?_
    have sh5 := (sd5.trans sdg).trans sh
    refine a_cons (e_tupD (a_cons (e_tupD (a_nil ?_))))
    refine tupend (ds := []) .nil (Nat.le_of_ble_eq_true rfl) fun y4 Hi si hi => ?_
    refine a_cons (e_var (by tm_at "at") (a_nil ?_))
    refine tupend (ds := [codeD [], codeD hOne]) (.cons hi (.cons (ho5.mono (tp_same (sh5.trans si))) .nil)) (Nat.le_of_ble_eq_true rfl) fun x6 Hj sj hj => ?_
    refine a_nil ?_
    have shj := si.trans sj
    have sdj := (sdg.trans sh).trans shj
    refine tupend (ds := sets.map codesD) (.cons (hb.mono (tp_same (sc.trans (sd.trans sdj)))) (.cons (hc.mono (tp_same (sd.trans sdj))) (.cons (hd.mono (tp_same sdj)) (.cons (hh.mono (tp_same shj)) (.cons hj .nil))))) (Nat.le_of_ble_eq_true rfl) fun xz Hz sz hz => ?_
    have sZ : Same H5 Hz := (sh5.trans shj).trans sz
    obtain ⟨pa, pxs, rfl, hpa, hpd⟩ := Dt.tupE hz
    refine ⟨pa, pxs, rfl, hpa, fun i σ' H' => ∃ v5 v10, σ' = [some (.ref sl), some (.ref fp), v2, some vr, v4, v5, v6, some vo, some vf, some vt, v10] ∧ Same Hz H', ⟨_, _, rfl, Same.refl _⟩, ?_, ?_, ?_⟩
    · rintro i σ' H' _ ⟨v5, v10, rfl, s⟩
      exact (tp_same s).sqt hpa
    · rintro i x σ' H' hx ⟨v5, v10, rfl, s⟩
      obtain ⟨d, hd', dx⟩ := hpd.getV hx
      rw [List.getElem?_map] at hd'
      obtain ⟨codes, hcs, rfl⟩ := Option.map_eq_some_iff.mp hd'
      have SO := sets_ok codes (List.mem_of_getElem? hcs)
      have s3 := sZ.trans s
      refine g_name (by tm_at "at") ?_
      refine b_one (s_if (t_w (e := .BoolOp _ _ _) (w_or (t_not (t_val ?_)))))
      refine e_callQ dri ?_
      refine a_cons (e_var (by tm_at "at") (a_cons (e_tupD ?_)))
      tm_at "run"
      refine tupend (ds := [.int 0, .int 0]) (.cons (.int _) (.cons (.int _) .nil)) (Nat.le_of_ble_eq_true rfl) fun w1 Hk sk hk => ?_
      tm_at "go"
      refine ask (codes := codes) (st := [0, 0]) SO rfl (by decide) (hr5.mono (tp_same (s3.trans sk))) hk (dx.mono (tp_same (s.trans sk))) fun Hl sl' => ⟨_, rfl, iff0 ?_⟩
      refine w_or1 (t_not (t_val ?_))
      refine e_callQ dri ?_
      refine a_cons (e_var (by tm_at "at") (a_cons (e_tupD ?_)))
      tm_at "run"
      refine tupend (ds := [.int 1, .int 0]) (.cons (.int _) (.cons (.int _) .nil)) (Nat.le_of_ble_eq_true rfl) fun w2 Hm sm hm => ?_
      tm_at "go"
      have skm := sk.trans (sl'.trans sm)
      refine ask (codes := codes) (st := [1, 0]) SO rfl (by decide) (hr5.mono (tp_same (s3.trans skm))) hm (dx.mono (tp_same (s.trans skm))) fun Hn sn => ⟨_, rfl, iff0 ?_⟩
      refine b_nil ?_
      exact ⟨_, _, rfl, s.trans (skm.trans sn)⟩
    · rintro σ' H' ⟨v5, v10, rfl, s⟩
      exact ⟨_, _, rfl⟩
  rintro _ H6 ⟨v5, v10, rfl⟩
  tm_at "go"
  exact k _
end K

namespace G
open PySem PySem.Spec PyProof.Rows L2
/-! ### the law's call, for a def that is proved where no text of an object is being written -/
section
variable {P : Program} {w : World} {K : PySem.W.Frag} {mg mb : Str → Option Value} {k : Nat}
variable {fa sc : Addr} {fd : FuncData} {x : Str} {sp : Sp} {st : Shared} {us : List Value} {ns : List Int}
abbrev scrO (us : List Value) : Obj := { cls := .type "list", data := .seq us.toArray }
/-- how the call ends -/
abbrev Ended (st : Shared) : Result → Shared → Prop := fun r s2 =>
  r = .ok (.ret (.bool true)) ∧ OldK st.heap s2.heap ∧ s2.os = st.os ∧ AllBare s2.gens
theorem begun {H : Hp} (kin : K.In st.heap) (nsg : st.heap.Ns mainGlobals mg) (nsb : st.heap.Ns builtinsNs mb)
    (bis : ∀ y : Str, y ≠ "__name__" → mb y = bootBuiltins y) (lim : st.heap.NoLimit) (gens : st.gens = #[])
    (obj : st.heap.get? sc = some (scrO us)) (ars : IntsAre us ns) (few : ns.length ≤ sizeLine) (room : Room k callerA)
    (F : ∀ bs : Heap, K.In bs → bs.Ns mainGlobals mg → FnQ P w K mg bs CX0 k fa fd [x] sp)
    (bnd : ∀ (s : Shared) (u : Value), BindsTo s fd ⟨[u], []⟩ [(x, u)])
    (seen : ∀ b u, H b = some u → b = sc ∧ K.lookup sc = none ∧ u = .frz (scrO us) (.lst (ns.map V.int)))
    (want : sp [.ref sc] H (fun v _ => v = .bl true) fun _ _ _ => False) :
    codeAny (model P w) callerA (.call (.ref fa) ⟨[.ref sc], []⟩) (Ended st) st := by
  have clear : ∀ {b : Addr}, b ≠ sc → H b = none := fun {b} nb => by
    cases e : H b with
    | none => rfl
    | some u => exact absurd (seen b u e).1 nb
  have far : ∀ {b : Addr} {m : Str → Option Value}, st.heap.Ns b m → (hidT st.heap H).Ns b m := by
    rintro b m ⟨o, es, ep, e, isd, r⟩
    refine ⟨o, es, ep, hidT_get e (clear fun q => ?_), isd, r⟩
    subst q
    cases obj.symm.trans e
    have isd2 : Data.seq us.toArray _ = Data.dict es ep := isd
    cases isd2
  have mod : Mod K mg (hidT st.heap H) := by
    refine ⟨fun b o e => hidT_get (kin b o e) ?_, far nsg, ⟨mb, far nsb, bis⟩, ?_⟩
    · cases q : H b with
      | none => rfl
      | some u =>
        obtain ⟨rfl, non, _⟩ := seen b u q
        cases non.symm.trans e
    · obtain ⟨mc, l1, l2⟩ := lim
      exact ⟨mc, far l1, l2⟩
  have laid : HOk P w H st.heap := fun b u q => by
    obtain ⟨rfl, _, rfl⟩ := seen b u q
    exact ⟨obj, by rw [List.length_map]; exact few, us, _, vals_ints ars, obj⟩
  have env : Env0 P w K mg (hidT st.heap H) callerA [] st H :=
    { frames := rfl
      mod := mod
      bs := fun _ _ => of_hidT
      bsz := Nat.le_of_eq (hidT_size ..)
      funs := trivial
      frf := fun b q => absurd (show b ∈ ([] : List Addr) from q) List.not_mem_nil
      hok := laid
      bare := .of_eq gens }
  have run := (F _ mod.kin mod.glob).run callerA [] st H ⟨[.ref sc], []⟩ [.ref sc] [.ref sc] _ _ rfl room env (bnd st _) (.cons rfl .nil) want
  refine codeAny_mono run fun r s2 z => ?_
  match r, z with
  | .ok (.ret u), ⟨v, H2, os2, bare2, un2, laid2, rv2, q2⟩ =>
    obtain rfl : v = .bl true := q2
    obtain rfl : u = Value.bool true := rv2
    refine ⟨rfl, .of_keep fun b o e => ?_, os2, bare2⟩
    cases q : H b with
    | none => exact un2.keep b o e q (fun m => absurd (show b ∈ ([] : List Addr) from m) List.not_mem_nil) List.not_mem_nil
    | some y =>
      obtain ⟨rfl, _, rfl⟩ := seen b y q
      obtain ⟨e2, _⟩ := laid2 b _ (un2.frzs b _ _ q)
      cases obj.symm.trans e
      exact e2
theorem begunAll (kin : K.In st.heap) (nsg : st.heap.Ns mainGlobals mg) (nsb : st.heap.Ns builtinsNs mb)
    (bis : ∀ y : Str, y ≠ "__name__" → mb y = bootBuiltins y) (lim : st.heap.NoLimit) (gens : st.gens = #[])
    (obj : st.heap.get? sc = some (scrO us)) (ars : IntsAre us ns) (few : ns.length ≤ sizeLine) (room : Room k callerA)
    (F : ∀ bs : Heap, K.In bs → bs.Ns mainGlobals mg → FnQ P w K mg bs CX0 k fa fd [x] sp)
    (bnd : ∀ (s : Shared) (u : Value), BindsTo s fd ⟨[u], []⟩ [(x, u)])
    (want : ∀ H : Hp, SqL K H sc (ns.map V.int) → sp [.ref sc] H (fun v _ => v = .bl true) fun _ _ _ => False) :
    codeAny (model P w) callerA (.call (.ref fa) ⟨[.ref sc], []⟩) (Ended st) st := by
  cases lk : K.lookup sc with
  | none =>
    let H1 : Hp := fun b => if b = sc then some (.frz (scrO us) (.lst (ns.map V.int))) else none
    have h1 : H1 sc = some (.frz (scrO us) (.lst (ns.map V.int))) := if_pos rfl
    refine begun (H := H1) kin nsg nsb bis lim gens obj ars few room F bnd (fun b u q => ?_) (want H1 (.inl (.inr ⟨_, h1⟩)))
    by_cases e : b = sc
    · subst e
      exact ⟨rfl, lk, Option.some.inj (q.symm.trans h1)⟩
    · have q2 : H1 b = none := if_neg e
      cases q2.symm.trans q
  | some o =>
    have len := ars.length
    cases obj.symm.trans (kin sc o lk)
    have sq : SqL K (fun _ => none) sc (ns.map V.int) := by
      refine .inr ⟨_, us.toArray, _, lk, rfl, rfl, rfl, ?_, ?_⟩
      · rw [List.size_toArray, len]
        exact few
      · simpa using vals_ints ars
    exact begun (H := fun _ => none) kin nsg nsb bis lim gens obj ars few room F bnd (fun _ _ q => nomatch q) (want _ sq)
end
end G
namespace G
open PySem PySem.Spec PyProof.Rows L2
theorem walk_begun {l : PySem.W.OpenLaw} {n k : Nat} {q : Program} {loose : List Str} {d : DefRec} {x : Str}
    {XP : (Str → Option Value) → Heap → Prop} {YP : World → Heap → Prop} (most : l.most = some n) (small : n ≤ sizeLine) (nod : d.params.defaults = [])
    (room : Room k callerA) (F : ∀ (w : World) (mg : Str → Option Value) (fa : Addr) (h : Heap), YP w h → h.Ns mainGlobals mg →
      mg d.name = some (.ref fa) → ∃ (K : PySem.W.Frag) (fd : FuncData) (sp : Sp), K.In h ∧
        (∀ (s : Shared) (u : Value), BindsTo s fd ⟨[u], []⟩ [(x, u)]) ∧
        (∀ (H : Hp) (a : Addr) (ns : List Int), ns.length ≤ n → SqL K H a (ns.map V.int) →
          sp [.ref a] H (fun v _ => v = .bl true) fun _ _ _ => False) ∧
        ∀ bs : Heap, K.In bs → bs.Ns mainGlobals mg → FnQ l.prog w K mg bs CX0 k fa fd [x] sp) :
    PySem.W.WalkO q loose XP YP l.row.toRowW d [] (fun f vs => PySem.call f vs) := by
  refine Att.attach_call most nod ?_
  intro w s0 s1 mg mb fa o pm cd doc a vs ns T Y _ _ _ hmg obj ars len gens
  obtain ⟨K, fd, sp, kin, bnd, want, ok⟩ := F w mg fa _ Y T.T.g hmg
  exact begunAll kin T.T.g T.T.b T.T.builtins T.T.nolimit gens obj ars (Nat.le_trans len small) room ok bnd fun H sq => want H a ns len sq
end G

namespace K
open PySem PySem.Spec PyProof.Rows L2 G
theorem fun_of {F : PySem.W.Frag} {x qual : Str} {st : Stmt} {f : Addr} {fd : FuncData} {kws : List (Str × V)} (z : FunD F x qual (defArgs st) (defBody st) (defScope st) [] kws f fd) : Fun F x qual st f fd := by
  obtain ⟨oc, od, dV, kV, doc, pm, an, cdv, ct, osl, e, lk, hcd, hD, _⟩ := z.ex
  rcases hD with ⟨_, rfl⟩ | ⟨h, _⟩
  · exact ⟨⟨oc, od, kV, doc, pm, an, cdv, ct, osl, e, lk, hcd⟩, z.kp⟩
  · exact absurd rfl h
theorem dc_of {M : Md} {x : Str} {st : Stmt} {f : Addr} {fd : FuncData} {ps : List Str} {k : Nat} {sp : Sp} (z : FunD M.K x x (defArgs st) (defBody st) (defScope st) [] [] f fd) (hm : M.mg x = some (.ref f))
    (hb : ∀ (kV doc pm : Value) (an : Option Addr) (cdv ct : Value) (us : List Value), us.length = ps.length → bindArgs (PySem.W.fnOf x x (defArgs st) (defBody st) (defScope st) .none kV doc pm an cdv ct) ⟨us, []⟩ = pure (ps.zip us))
    (ok : Fun M.K x x st f fd → FnG M.prog M.w M.K M.mg M.base CX0 k f fd ps sp) : Dc M x ps k sp := ⟨f, fd, ok (fun_of z), hm, z.kp, z.bindsN hb⟩
theorem kw_ofG {K : PySem.W.Frag} {x : Str} {st : Stmt} {f : Addr} {fd : FuncData} {kws : List (Str × V)} {ag : Args} {bs : List (Str × Value)} (z : FunD K x x (defArgs st) (defBody st) (defScope st) [] kws f fd)
    (h : ∀ (kV doc pm : Value) (an : Option Addr) (cdv ct : Value), bindArgs (PySem.W.fnOf x x (defArgs st) (defBody st) (defScope st) .none kV doc pm an cdv ct) ag = pure bs) (s : Shared) : BindsTo s fd ag bs := by
  obtain ⟨_, _, _, kV, doc, pm, an, cdv, ct, _, e, _, _, hD, _⟩ := z.ex
  subst e
  rcases hD with ⟨_, e⟩ | ⟨e, _⟩
  · subst e
    exact .of_eq (h kV doc pm an cdv ct)
  · exact absurd rfl e
set_option maxHeartbeats 4000000 in
theorem whole {M : Md} (b : Bl M) (hp : M.mg "repr" = none) (he : M.mg "enumerate" = none) (hS : ∃ u, M.mg "SLOTS" = some u ∧ RelV (.int 32) u)
    (D : ∀ (i : Nat) (d : He.DefD), fns[i]? = some d → ∃ fd, FunD M.K d.name d.qual d.params d.body d.scope (d.dvs M.K) (d.kws M.K) (He.fAd M.K d.at_) fd) (g : ∀ (i : Nat) (x : Str), fas[i]? = some (.glo x) → M.mg x = some (.ref (He.ga M.K x)))
    {fd : FuncData} (zl : FunD M.K "law" "law" (defArgs s_law) (defBody s_law) (defScope s_law) [] [] (He.ga M.K "law") fd) : FnQ M.prog M.w M.K M.mg M.base CX0 20 (He.ga M.K "law") fd ["_law_script"] (spLaw M.K) := by
  obtain ⟨w_row_width, z_row_width⟩ : ∃ fd, FunD M.K "row_width" "row_width" (defArgs s_row_width) (defBody s_row_width) (defScope s_row_width) [] [] (He.ga M.K "row_width") fd := D 0 _ rfl
  have m_row_width : M.mg "row_width" = some (.ref (He.ga M.K "row_width")) := g 0 _ rfl
  obtain ⟨w_cell_ranges, z_cell_ranges⟩ : ∃ fd, FunD M.K "cell_ranges" "cell_ranges" (defArgs s_cell_ranges) (defBody s_cell_ranges) (defScope s_cell_ranges) [] [] (He.ga M.K "cell_ranges") fd := D 1 _ rfl
  have m_cell_ranges : M.mg "cell_ranges" = some (.ref (He.ga M.K "cell_ranges")) := g 1 _ rfl
  obtain ⟨w_found_index, z_found_index⟩ : ∃ fd, FunD M.K "found_index" "found_index" (defArgs s_found_index) (defBody s_found_index) (defScope s_found_index) [] [] (He.ga M.K "found_index") fd := D 2 _ rfl
  have m_found_index : M.mg "found_index" = some (.ref (He.ga M.K "found_index")) := g 2 _ rfl
  obtain ⟨w_touched_place, z_touched_place⟩ : ∃ fd, FunD M.K "touched_place" "touched_place" (defArgs s_touched_place) (defBody s_touched_place) (defScope s_touched_place) [] [] (He.ga M.K "touched_place") fd := D 3 _ rfl
  have m_touched_place : M.mg "touched_place" = some (.ref (He.ga M.K "touched_place")) := g 3 _ rfl
  obtain ⟨w_value_of_two, z_value_of_two⟩ : ∃ fd, FunD M.K "value_of_two" "value_of_two" (defArgs s_value_of_two) (defBody s_value_of_two) (defScope s_value_of_two) [] [] (He.ga M.K "value_of_two") fd := D 4 _ rfl
  have m_value_of_two : M.mg "value_of_two" = some (.ref (He.ga M.K "value_of_two")) := g 4 _ rfl
  obtain ⟨w__compared, z__compared⟩ : ∃ fd, FunD M.K "_compared" "_compared" (defArgs s__compared) (defBody s__compared) (defScope s__compared) [] [] (He.ga M.K "_compared") fd := D 5 _ rfl
  have m__compared : M.mg "_compared" = some (.ref (He.ga M.K "_compared")) := g 5 _ rfl
  obtain ⟨w_first_run, z_first_run⟩ : ∃ fd, FunD M.K "first_run" "first_run" (defArgs s_first_run) (defBody s_first_run) (defScope s_first_run) [] [] (He.ga M.K "first_run") fd := D 6 _ rfl
  have m_first_run : M.mg "first_run" = some (.ref (He.ga M.K "first_run")) := g 6 _ rfl
  obtain ⟨w_step_of, z_step_of⟩ : ∃ fd, FunD M.K "step_of" "step_of" (defArgs s_step_of) (defBody s_step_of) (defScope s_step_of) [] [] (He.ga M.K "step_of") fd := D 7 _ rfl
  have m_step_of : M.mg "step_of" = some (.ref (He.ga M.K "step_of")) := g 7 _ rfl
  obtain ⟨w__touching_step, z__touching_step⟩ : ∃ fd, FunD M.K "_touching_step" "_touching_step" (defArgs s__touching_step) (defBody s__touching_step) (defScope s__touching_step) [] [] (He.ga M.K "_touching_step") fd := D 8 _ rfl
  have m__touching_step : M.mg "_touching_step" = some (.ref (He.ga M.K "_touching_step")) := g 8 _ rfl
  obtain ⟨w__touched_cell, z__touched_cell⟩ : ∃ fd, FunD M.K "_touched_cell" "_touched_cell" (defArgs s__touched_cell) (defBody s__touched_cell) (defScope s__touched_cell) [] [] (He.ga M.K "_touched_cell") fd := D 9 _ rfl
  have m__touched_cell : M.mg "_touched_cell" = some (.ref (He.ga M.K "_touched_cell")) := g 9 _ rfl
  obtain ⟨w__index_behind, z__index_behind⟩ : ∃ fd, FunD M.K "_index_behind" "_index_behind" (defArgs s__index_behind) (defBody s__index_behind) (defScope s__index_behind) [] [] (He.ga M.K "_index_behind") fd := D 10 _ rfl
  have m__index_behind : M.mg "_index_behind" = some (.ref (He.ga M.K "_index_behind")) := g 10 _ rfl
  obtain ⟨w__slot_of, z__slot_of⟩ : ∃ fd, FunD M.K "_slot_of" "_slot_of" (defArgs s__slot_of) (defBody s__slot_of) (defScope s__slot_of) [] [] (He.ga M.K "_slot_of") fd := D 11 _ rfl
  have m__slot_of : M.mg "_slot_of" = some (.ref (He.ga M.K "_slot_of")) := g 11 _ rfl
  obtain ⟨w__value_of, z__value_of⟩ : ∃ fd, FunD M.K "_value_of" "_value_of" (defArgs s__value_of) (defBody s__value_of) (defScope s__value_of) [] [] (He.ga M.K "_value_of") fd := D 12 _ rfl
  have m__value_of : M.mg "_value_of" = some (.ref (He.ga M.K "_value_of")) := g 12 _ rfl
  obtain ⟨w__replaced, z__replaced⟩ : ∃ fd, FunD M.K "_replaced" "_replaced" (defArgs s__replaced) (defBody s__replaced) (defScope s__replaced) [] [] (He.ga M.K "_replaced") fd := D 13 _ rfl
  have m__replaced : M.mg "_replaced" = some (.ref (He.ga M.K "_replaced")) := g 13 _ rfl
  obtain ⟨w_schedules_of, z_schedules_of⟩ : ∃ fd, FunD M.K "schedules_of" "schedules_of" (defArgs s_schedules_of) (defBody s_schedules_of) (defScope s_schedules_of) [] [] (He.ga M.K "schedules_of") fd := D 14 _ rfl
  have m_schedules_of : M.mg "schedules_of" = some (.ref (He.ga M.K "schedules_of")) := g 14 _ rfl
  obtain ⟨w__longer_by_one, z__longer_by_one⟩ : ∃ fd, FunD M.K "_longer_by_one" "_longer_by_one" (defArgs s__longer_by_one) (defBody s__longer_by_one) (defScope s__longer_by_one) [] [] (He.ga M.K "_longer_by_one") fd := D 15 _ rfl
  have m__longer_by_one : M.mg "_longer_by_one" = some (.ref (He.ga M.K "_longer_by_one")) := g 15 _ rfl
  obtain ⟨w_all_states, z_all_states⟩ : ∃ fd, FunD M.K "all_states" "all_states" (defArgs s_all_states) (defBody s_all_states) (defScope s_all_states) [] [] (He.ga M.K "all_states") fd := D 16 _ rfl
  have m_all_states : M.mg "all_states" = some (.ref (He.ga M.K "all_states")) := g 16 _ rfl
  obtain ⟨w_state_list, z_state_list⟩ : ∃ fd, FunD M.K "state_list" "state_list" (defArgs s_state_list) (defBody s_state_list) (defScope s_state_list) [] [] (He.ga M.K "state_list") fd := D 17 _ rfl
  have m_state_list : M.mg "state_list" = some (.ref (He.ga M.K "state_list")) := g 17 _ rfl
  obtain ⟨w__combined, z__combined⟩ : ∃ fd, FunD M.K "_combined" "_combined" (defArgs s__combined) (defBody s__combined) (defScope s__combined) [] [] (He.ga M.K "_combined") fd := D 18 _ rfl
  have m__combined : M.mg "_combined" = some (.ref (He.ga M.K "_combined")) := g 18 _ rfl
  obtain ⟨w__law_source, z__law_source⟩ : ∃ fd, FunD M.K "_law_source" "_law_source" (defArgs s__law_source) (defBody s__law_source) (defScope s__law_source) [] [] (He.ga M.K "_law_source") fd := D 19 _ rfl
  have m__law_source : M.mg "_law_source" = some (.ref (He.ga M.K "_law_source")) := g 19 _ rfl
  obtain ⟨w__law_next, z__law_next⟩ : ∃ fd, FunD M.K "_law_next" "_law_next" (defArgs s__law_next) (defBody s__law_next) (defScope s__law_next) [] [] (He.ga M.K "_law_next") fd := D 20 _ rfl
  have m__law_next : M.mg "_law_next" = some (.ref (He.ga M.K "_law_next")) := g 20 _ rfl
  obtain ⟨w__law_rows, z__law_rows⟩ : ∃ fd, FunD M.K "_law_rows" "_law_rows" (defArgs s__law_rows) (defBody s__law_rows) (defScope s__law_rows) [] [] (He.ga M.K "_law_rows") fd := D 21 _ rfl
  have m__law_rows : M.mg "_law_rows" = some (.ref (He.ga M.K "_law_rows")) := g 21 _ rfl
  obtain ⟨w__law_places, z__law_places⟩ : ∃ fd, FunD M.K "_law_places" "_law_places" (defArgs s__law_places) (defBody s__law_places) (defScope s__law_places) [] [] (He.ga M.K "_law_places") fd := D 22 _ rfl
  have m__law_places : M.mg "_law_places" = some (.ref (He.ga M.K "_law_places")) := g 22 _ rfl
  obtain ⟨w__law_result_of, z__law_result_of⟩ : ∃ fd, FunD M.K "_law_result_of" "_law_result_of" (defArgs s__law_result_of) (defBody s__law_result_of) (defScope s__law_result_of) [] [] (He.ga M.K "_law_result_of") fd := D 23 _ rfl
  have m__law_result_of : M.mg "_law_result_of" = some (.ref (He.ga M.K "_law_result_of")) := g 23 _ rfl
  obtain ⟨w__law_fresh, z__law_fresh⟩ : ∃ fd, FunD M.K "_law_fresh" "_law_fresh" (defArgs s__law_fresh) (defBody s__law_fresh) (defScope s__law_fresh) [] [] (He.ga M.K "_law_fresh") fd := D 24 _ rfl
  have m__law_fresh : M.mg "_law_fresh" = some (.ref (He.ga M.K "_law_fresh")) := g 24 _ rfl
  obtain ⟨w__law_spot, z__law_spot⟩ : ∃ fd, FunD M.K "_law_spot" "_law_spot" (defArgs s__law_spot) (defBody s__law_spot) (defScope s__law_spot) [] [] (He.ga M.K "_law_spot") fd := D 25 _ rfl
  have m__law_spot : M.mg "_law_spot" = some (.ref (He.ga M.K "_law_spot")) := g 25 _ rfl
  obtain ⟨w__law_touch, z__law_touch⟩ : ∃ fd, FunD M.K "_law_touch" "_law_touch" (defArgs s__law_touch) (defBody s__law_touch) (defScope s__law_touch) [] [] (He.ga M.K "_law_touch") fd := D 26 _ rfl
  have m__law_touch : M.mg "_law_touch" = some (.ref (He.ga M.K "_law_touch")) := g 26 _ rfl
  obtain ⟨w__law_do, z__law_do⟩ : ∃ fd, FunD M.K "_law_do" "_law_do" (defArgs s__law_do) (defBody s__law_do) (defScope s__law_do) [] [] (He.ga M.K "_law_do") fd := D 27 _ rfl
  have m__law_do : M.mg "_law_do" = some (.ref (He.ga M.K "_law_do")) := g 27 _ rfl
  obtain ⟨w__law_event, z__law_event⟩ : ∃ fd, FunD M.K "_law_event" "_law_event" (defArgs s__law_event) (defBody s__law_event) (defScope s__law_event) [] [] (He.ga M.K "_law_event") fd := D 28 _ rfl
  have m__law_event : M.mg "_law_event" = some (.ref (He.ga M.K "_law_event")) := g 28 _ rfl
  obtain ⟨w__law_table_places, z__law_table_places⟩ : ∃ fd, FunD M.K "_law_table_places" "_law_table_places" (defArgs s__law_table_places) (defBody s__law_table_places) (defScope s__law_table_places) [] [] (He.ga M.K "_law_table_places") fd := D 29 _ rfl
  have m__law_table_places : M.mg "_law_table_places" = some (.ref (He.ga M.K "_law_table_places")) := g 29 _ rfl
  obtain ⟨w__law_part, z__law_part⟩ : ∃ fd, FunD M.K "_law_part" "_law_part" (defArgs s__law_part) (defBody s__law_part) (defScope s__law_part) [] [] (He.ga M.K "_law_part") fd := D 30 _ rfl
  have m__law_part : M.mg "_law_part" = some (.ref (He.ga M.K "_law_part")) := g 30 _ rfl
  obtain ⟨w__law_code, z__law_code⟩ : ∃ fd, FunD M.K "_law_code" "_law_code" (defArgs s__law_code) (defBody s__law_code) (defScope s__law_code) [] [] (He.ga M.K "_law_code") fd := D 31 _ rfl
  have m__law_code : M.mg "_law_code" = some (.ref (He.ga M.K "_law_code")) := g 31 _ rfl
  obtain ⟨w__law_copied, z__law_copied⟩ : ∃ fd, FunD M.K "_law_copied" "_law_copied" (defArgs s__law_copied) (defBody s__law_copied) (defScope s__law_copied) [] [] (He.ga M.K "_law_copied") fd := D 32 _ rfl
  have m__law_copied : M.mg "_law_copied" = some (.ref (He.ga M.K "_law_copied")) := g 32 _ rfl
  obtain ⟨w__law_all, z__law_all⟩ : ∃ fd, FunD M.K "_law_all" "_law_all" (defArgs s__law_all) (defBody s__law_all) (defScope s__law_all) [] [] (He.ga M.K "_law_all") fd := D 33 _ rfl
  have m__law_all : M.mg "_law_all" = some (.ref (He.ga M.K "_law_all")) := g 33 _ rfl
  obtain ⟨w__law_is_right, z__law_is_right⟩ : ∃ fd, FunD M.K "_law_is_right" "_law_is_right" (defArgs s__law_is_right) (defBody s__law_is_right) (defScope s__law_is_right) [] [] (He.ga M.K "_law_is_right") fd := D 34 _ rfl
  have m__law_is_right : M.mg "_law_is_right" = some (.ref (He.ga M.K "_law_is_right")) := g 34 _ rfl
  have dw := dc_of (st := s_row_width) z_row_width m_row_width (fun _ _ _ _ _ _ us hl => match us, hl with | [_], _ => rfl) (fun F => ok_width F b)
  have dfi := dc_of (st := s_found_index) z_found_index m_found_index (fun _ _ _ _ _ _ us hl => match us, hl with | [_, _, _], _ => rfl) (fun F => ok_found F dw)
  have dr := dc_of (st := s_cell_ranges) z_cell_ranges m_cell_ranges (fun _ _ _ _ _ _ us hl => match us, hl with | [_], _ => rfl) (fun F => ok_ranges F b dw)
  have dcm := dc_of (st := s__compared) z__compared m__compared (fun _ _ _ _ _ _ us hl => match us, hl with | [_, _, _], _ => rfl) (fun F => ok_cmp F b)
  have d2 := dc_of (st := s_value_of_two) z_value_of_two m_value_of_two (fun _ _ _ _ _ _ us hl => match us, hl with | [_, _, _], _ => rfl) (fun F => ok_two F b dcm)
  have dcb := dc_of (st := s__combined) z__combined m__combined (fun _ _ _ _ _ _ us hl => match us, hl with | [_], _ => rfl) (fun F => ok_comb F b)
  have dsl := dc_of (st := s_state_list) z_state_list m_state_list (fun _ _ _ _ _ _ us hl => match us, hl with | [_], _ => rfl) (fun F => ok_slist F b dr dcb)
  have dal : DcG M "all_states" ["program"] 4 (spAll M.K) := ⟨_, _, ok_all (fun_of z_all_states) b dsl, m_all_states, z_all_states.kp, z_all_states.bindsN (fun _ _ _ _ _ _ us hl => match us, hl with | [_], _ => rfl)⟩
  have dtp := dc_of (st := s_touched_place) z_touched_place m_touched_place (fun _ _ _ _ _ _ us hl => match us, hl with | [_], _ => rfl) (fun F => ok_tp F b)
  have dslo := dc_of (st := s__slot_of) z__slot_of m__slot_of (fun _ _ _ _ _ _ us hl => match us, hl with | [_], _ => rfl) (fun F => ok_slot F b)
  have dnx := dc_of (st := s__index_behind) z__index_behind m__index_behind (fun _ _ _ _ _ _ us hl => match us, hl with | [_, _, _], _ => rfl) (fun F => ok_nx F b)
  have dvl := dc_of (st := s__value_of) z__value_of m__value_of (fun _ _ _ _ _ _ us hl => match us, hl with | [_, _], _ => rfl) (fun F => ok_val F b d2)
  have drp := dc_of (st := s__replaced) z__replaced m__replaced (fun _ _ _ _ _ _ us hl => match us, hl with | [_, _, _], _ => rfl) (fun F => ok_rep F b)
  have dce := dc_of (st := s__touched_cell) z__touched_cell m__touched_cell (fun _ _ _ _ _ _ us hl => match us, hl with | [_, _, _], _ => rfl) (fun F => ok_cell F b dtp dfi)
  have dtc := dc_of (st := s__touching_step) z__touching_step m__touching_step (fun _ _ _ _ _ _ us hl => match us, hl with | [_, _, _, _], _ => rfl) (fun F => ok_tch F b dce drp)
  have dfr := dc_of (st := s_first_run) z_first_run m_first_run (fun _ _ _ _ _ _ us hl => match us, hl with | [], _ => rfl) (fun F => ok_first F b hS)
  have dst := dc_of (st := s_step_of) z_step_of m_step_of (fun _ _ _ _ _ _ us hl => match us, hl with | [_, _, _, _], _ => rfl) (fun F => ok_step F b dtp dtc dnx dvl dslo drp)
  have dlo := dc_of (st := s__longer_by_one) z__longer_by_one m__longer_by_one (fun _ _ _ _ _ _ us hl => match us, hl with | [_, _, _, _], _ => rfl) (fun F => ok_longer F b he dst)
  have dsc : DcG M "schedules_of" ["cells", "state", "codes"] 8 (spSch M.K) := ⟨_, _, ok_sched (fun_of z_schedules_of) b dfr dlo, m_schedules_of, z_schedules_of.kp, z_schedules_of.bindsN (fun _ _ _ _ _ _ us hl => match us, hl with | [_, _, _], _ => rfl)⟩
  have ksc : DcGk M "schedules_of" ["cells", "state", "codes"] ["codes", "state", "cells"] List.reverse 8 (spSch M.K) := ⟨_, _, List.reverse, ok_sched (fun_of z_schedules_of) b dfr dlo, m_schedules_of, z_schedules_of.kp, fun s ws l => match ws, l with | [_, _, _], _ => kw_ofG z_schedules_of (fun _ _ _ _ _ _ => rfl) s, fun zs ws r l => match zs, ws, r, l with | [_, _, _], [_, _, _], .cons h1 (.cons h2 (.cons h3 .nil)), _ => .cons h3 (.cons h2 (.cons h1 .nil))⟩
  have dsr := dc_of (st := s__law_source) z__law_source m__law_source (fun _ _ _ _ _ _ us hl => match us, hl with | [_], _ => rfl) (fun F => ok_src F b)
  have dn := dc_of (st := s__law_next) z__law_next m__law_next (fun _ _ _ _ _ _ us hl => match us, hl with | [_, _], _ => rfl) (fun F => ok_next F b)
  have dro := dc_of (st := s__law_rows) z__law_rows m__law_rows (fun _ _ _ _ _ _ us hl => match us, hl with | [_], _ => rfl) (fun F => ok_rows F b dn)
  have dpl := dc_of (st := s__law_places) z__law_places m__law_places (fun _ _ _ _ _ _ us hl => match us, hl with | [_], _ => rfl) (fun F => ok_places F b)
  have dre := dc_of (st := s__law_result_of) z__law_result_of m__law_result_of (fun _ _ _ _ _ _ us hl => match us, hl with | [_, _, _], _ => rfl) (fun F => ok_result F b)
  have dfs := dc_of (st := s__law_fresh) z__law_fresh m__law_fresh (fun _ _ _ _ _ _ us hl => match us, hl with | [], _ => rfl) (fun F => ok_fresh F b)
  have dsp := dc_of (st := s__law_spot) z__law_spot m__law_spot (fun _ _ _ _ _ _ us hl => match us, hl with | [_, _, _], _ => rfl) (fun F => ok_spot F b)
  have dto := dc_of (st := s__law_touch) z__law_touch m__law_touch (fun _ _ _ _ _ _ us hl => match us, hl with | [_, _, _, _], _ => rfl) (fun F => ok_touch F b dsp)
  have ddo := dc_of (st := s__law_do) z__law_do m__law_do (fun _ _ _ _ _ _ us hl => match us, hl with | [_, _, _, _], _ => rfl) (fun F => ok_do F b dto dre)
  have dev := dc_of (st := s__law_event) z__law_event m__law_event (fun _ _ _ _ _ _ us hl => match us, hl with | [_, _, _, _], _ => rfl) (fun F => ok_event F b ddo)
  have dtab := dc_of (st := s__law_table_places) z__law_table_places m__law_table_places (fun _ _ _ _ _ _ us hl => match us, hl with | [_], _ => rfl) (fun F => ok_tab F b)
  have dpa := dc_of (st := s__law_part) z__law_part m__law_part (fun _ _ _ _ _ _ us hl => match us, hl with | [_, _, _, _], _ => rfl) (fun F => ok_partI F b dn dtab)
  have dco := dc_of (st := s__law_code) z__law_code m__law_code (fun _ _ _ _ _ _ us hl => match us, hl with | [_, _, _], _ => rfl) (fun F => ok_codeI F b dn dpa)
  have dcp := dc_of (st := s__law_copied) z__law_copied m__law_copied (fun _ _ _ _ _ _ us hl => match us, hl with | [_], _ => rfl) (fun F => ok_copied F b)
  have dla : ∀ n, dcLAll M n := fun n => Nat.rec (motive := fun n => dcLAll M n) (dc_of (st := s__law_all) z__law_all m__law_all (fun _ _ _ _ _ _ us hl => match us, hl with | [_, _, _, _], _ => rfl) (fun F => ok_lall 0 F b dcp dev (fun m h => by omega))) (fun n ih => dc_of (st := s__law_all) z__law_all m__law_all (fun _ _ _ _ _ _ us hl => match us, hl with | [_, _, _, _], _ => rfl) (fun F => ok_lall (n + 1) F b dcp dev (fun m h => match m, Nat.succ.inj h with | _, rfl => ih))) n
  have dri : dcRt M := ⟨_, _, ok_right (fun_of z__law_is_right) b hp dpl dfs (dla 12) dsc ksc, m__law_is_right, z__law_is_right.kp, z__law_is_right.bindsN (fun _ _ _ _ _ _ us hl => match us, hl with | [_, _, _, _], _ => rfl)⟩
  exact ok_law (fun_of zl) b dsr dn dro dal dco dri
end K

namespace K
open PySem PySem.Spec PyProof.Rows L2 G
theorem facts {P : Program} {w : World} {F : PySem.W.Frag} {h : Heap} {mg : Str → Option Value} {f : Addr} (X : F.In h) (N : h.Ns mainGlobals mg) (hf : mg ("law" : Str) = some (.ref f)) (c : He.SaysX fas fns [] [] ruleB w h F) :
    ∃ fd : FuncData, (∀ (s : Shared) (v : Value), BindsTo s fd ⟨[v], []⟩ [("_law_script", v)]) ∧ ∀ base : Heap, F.In base → base.Ns mainGlobals mg → FnQ P w F mg base CX0 20 f fd ["_law_script"] (spLaw F) := by
  have cd : He.SaysD fas fns F := congrArg (fun z : He.AlT => z.1) c.t
  have glo : ∀ (i : Nat) (x : Str), fas[i]? = some (.glo x) → mg x = some (.ref (He.ga F x)) := fun i x hx => He.glo_ok X N (cd.fact i hx)
  have fre : ∀ (i : Nat) (x : Str), fas[i]? = some (.free x) → mg x = none := fun i x hx => He.free_ok X N (cd.fact i hx)
  obtain ⟨fd, zl⟩ : ∃ fd, FunD F "law" "law" (defArgs s_law) (defBody s_law) (defScope s_law) [] [] (He.ga F "law") fd := cd.def_ 35 rfl
  have e := hf.symm.trans (glo 35 _ rfl)
  cases e
  obtain ⟨k1, e1⟩ := He.int_ok (x := "SLOTS") (i := 32) X N (cd.fact 51 rfl)
  refine ⟨fd, fun s v => FunD.bindsA (ps := ["_law_script"]) zl (fun _ _ _ _ _ _ us hl => match us, hl with | [_], _ => rfl) s [v] rfl, fun base _ _ => ?_⟩
  exact whole (M := ⟨P, w, F, mg, base⟩) ⟨fre 36 _ rfl, fre 37 _ rfl, fre 38 _ rfl, fre 39 _ rfl, fre 40 _ rfl, fre 41 _ rfl, fre 42 _ rfl, fre 43 _ rfl, fre 44 _ rfl, fre 45 _ rfl, fre 46 _ rfl, fre 47 _ rfl, fre 48 _ rfl⟩ (fre 50 _ rfl) (fre 49 _ rfl) ⟨_, e1, k1, rfl⟩ (fun i d hd => cd.def_ i hd) glo zl
end K
open PySem PySem.W PySem.Calls PyProof.Rows
set_option maxHeartbeats 0 in
theorem PySem.Challenge.cw_orderless_k51_whole_schedules_holds : PySem.Challenge.rw_orderless_k51_whole_schedules.Holds := by
  w_on; o_law
  refine HandSHeadRun.head_any (r := K.Rw) (q := view K.Rw.prog [K.lawAt]) (H := K.ownHook) (ob := K.obT) (M := 9000) (loose := K.loose) (d := HandSHeadRun.topDef K.Rw.prog K.lawAt) (kwd := []) K.obT_eq
    (by kernel_rfl) (fun s => by kernel_rfl) K.topRun (by kernel_rfl) (by kernel_rfl) (by kernel_rfl) (by rfl) (by first | assumption | decide +kernel) (by decide +kernel) ⟨rfl, rfl, rfl, rfl, rfl, by decide +kernel⟩ ?hw ?hc
  case hw => w_witness2
  case hc =>
    refine G.walk_begun (l := PySem.Challenge.rw_orderless_k51_whole_schedules) (n := 63) (k := 20) (x := "_law_script") rfl (by decide) (by kernel_rfl) ⟨rfl, by decide, by decide⟩ ?F
    intro w mg fa h Y N hmg0
    obtain ⟨F, FX, c⟩ := Y
    have nm : (HandSHeadRun.topDef K.Rw.prog K.lawAt).name = ("law" : PySem.Str) := by kernel_rfl
    rw [nm] at hmg0
    obtain ⟨fd, hb, ok⟩ := K.facts (P := PySem.Challenge.rw_orderless_k51_whole_schedules.prog) (w := w) FX N hmg0 c
    exact ⟨F, fd, K.spLaw F, FX, hb, fun H a ns few is => ⟨a, ns, rfl, is, fun _ => rfl⟩, ok⟩

