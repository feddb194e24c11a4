import PyProof.Rows.All
import Wide.All
import OpenK.AllK
import Wide.FinOn
import KE.KStateDown
import HandS.Ends
import HandS.Exc
import HandS.WordsExc
import HandS.Defaults
import HandS.Head0
import HandS.Head1
import HandS.Head2
import HandS.HeadHook1
import HandS.HeadHook2
import HandS.HeadHook3
import HandS.HeadHook4
import HandS.Base
import HandS.Call
import HandS.List
import HandS.Comp
import HandS.Dict
import HandS.Iter
import HandS.Words
import HandS.IsInst
import HandS.Wide
import HandS.Flow
import HandS.TupAny
import HandS.Deep
import HandS.Style
import HandS.GenList
import HandS.GenYield
import PyProof.GenRules
import PyProof.ForAny
import HandS.Zip
import HandS.SortRule
import HandS.Text
import PyProof.CallFns
import PyProof.ReprRoads
import PyProof.ReprLen
import PyProof.StrLawsRepr
import HandS.Lambda
import HandS.HeadEnd
import PySem.Challenge.RW_orderless_k59_folding_told
set_option Elab.async false
set_option linter.all false
set_option maxRecDepth 100000
namespace K
open PySem L2
def top (i : Nat) : Stmt := PySem.Challenge.pw_orderless_k59_folding_told.main.body.getD i (.Pass ⟨0, 0, 0, 0⟩)
abbrev s_row_width : Stmt := top 5
-- 0:row
abbrev N_row_width : List Str := ["row"]
theorem sc_row_width : FnScope N_row_width ["row"] (defScope s_row_width) := ⟨rfl, rfl, rfl, by decide +kernel, rfl, by decide +kernel, by decide +kernel⟩
abbrev s_cell_ranges : Stmt := top 6
-- 0:cells 1:ranges 2:row
abbrev N_cell_ranges : List Str := ["cells", "ranges", "row"]
theorem sc_cell_ranges : FnScope N_cell_ranges ["cells"] (defScope s_cell_ranges) := ⟨rfl, rfl, rfl, by decide +kernel, rfl, by decide +kernel, by decide +kernel⟩
abbrev s_found_index : Stmt := top 7
-- 0:cells 1:name 2:key 3:begin 4:row
abbrev N_found_index : List Str := ["cells", "name", "key", "begin", "row"]
theorem sc_found_index : FnScope N_found_index ["cells", "name", "key"] (defScope s_found_index) := ⟨rfl, rfl, rfl, by decide +kernel, rfl, by decide +kernel, by decide +kernel⟩
abbrev s_cell_index : Stmt := top 8
-- 0:cells 1:name 2:key 3:index
abbrev N_cell_index : List Str := ["cells", "name", "key", "index"]
theorem sc_cell_index : FnScope N_cell_index ["cells", "name", "key"] (defScope s_cell_index) := ⟨rfl, rfl, rfl, by decide +kernel, rfl, by decide +kernel, by decide +kernel⟩
abbrev s_value_in : Stmt := top 11
-- 0:cells 1:state 2:expression 3:value 4:_
abbrev N_value_in : List Str := ["cells", "state", "expression", "value", "_"]
theorem sc_value_in : FnScope N_value_in ["cells", "state", "expression"] (defScope s_value_in) := ⟨rfl, rfl, rfl, by decide +kernel, rfl, by decide +kernel, by decide +kernel⟩
abbrev s_evaluated : Stmt := top 12
-- 0:cells 1:state 2:expression 3:index 4:looks
abbrev N_evaluated : List Str := ["cells", "state", "expression", "index", "looks"]
theorem sc_evaluated : FnScope N_evaluated ["cells", "state", "expression"] (defScope s_evaluated) := ⟨rfl, rfl, rfl, by decide +kernel, rfl, by decide +kernel, by decide +kernel⟩
abbrev s_keyed_index : Stmt := top 13
-- 0:cells 1:state 2:table 3:key 4:value 5:looks
abbrev N_keyed_index : List Str := ["cells", "state", "table", "key", "value", "looks"]
theorem sc_keyed_index : FnScope N_keyed_index ["cells", "state", "table", "key"] (defScope s_keyed_index) := ⟨rfl, rfl, rfl, by decide +kernel, rfl, by decide +kernel, by decide +kernel⟩
abbrev s__lazy_value : Stmt := top 14
-- 0:cells 1:state 2:expression 3:op 4:test 5:looks 6:holds 7:value 8:more
abbrev N__lazy_value : List Str := ["cells", "state", "expression", "op", "test", "looks", "holds", "value", "more"]
theorem sc__lazy_value : FnScope N__lazy_value ["cells", "state", "expression"] (defScope s__lazy_value) := ⟨rfl, rfl, rfl, by decide +kernel, rfl, by decide +kernel, by decide +kernel⟩
abbrev s__full_value : Stmt := top 15
-- 0:cells 1:state 2:expression 3:values 4:looks 5:part 6:value 7:more
abbrev N__full_value : List Str := ["cells", "state", "expression", "values", "looks", "part", "value", "more"]
theorem sc__full_value : FnScope N__full_value ["cells", "state", "expression"] (defScope s__full_value) := ⟨rfl, rfl, rfl, by decide +kernel, rfl, by decide +kernel, by decide +kernel⟩
abbrev s__of_one : Stmt := top 16
-- 0:op 1:value
abbrev N__of_one : List Str := ["op", "value"]
theorem sc__of_one : FnScope N__of_one ["op", "value"] (defScope s__of_one) := ⟨rfl, rfl, rfl, by decide +kernel, rfl, by decide +kernel, by decide +kernel⟩
abbrev s_value_of_two : Stmt := top 17
-- 0:op 1:one 2:other
abbrev N_value_of_two : List Str := ["op", "one", "other"]
theorem sc_value_of_two : FnScope N_value_of_two ["op", "one", "other"] (defScope s_value_of_two) := ⟨rfl, rfl, rfl, by decide +kernel, rfl, by decide +kernel, by decide +kernel⟩
abbrev s__compared : Stmt := top 18
-- 0:op 1:one 2:other
abbrev N__compared : List Str := ["op", "one", "other"]
theorem sc__compared : FnScope N__compared ["op", "one", "other"] (defScope s__compared) := ⟨rfl, rfl, rfl, by decide +kernel, rfl, by decide +kernel, by decide +kernel⟩
abbrev s_is_integer : Stmt := top 25
-- 0:thing
abbrev N_is_integer : List Str := ["thing"]
theorem sc_is_integer : FnScope N_is_integer ["thing"] (defScope s_is_integer) := ⟨rfl, rfl, rfl, by decide +kernel, rfl, by decide +kernel, by decide +kernel⟩
abbrev s_is_name : Stmt := top 26
-- 0:thing 1:letter
abbrev N_is_name : List Str := ["thing", "letter"]
theorem sc_is_name : FnScope N_is_name ["thing"] (defScope s_is_name) := ⟨rfl, rfl, rfl, by decide +kernel, rfl, by decide +kernel, by decide +kernel⟩
abbrev s_part_count : Stmt := top 27
-- 0:op
abbrev N_part_count : List Str := ["op"]
theorem sc_part_count : FnScope N_part_count ["op"] (defScope s_part_count) := ⟨rfl, rfl, rfl, by decide +kernel, rfl, by decide +kernel, by decide +kernel⟩
abbrev s_parts_of : Stmt := top 28
-- 0:thing 1:op
abbrev N_parts_of : List Str := ["thing", "op"]
theorem sc_parts_of : FnScope N_parts_of ["thing"] (defScope s_parts_of) := ⟨rfl, rfl, rfl, by decide +kernel, rfl, by decide +kernel, by decide +kernel⟩
abbrev s_is_expression : Stmt := top 29
-- 0:thing 1:parts 2:part
abbrev N_is_expression : List Str := ["thing", "parts", "part"]
theorem sc_is_expression : FnScope N_is_expression ["thing"] (defScope s_is_expression) := ⟨rfl, rfl, rfl, by decide +kernel, rfl, by decide +kernel, by decide +kernel⟩
abbrev s_all_states : Stmt := top 31
-- 0:program 1:state
abbrev N_all_states : List Str := ["program", "state"]
abbrev s_state_list : Stmt := top 32
-- 0:program
abbrev N_state_list : List Str := ["program"]
theorem sc_state_list : FnScope N_state_list ["program"] (defScope s_state_list) := ⟨rfl, rfl, rfl, by decide +kernel, rfl, by decide +kernel, by decide +kernel⟩
abbrev s__combined : Stmt := top 33
-- 0:ranges 1:states 2:low 3:high 4:state 5:value
abbrev N__combined : List Str := ["ranges", "states", "low", "high", "state", "value"]
theorem sc__combined : FnScope N__combined ["ranges"] (defScope s__combined) := ⟨rfl, rfl, rfl, by decide +kernel, rfl, by decide +kernel, by decide +kernel⟩
abbrev s_are_same : Stmt := top 35
-- 0:cells 1:one 2:other 3:state
abbrev N_are_same : List Str := ["cells", "one", "other", "state"]
theorem sc_are_same : FnScope N_are_same ["cells", "one", "other"] (defScope s_are_same) := ⟨rfl, rfl, rfl, by decide +kernel, rfl, by decide +kernel, by decide +kernel⟩
abbrev s_folded : Stmt := top 36
-- 0:cells 1:expression
abbrev N_folded : List Str := ["cells", "expression"]
theorem sc_folded : FnScope N_folded ["cells", "expression"] (defScope s_folded) := ⟨rfl, rfl, rfl, by decide +kernel, rfl, by decide +kernel, by decide +kernel⟩
abbrev s__folded_in : Stmt := top 37
-- 0:cells 1:states 2:expression 3:value 4:part
abbrev N__folded_in : List Str := ["cells", "states", "expression", "value", "part"]
theorem sc__folded_in : FnScope N__folded_in ["cells", "states", "expression"] (defScope s__folded_in) := ⟨rfl, rfl, rfl, by decide +kernel, rfl, by decide +kernel, by decide +kernel⟩
abbrev s__only_value : Stmt := top 38
-- 0:cells 1:states 2:expression 3:first 4:state
abbrev N__only_value : List Str := ["cells", "states", "expression", "first", "state"]
theorem sc__only_value : FnScope N__only_value ["cells", "states", "expression"] (defScope s__only_value) := ⟨rfl, rfl, rfl, by decide +kernel, rfl, by decide +kernel, by decide +kernel⟩
abbrev s__states_of : Stmt := top 39
-- 0:cells
abbrev N__states_of : List Str := ["cells"]
theorem sc__states_of : FnScope N__states_of ["cells"] (defScope s__states_of) := ⟨rfl, rfl, rfl, by decide +kernel, rfl, by decide +kernel, by decide +kernel⟩
abbrev s_names_in : Stmt := top 41
-- 0:expression 1:found 2:part
abbrev N_names_in : List Str := ["expression", "found", "part"]
theorem sc_names_in : FnScope N_names_in ["expression"] (defScope s_names_in) := ⟨rfl, rfl, rfl, by decide +kernel, rfl, by decide +kernel, by decide +kernel⟩
abbrev s_fits_expression : Stmt := top 42
-- 0:cells 1:thing 2:only_inputs 3:rows 4:known 5:row 6:pair
abbrev N_fits_expression : List Str := ["cells", "thing", "only_inputs", "rows", "known", "row", "pair"]
theorem sc_fits_expression : FnScope N_fits_expression ["cells", "thing", "only_inputs"] (defScope s_fits_expression) := ⟨rfl, rfl, rfl, by decide +kernel, rfl, by decide +kernel, by decide +kernel⟩
abbrev s__law_source : Stmt := top 44
-- 0:_law_script
abbrev N__law_source : List Str := ["_law_script"]
theorem sc__law_source : FnScope N__law_source ["_law_script"] (defScope s__law_source) := ⟨rfl, rfl, rfl, by decide +kernel, rfl, by decide +kernel, by decide +kernel⟩
abbrev s__law_next : Stmt := top 45
-- 0:_law_source_here 1:_law_limit 2:_law_draws 3:_law_digit 4:_law_used 5:_law_cell 6:_law_mixed
abbrev N__law_next : List Str := ["_law_source_here", "_law_limit", "_law_draws", "_law_digit", "_law_used", "_law_cell", "_law_mixed"]
theorem sc__law_next : FnScope N__law_next ["_law_source_here", "_law_limit"] (defScope s__law_next) := ⟨rfl, rfl, rfl, by decide +kernel, rfl, by decide +kernel, by decide +kernel⟩
abbrev s__law_rows : Stmt := top 46
-- 0:_law_source_here 1:_law_some
abbrev N__law_rows : List Str := ["_law_source_here", "_law_some"]
theorem sc__law_rows : FnScope N__law_rows ["_law_source_here"] (defScope s__law_rows) := ⟨rfl, rfl, rfl, by decide +kernel, rfl, by decide +kernel, by decide +kernel⟩
abbrev s__law_term : Stmt := top 47
-- 0:_law_source_here 1:_law_rows_here 2:_law_deep 3:_law_plain 4:_law_tables 5:_law_way 6:_law_left 7:_law_some 8:_law_right 9:_law_words 10:_law_row
abbrev N__law_term : List Str := ["_law_source_here", "_law_rows_here", "_law_deep", "_law_plain", "_law_tables", "_law_way", "_law_left", "_law_some", "_law_right", "_law_words", "_law_row"]
theorem sc__law_term : FnScope N__law_term ["_law_source_here", "_law_rows_here", "_law_deep"] (defScope s__law_term) := ⟨rfl, rfl, rfl, by decide +kernel, rfl, by decide +kernel, by decide +kernel⟩
abbrev s__law_subterms : Stmt := top 48
-- 0:_law_term_here 1:_law_found 2:_law_parts 3:_law_part
abbrev N__law_subterms : List Str := ["_law_term_here", "_law_found", "_law_parts", "_law_part"]
theorem sc__law_subterms : FnScope N__law_subterms ["_law_term_here"] (defScope s__law_subterms) := ⟨rfl, rfl, rfl, by decide +kernel, rfl, by decide +kernel, by decide +kernel⟩
abbrev s__law_values : Stmt := top 49
-- 0:_law_rows_here 1:_law_states 2:_law_term_here 3:_law_stand
abbrev N__law_values : List Str := ["_law_rows_here", "_law_states", "_law_term_here", "_law_stand"]
theorem sc__law_values : FnScope N__law_values ["_law_rows_here", "_law_states", "_law_term_here"] (defScope s__law_values) := ⟨rfl, rfl, rfl, by decide +kernel, rfl, by decide +kernel, by decide +kernel⟩
abbrev s__law_is_folded : Stmt := top 50
-- 0:_law_rows_here 1:_law_states 2:_law_term_here 3:_law_part 4:_law_values_here
abbrev N__law_is_folded : List Str := ["_law_rows_here", "_law_states", "_law_term_here", "_law_part", "_law_values_here"]
theorem sc__law_is_folded : FnScope N__law_is_folded ["_law_rows_here", "_law_states", "_law_term_here"] (defScope s__law_is_folded) := ⟨rfl, rfl, rfl, by decide +kernel, rfl, by decide +kernel, by decide +kernel⟩
abbrev s__law_is_right : Stmt := top 51
-- 0:_law_rows_here 1:_law_states 2:_law_left 3:_law_two 4:_law_before 5:_law_found 6:_law_right 7:_law_expected
abbrev N__law_is_right : List Str := ["_law_rows_here", "_law_states", "_law_left", "_law_two", "_law_before", "_law_found", "_law_right", "_law_expected"]
theorem sc__law_is_right : FnScope N__law_is_right ["_law_rows_here", "_law_states", "_law_left", "_law_two"] (defScope s__law_is_right) := ⟨rfl, rfl, rfl, by decide +kernel, rfl, by decide +kernel, by decide +kernel⟩
abbrev s__law_by_hand : Stmt := top 52
-- 0:_law_some
abbrev N__law_by_hand : List Str := ["_law_some"]
theorem sc__law_by_hand : FnScope N__law_by_hand [] (defScope s__law_by_hand) := ⟨rfl, rfl, rfl, by decide +kernel, rfl, by decide +kernel, by decide +kernel⟩
abbrev s_law : Stmt := top 53
-- 0:_law_script 1:_law_source_here 2:_law_lap 3:_law_rows_here 4:_law_states 5:_law_left 6:_law_two 7:_law_wide 8:_law_some 9:_law_k
abbrev N_law : List Str := ["_law_script", "_law_source_here", "_law_lap", "_law_rows_here", "_law_states", "_law_left", "_law_two", "_law_wide", "_law_some", "_law_k"]
theorem sc_law : FnScope N_law ["_law_script"] (defScope s_law) := ⟨rfl, rfl, rfl, by decide +kernel, rfl, by decide +kernel, by decide +kernel⟩
end K

namespace K
open PySem PySem.Spec PyProof.Rows L2
def fns : List He.DefD := [
  ⟨("row_width", none), "row_width", "row_width", defArgs s_row_width, defBody s_row_width, defScope s_row_width, [], []⟩,
  ⟨("cell_ranges", none), "cell_ranges", "cell_ranges", defArgs s_cell_ranges, defBody s_cell_ranges, defScope s_cell_ranges, [], []⟩,
  ⟨("found_index", none), "found_index", "found_index", defArgs s_found_index, defBody s_found_index, defScope s_found_index, [], []⟩,
  ⟨("cell_index", none), "cell_index", "cell_index", defArgs s_cell_index, defBody s_cell_index, defScope s_cell_index, [], [("key", .non)]⟩,
  ⟨("value_in", none), "value_in", "value_in", defArgs s_value_in, defBody s_value_in, defScope s_value_in, [], []⟩,
  ⟨("evaluated", none), "evaluated", "evaluated", defArgs s_evaluated, defBody s_evaluated, defScope s_evaluated, [], []⟩,
  ⟨("keyed_index", none), "keyed_index", "keyed_index", defArgs s_keyed_index, defBody s_keyed_index, defScope s_keyed_index, [], []⟩,
  ⟨("_lazy_value", none), "_lazy_value", "_lazy_value", defArgs s__lazy_value, defBody s__lazy_value, defScope s__lazy_value, [], []⟩,
  ⟨("_full_value", none), "_full_value", "_full_value", defArgs s__full_value, defBody s__full_value, defScope s__full_value, [], []⟩,
  ⟨("_of_one", none), "_of_one", "_of_one", defArgs s__of_one, defBody s__of_one, defScope s__of_one, [], []⟩,
  ⟨("value_of_two", none), "value_of_two", "value_of_two", defArgs s_value_of_two, defBody s_value_of_two, defScope s_value_of_two, [], []⟩,
  ⟨("_compared", none), "_compared", "_compared", defArgs s__compared, defBody s__compared, defScope s__compared, [], []⟩,
  ⟨("is_integer", none), "is_integer", "is_integer", defArgs s_is_integer, defBody s_is_integer, defScope s_is_integer, [], []⟩,
  ⟨("is_name", none), "is_name", "is_name", defArgs s_is_name, defBody s_is_name, defScope s_is_name, [], []⟩,
  ⟨("part_count", none), "part_count", "part_count", defArgs s_part_count, defBody s_part_count, defScope s_part_count, [], []⟩,
  ⟨("parts_of", none), "parts_of", "parts_of", defArgs s_parts_of, defBody s_parts_of, defScope s_parts_of, [], []⟩,
  ⟨("is_expression", none), "is_expression", "is_expression", defArgs s_is_expression, defBody s_is_expression, defScope s_is_expression, [], []⟩,
  ⟨("all_states", none), "all_states", "all_states", defArgs s_all_states, defBody s_all_states, defScope s_all_states, [], []⟩,
  ⟨("state_list", none), "state_list", "state_list", defArgs s_state_list, defBody s_state_list, defScope s_state_list, [], []⟩,
  ⟨("_combined", none), "_combined", "_combined", defArgs s__combined, defBody s__combined, defScope s__combined, [], []⟩,
  ⟨("are_same", none), "are_same", "are_same", defArgs s_are_same, defBody s_are_same, defScope s_are_same, [], []⟩,
  ⟨("folded", none), "folded", "folded", defArgs s_folded, defBody s_folded, defScope s_folded, [], []⟩,
  ⟨("_folded_in", none), "_folded_in", "_folded_in", defArgs s__folded_in, defBody s__folded_in, defScope s__folded_in, [], []⟩,
  ⟨("_only_value", none), "_only_value", "_only_value", defArgs s__only_value, defBody s__only_value, defScope s__only_value, [], []⟩,
  ⟨("_states_of", none), "_states_of", "_states_of", defArgs s__states_of, defBody s__states_of, defScope s__states_of, [], []⟩,
  ⟨("names_in", none), "names_in", "names_in", defArgs s_names_in, defBody s_names_in, defScope s_names_in, [], []⟩,
  ⟨("fits_expression", none), "fits_expression", "fits_expression", defArgs s_fits_expression, defBody s_fits_expression, defScope s_fits_expression, [], [("only_inputs", .bl false)]⟩,
  ⟨("_law_source", none), "_law_source", "_law_source", defArgs s__law_source, defBody s__law_source, defScope s__law_source, [], []⟩,
  ⟨("_law_next", none), "_law_next", "_law_next", defArgs s__law_next, defBody s__law_next, defScope s__law_next, [], []⟩,
  ⟨("_law_rows", none), "_law_rows", "_law_rows", defArgs s__law_rows, defBody s__law_rows, defScope s__law_rows, [], []⟩,
  ⟨("_law_term", none), "_law_term", "_law_term", defArgs s__law_term, defBody s__law_term, defScope s__law_term, [], []⟩,
  ⟨("_law_subterms", none), "_law_subterms", "_law_subterms", defArgs s__law_subterms, defBody s__law_subterms, defScope s__law_subterms, [], []⟩,
  ⟨("_law_values", none), "_law_values", "_law_values", defArgs s__law_values, defBody s__law_values, defScope s__law_values, [], []⟩,
  ⟨("_law_is_folded", none), "_law_is_folded", "_law_is_folded", defArgs s__law_is_folded, defBody s__law_is_folded, defScope s__law_is_folded, [], []⟩,
  ⟨("_law_is_right", none), "_law_is_right", "_law_is_right", defArgs s__law_is_right, defBody s__law_is_right, defScope s__law_is_right, [], []⟩,
  ⟨("_law_by_hand", none), "_law_by_hand", "_law_by_hand", defArgs s__law_by_hand, defBody s__law_by_hand, defScope s__law_by_hand, [], []⟩,
  ⟨("law", none), "law", "law", defArgs s_law, defBody s_law, defScope s_law, [], []⟩]
def fas : List He.Fa := [.glo "row_width", .glo "cell_ranges", .glo "found_index", .glo "cell_index", .glo "value_in", .glo "evaluated", .glo "keyed_index", .glo "_lazy_value", .glo "_full_value", .glo "_of_one", .glo "value_of_two", .glo "_compared", .glo "is_integer", .glo "is_name", .glo "part_count", .glo "parts_of", .glo "is_expression", .glo "all_states", .glo "state_list", .glo "_combined", .glo "are_same", .glo "folded", .glo "_folded_in", .glo "_only_value", .glo "_states_of", .glo "names_in", .glo "fits_expression", .glo "_law_source", .glo "_law_next", .glo "_law_rows", .glo "_law_term", .glo "_law_subterms", .glo "_law_values", .glo "_law_is_folded", .glo "_law_is_right", .glo "_law_by_hand", .glo "law",
  .free "len", .free "int", .free "max", .free "min", .free "range", .free "tuple", .free "list", .free "isinstance", .free "str", .free "bool", .free "set", .free "dict", .free "sorted", .free "all", .free "repr", .glo "LAZY", .glo "UNARY", .glo "BINARY", .glo "DIVIDING", .str "LETTERS" "abcdefghijklmnopqrstuvwxyz", .int "LONGEST_NAME" 8]
def loose0 : List PySem.Str := ["OrderError", "ProgramError", "UnknownCell", "row_width", "cell_ranges", "found_index", "cell_index", "LAZY", "value_in", "evaluated", "keyed_index", "_lazy_value", "_full_value", "_of_one", "value_of_two", "_compared", "LETTERS", "LONGEST_NAME", "UNARY", "BINARY", "DIVIDING", "is_integer", "is_name", "part_count", "parts_of", "is_expression", "all_states", "state_list", "_combined", "are_same"]
def loose1 : List PySem.Str := ["folded", "_folded_in", "_only_value", "_states_of", "names_in", "fits_expression", "_law_source", "_law_next", "_law_rows", "_law_term", "_law_subterms", "_law_values", "_law_is_folded", "_law_is_right", "_law_by_hand"]
def loose : List PySem.Str := loose0 ++ loose1
abbrev lawAt : Nat := 53
abbrev Rw : PySem.W.OpenRow := PySem.W.OpenLaw.row PySem.Challenge.rw_orderless_k59_folding_told
-- INDEX 0:row_width 1:cell_ranges 2:found_index 3:cell_index 4:value_in 5:evaluated 6:keyed_index 7:_lazy_value 8:_full_value 9:_of_one 10:value_of_two 11:_compared 12:is_integer 13:is_name 14:part_count 15:parts_of 16:is_expression 17:all_states 18:state_list 19:_combined 20:are_same 21:folded 22:_folded_in 23:_only_value 24:_states_of 25:names_in 26:fits_expression 27:_law_source 28:_law_next 29:_law_rows 30:_law_term 31:_law_subterms 32:_law_values 33:_law_is_folded 34:_law_is_right 35:_law_by_hand 36:law
def lazyD : List He.Dv := [.str "and", .str "or", .str "if"]
def unD : List He.Dv := [.str "not", .str "neg"]
def biD : List He.Dv := [.str "+", .str "-", .str "*", .str "least", .str "most", .str "=", .str "<", .str "<=", .str "and", .str "or"]
def diD : List He.Dv := [.str "div", .str "mod"]
def ruleB (K : PySem.W.Frag) : Bool := He.tupB K "LAZY" lazyD && (He.tupB K "UNARY" unD && (He.tupB K "BINARY" biD && He.tupB K "DIVIDING" diD))
abbrev ownHook : PySem.W.Hook := He.hookX 4 fas fns [] [] ruleB
abbrev ObT : Type := He.AlX
def obT (s : PySem.W.SharedT) : ObT := He.obsX 4 fas fns [] [] ruleB (HandSHeadRun.getT s)
theorem obT_eq (s : PySem.W.SharedT) : obT s = ownHook.obs s.abs := He.obsX_eq (HandSHeadRun.getT_eq s)
set_option maxHeartbeats 0 in
theorem topRun (w : World) : HandSHeadRun.RunEq Rw (PySem.W.view Rw.prog [lawAt]) ownHook obT 9000 loose w := by
  intro os
  kernel_rfl
end K

namespace G
open PySem PySem.Spec PyProof.Rows L2

/-! ### contexts by what is asked of them; the weakest reading of a piece of syntax -/
structure Md where
  prog : Program
  w : World
  K : PySem.W.Frag
  mg : Str → Option Value
  base : Heap
structure Cd extends Md where
  N : List Str
  sc : Scope
  k : Nat
  top : Bool
  g : Bool
  ev : Option (Str × Addr)
structure Is (c : Cd) (X : Cx) : Prop where
  prog : X.prog = c.prog
  w : X.w = c.w
  K : X.K = c.K
  mg : X.mg = c.mg
  base : X.base = c.base
  N : X.N = c.N
  sc : X.env.scope = c.sc
  calm : X.calm = true
  room : Room c.k X.A
  top : c.top = true → ∀ x, X.fn x = true
  own : PassesOwn (model X.prog X.w) X.A X.env X.xe
  nd : c.N.Nodup
  gd : c.g = true → X.A.guards = some []
  evh : ∀ q a, c.ev = some (q, a) → X.env.qual = q ∧ X.env.code = .ref a

structure DLe (D D' : Ends) : Prop where
  nx : ∀ σ H, D.nx σ H → D'.nx σ H
  rt : ∀ v H, D.rt v H → D'.rt v H
  bk : ∀ σ H, D.bk σ H → D'.bk σ H
  ct : ∀ σ H, D.ct σ H → D'.ct σ H
theorem DLe.refl (D : Ends) : DLe D D := ⟨fun _ _ h => h, fun _ _ h => h, fun _ _ h => h, fun _ _ h => h⟩
theorem DLe.trans {D D1 D2 : Ends} (a : DLe D D1) (b : DLe D1 D2) : DLe D D2 := ⟨fun _ _ h => b.nx _ _ (a.nx _ _ h), fun _ _ h => b.rt _ _ (a.rt _ _ h), fun _ _ h => b.bk _ _ (a.bk _ _ h), fun _ _ h => b.ct _ _ (a.ct _ _ h)⟩

structure RE (c : Cd) (e : Expr) (σ : L2.St) (H : Hp) (Q : VK) : Prop where
  ex : ∃ t Q', (∀ X, Is c X → PE X e t) ∧ t σ H Q' ∧ ∀ v H', Q' v H' → Q v H'
structure RT (c : Cd) (e : Expr) (σ : L2.St) (H : Hp) (Q : Bool → Hp → Prop) : Prop where
  ex : ∃ t Q', (∀ X, Is c X → PT X e t) ∧ t σ H Q' ∧ ∀ v H', Q' v H' → Q v H'
structure RW (c : Cd) (e : Expr) (σ : L2.St) (H : Hp) (Q : Bool → Hp → Prop) : Prop where
  ex : ∃ t Q', (∀ X, Is c X → PW X e t) ∧ t σ H Q' ∧ ∀ v H', Q' v H' → Q v H'
structure RTs (c : Cd) (es : List Expr) (σ : L2.St) (H : Hp) (Q : Bool → Hp → Prop) : Prop where
  ex : ∃ t Q', (∀ X, Is c X → PTs X es t) ∧ t σ H Q' ∧ ∀ v H', Q' v H' → Q v H'
structure RA (c : Cd) (es : List Expr) (σ : L2.St) (H : Hp) (Q : List V → Hp → Prop) : Prop where
  ex : ∃ t Q', (∀ X, Is c X → PA X es t) ∧ t σ H Q' ∧ ∀ v H', Q' v H' → Q v H'
structure RPK (c : Cd) (es : List Keyword) (σ : L2.St) (H : Hp) (Q : List V → Hp → Prop) : Prop where
  ex : ∃ t Q', (∀ X, Is c X → PK X es t) ∧ t σ H Q' ∧ ∀ v H', Q' v H' → Q v H'
structure RS (c : Cd) (st : Stmt) (D : Ends) (σ : L2.St) (H : Hp) : Prop where
  ex : ∃ t D', (∀ X, Is c X → PS X st t) ∧ t D' σ H ∧ DLe D' D
structure RB (c : Cd) (sts : List Stmt) (D : Ends) (σ : L2.St) (H : Hp) : Prop where
  ex : ∃ t D', (∀ X, Is c X → PSs X sts t) ∧ t D' σ H ∧ DLe D' D
structure RG (c : Cd) (tg : Expr) (v : V) (σ : L2.St) (H : Hp) (Q : L2.St → Hp → Prop) : Prop where
  ex : ∃ t Q', (∀ X, Is c X → PG X tg t) ∧ t v σ H Q' ∧ ∀ v H', Q' v H' → Q v H'
structure RGs (c : Cd) (ts : List Expr) (vs : List V) (σ : L2.St) (H : Hp) (Q : L2.St → Hp → Prop) : Prop where
  ex : ∃ t Q', (∀ X, Is c X → PGs X ts t) ∧ t vs σ H Q' ∧ ∀ v H', Q' v H' → Q v H'
structure RI (c : Cd) (tg it : Expr) (σ : L2.St) (H : Hp) (R : It → Hp → Prop) : Prop where
  ex : ∃ t R', (∀ X, Is c X → PI X tg it t) ∧ t σ H R' ∧ ∀ J H', R' J H' → R J H'
structure RO (c : Cd) (op : Operator) (x y : V) (H : Hp) (Q : VK) : Prop where
  ex : ∃ r Q', (∀ X, Is c X → OpR X (binaryOp op) r) ∧ r x y H Q' ∧ ∀ v H', Q' v H' → Q v H'
structure RQ (c : Cd) (op : CmpOp) (x y : V) (H : Hp) (Q : VK) : Prop where
  ex : ∃ r Q', (∀ X, Is c X → OpR X (compareOp op) r) ∧ r x y H Q' ∧ ∀ v H', Q' v H' → Q v H'
structure RU (c : Cd) (f : UnaryOp) (x : V) (H : Hp) (Q : VK) : Prop where
  ex : ∃ r Q', (∀ X, Is c X → UnR X (unaryOp f) r) ∧ r x H Q' ∧ ∀ v H', Q' v H' → Q v H'
structure RC (c : Cd) (f : Value) (xs : List V) (H : Hp) (Q : VK) : Prop where
  ex : ∃ r Q', (∀ X, Is c X → CallR X f r) ∧ r xs H Q' ∧ ∀ v H', Q' v H' → Q v H'
structure RX (c : Cd) (x y : V) (H : Hp) (Q : VK) : Prop where
  ex : ∃ r Q', (∀ X, Is c X → IxR X r) ∧ r x y H Q' ∧ ∀ v H', Q' v H' → Q v H'
structure RSl (c : Cd) (x : V) (l u : Option Int) (H : Hp) (Q : VK) : Prop where
  ex : ∃ r Q', (∀ X, Is c X → SlR X r) ∧ r x l u H Q' ∧ ∀ v H', Q' v H' → Q v H'
structure RM (c : Cd) (id : String) (x : V) (xs : List V) (H : Hp) (Q : VK) : Prop where
  ex : ∃ r Q', (∀ X, Is c X → MtR X id r) ∧ r x xs H Q' ∧ ∀ v H', Q' v H' → Q v H'
structure RP (c : Cd) (o i v : V) (H : Hp) (Q : Hp → Prop) : Prop where
  ex : ∃ r Q', (∀ X, Is c X → PSet X r) ∧ r o i v H Q' ∧ ∀ H', Q' H' → Q H'
structure RPo (c : Cd) (e : Option Expr) (σ : L2.St) (H : Hp) (Q : Option Int → Hp → Prop) : Prop where
  ex : ∃ t Q', (∀ X, Is c X → PO X e t) ∧ t σ H Q' ∧ ∀ v H', Q' v H' → Q v H'

section
variable {c : Cd} {X : Cx} (h : Is c X)
include h
theorem pe_re {e : Expr} : PE X e (RE c e) := ⟨fun pins s σ H Q I ⟨⟨_, _, a, q, w⟩⟩ => thn ((a X h).run pins s σ H _ I q) fun _ _ ⟨v, H', I', r, q'⟩ => ⟨v, H', I', r, w _ _ q'⟩⟩
theorem pt_rt {e : Expr} : PT X e (RT c e) := ⟨fun pins s σ H Q I ⟨⟨_, _, a, q, w⟩⟩ => thn ((a X h).run pins s σ H _ I q) fun _ _ ⟨H', I', q'⟩ => ⟨H', I', w _ _ q'⟩⟩
theorem pw_rw {e : Expr} : PW X e (RW c e) := ⟨fun wh pins s σ H Q I ⟨⟨_, _, a, q, w⟩⟩ => thn ((a X h).run wh pins s σ H _ I q) fun _ _ ⟨H', I', q'⟩ => ⟨H', I', w _ _ q'⟩⟩
theorem pts_rts {es : List Expr} : PTs X es (RTs c es) := ⟨fun pins s σ H Q I ⟨⟨_, _, a, q, w⟩⟩ => thn ((a X h).run pins s σ H _ I q) fun _ _ ⟨H', I', q'⟩ => ⟨H', I', w _ _ q'⟩⟩
theorem pa_ra {es : List Expr} : PA X es (RA c es) := ⟨fun pos pins s σ H Q I ⟨⟨_, _, a, q, w⟩⟩ => thn ((a X h).run pos pins s σ H _ I q) fun _ _ ⟨v, H', I', r, q'⟩ => ⟨v, H', I', r, w _ _ q'⟩⟩
theorem pk_rk {es : List Keyword} : PK X es (RPK c es) := ⟨fun pos pins s σ H Q I ⟨⟨_, _, a, q, w⟩⟩ => thn ((a X h).run pos pins s σ H _ I q) fun _ _ ⟨v, H', I', r, q'⟩ => ⟨v, H', I', r, w _ _ q'⟩⟩
theorem SP.le {pins : List (Addr × Obj)} {D' D : Ends} (w : DLe D' D) : ∀ {f : Flow} {s' : Shared}, SP X pins D' f s' → SP X pins D f s'
  | .next, _, ⟨σ', H', I, q⟩ => ⟨σ', H', I, w.nx _ _ q⟩
  | .brk, _, ⟨σ', H', I, q⟩ => ⟨σ', H', I, w.bk _ _ q⟩
  | .cont, _, ⟨σ', H', I, q⟩ => ⟨σ', H', I, w.ct _ _ q⟩
  | .ret _, _, ⟨v, σ', H', I, r, q⟩ => ⟨v, σ', H', I, r, w.rt _ _ q⟩
theorem ps_rs {st : Stmt} : PS X st (RS c st) := ⟨fun pins s σ H D I ⟨⟨_, _, a, q, w⟩⟩ => thn ((a X h).run pins s σ H _ I q) fun _ _ q' => SP.le h w q'⟩
theorem ps_rb {sts : List Stmt} : PSs X sts (RB c sts) := ⟨fun pins s σ H D I ⟨⟨_, _, a, q, w⟩⟩ => thn ((a X h).run pins s σ H _ I q) fun _ _ q' => SP.le h w q'⟩
theorem pg_rg {tg : Expr} : PG X tg (RG c tg) := ⟨fun pins s σ H v u Q I r ⟨⟨_, _, a, q, w⟩⟩ => thn ((a X h).run pins s σ H v u _ I r q) fun _ _ ⟨σ', H', I', q'⟩ => ⟨σ', H', I', w _ _ q'⟩⟩
theorem pg_rgs {ts : List Expr} : PGs X ts (RGs c ts) := ⟨fun pins s σ H vs us Q I r ⟨⟨_, _, a, q, w⟩⟩ => thn ((a X h).run pins s σ H vs us _ I r q) fun _ _ ⟨σ', H', I', q'⟩ => ⟨σ', H', I', w _ _ q'⟩⟩
theorem pi_ri {tg it : Expr} : PI X tg it (RI c tg it) := ⟨fun pins s σ H R I ⟨⟨_, _, a, q, w⟩⟩ => thn ((a X h).run pins s σ H _ I q) fun _ _ z => thn z fun _ _ ⟨it, fp, tn, J, H', e, I', T, t0, f, q'⟩ => ⟨it, fp, tn, J, H', e, I', T, t0, f, w _ _ q'⟩⟩
theorem EP.le {pins : List (Addr × Obj)} {σ : L2.St} {Q' Q : VK} {u : Value} {s' : Shared} (w : ∀ v H', Q' v H' → Q v H') : EP X pins σ Q' u s' → EP X pins σ Q u s' := fun ⟨v, H', I', r, q'⟩ => ⟨v, H', I', r, w _ _ q'⟩
theorem op_ro {op : Operator} : OpR X (binaryOp op) (RO c op) := fun pins s σ H x y v u Q I r1 r2 ⟨⟨_, _, a, q, w⟩⟩ => thn (a X h pins s σ H x y v u _ I r1 r2 q) fun _ _ z => EP.le h w z
theorem op_rq {op : CmpOp} : OpR X (compareOp op) (RQ c op) := fun pins s σ H x y v u Q I r1 r2 ⟨⟨_, _, a, q, w⟩⟩ => thn (a X h pins s σ H x y v u _ I r1 r2 q) fun _ _ z => EP.le h w z
theorem un_ru {f : UnaryOp} : UnR X (unaryOp f) (RU c f) := fun pins s σ H x v Q I r ⟨⟨_, _, a, q, w⟩⟩ => thn (a X h pins s σ H x v _ I r q) fun _ _ z => EP.le h w z
theorem call_rc {f : Value} : CallR X f (RC c f) := fun pins s σ H xs us Q I r ⟨⟨_, _, a, q, w⟩⟩ => thn (a X h pins s σ H xs us _ I r q) fun _ _ z => EP.le h w z
theorem ix_rx : IxR X (RX c) := by
  intro value slice pins s σ H x y v u Q I r1 r2 q0 hs
  obtain ⟨⟨_, _, a, q, w⟩⟩ := q0
  exact thn (a X h value slice pins s σ H x y v u _ I r1 r2 q hs) fun _ _ z => EP.le h w z
theorem sl_rs : SlR X (RSl c) := by
  intro pins s σ H x v vl vu lo hi sl Q I rx hs pl pu ⟨⟨_, _, a, q, w⟩⟩
  obtain ⟨T, id, h1, h2, h3⟩ := a X h pins s σ H x v vl vu lo hi sl _ I rx hs pl pu q
  exact ⟨T, id, h1, h2, thn h3 fun _ _ z => EP.le h w z⟩
theorem mt_rm {id : String} : MtR X id (RM c id) := by
  intro pins s σ H x xs v us Q I r1 r2 ⟨⟨_, _, a, q, w⟩⟩
  exact thn (a X h pins s σ H x xs v us _ I r1 r2 q) fun _ _ z => EP.le h w z
theorem set_rp : PSet X (RP c) := by
  intro pins s σ H o i v ov iv u Q I r1 r2 r3 ⟨⟨_, _, a, q, w⟩⟩
  exact thn (a X h pins s σ H o i v ov iv u _ I r1 r2 r3 q) fun _ _ ⟨H', I', q'⟩ => ⟨H', I', w _ q'⟩
theorem po_rp {e : Option Expr} : PO X e (RPo c e) := ⟨fun pins s σ H Q I ⟨⟨_, _, a, q, w⟩⟩ => thn ((a X h).run pins s σ H _ I q) fun _ _ ⟨o, H', I', p, q'⟩ => ⟨o, H', I', p, w _ _ q'⟩⟩
end
section
variable {c : Cd} {σ : L2.St} {H : Hp} {Q Q' : VK} {B B' : Bool → Hp → Prop} {D D' : Ends}
theorem re_of {e : Expr} {t : TE} (h : ∀ X, Is c X → PE X e t) (q : t σ H Q) : RE c e σ H Q := ⟨⟨t, Q, h, q, fun _ _ z => z⟩⟩
theorem rt_of {e : Expr} {t : TT} (h : ∀ X, Is c X → PT X e t) (q : t σ H B) : RT c e σ H B := ⟨⟨t, B, h, q, fun _ _ z => z⟩⟩
theorem rw_of {e : Expr} {t : TT} (h : ∀ X, Is c X → PW X e t) (q : t σ H B) : RW c e σ H B := ⟨⟨t, B, h, q, fun _ _ z => z⟩⟩
theorem rts_of {es : List Expr} {t : TT} (h : ∀ X, Is c X → PTs X es t) (q : t σ H B) : RTs c es σ H B := ⟨⟨t, B, h, q, fun _ _ z => z⟩⟩
theorem ra_of {es : List Expr} {t : TA} {Q : List V → Hp → Prop} (h : ∀ X, Is c X → PA X es t) (q : t σ H Q) : RA c es σ H Q := ⟨⟨t, Q, h, q, fun _ _ z => z⟩⟩
theorem rk_of {es : List Keyword} {t : TA} {Q : List V → Hp → Prop} (h : ∀ X, Is c X → PK X es t) (q : t σ H Q) : RPK c es σ H Q := ⟨⟨t, Q, h, q, fun _ _ z => z⟩⟩
theorem rs_of {st : Stmt} {t : TS} (h : ∀ X, Is c X → PS X st t) (q : t D σ H) : RS c st D σ H := ⟨⟨t, D, h, q, DLe.refl D⟩⟩
theorem rb_of {st : List Stmt} {t : TS} (h : ∀ X, Is c X → PSs X st t) (q : t D σ H) : RB c st D σ H := ⟨⟨t, D, h, q, DLe.refl D⟩⟩
theorem rg_of {tg : Expr} {t : TG} {v : V} {Q : L2.St → Hp → Prop} (h : ∀ X, Is c X → PG X tg t) (q : t v σ H Q) : RG c tg v σ H Q := ⟨⟨t, Q, h, q, fun _ _ z => z⟩⟩
theorem rgs_of {tg : List Expr} {t : TGs} {v : List V} {Q : L2.St → Hp → Prop} (h : ∀ X, Is c X → PGs X tg t) (q : t v σ H Q) : RGs c tg v σ H Q := ⟨⟨t, Q, h, q, fun _ _ z => z⟩⟩
theorem ri_of {tg it : Expr} {t : TI} {R : It → Hp → Prop} (h : ∀ X, Is c X → PI X tg it t) (q : t σ H R) : RI c tg it σ H R := ⟨⟨t, R, h, q, fun _ _ z => z⟩⟩
theorem ro_of {op : Operator} {r : R2} {x y : V} (h : ∀ X, Is c X → OpR X (binaryOp op) r) (q : r x y H Q) : RO c op x y H Q := ⟨⟨r, Q, h, q, fun _ _ z => z⟩⟩
theorem rq_of {op : CmpOp} {r : R2} {x y : V} (h : ∀ X, Is c X → OpR X (compareOp op) r) (q : r x y H Q) : RQ c op x y H Q := ⟨⟨r, Q, h, q, fun _ _ z => z⟩⟩
theorem ru_of {f : UnaryOp} {r : V → Hp → VK → Prop} {x : V} (h : ∀ X, Is c X → UnR X (unaryOp f) r) (q : r x H Q) : RU c f x H Q := ⟨⟨r, Q, h, q, fun _ _ z => z⟩⟩
theorem rc_of {f : Value} {r : List V → Hp → VK → Prop} {xs : List V} (h : ∀ X, Is c X → CallR X f r) (q : r xs H Q) : RC c f xs H Q := ⟨⟨r, Q, h, q, fun _ _ z => z⟩⟩
theorem rx_of {r : R2} {x y : V} (h : ∀ X, Is c X → IxR X r) (q : r x y H Q) : RX c x y H Q := ⟨⟨r, Q, h, q, fun _ _ z => z⟩⟩
theorem rsl_of {r : V → Option Int → Option Int → Hp → VK → Prop} {x : V} {l u : Option Int} (h : ∀ X, Is c X → SlR X r) (q : r x l u H Q) : RSl c x l u H Q := ⟨⟨r, Q, h, q, fun _ _ z => z⟩⟩
theorem rm_of {id : String} {r : V → List V → Hp → VK → Prop} {x : V} {xs : List V} (h : ∀ X, Is c X → MtR X id r) (q : r x xs H Q) : RM c id x xs H Q := ⟨⟨r, Q, h, q, fun _ _ z => z⟩⟩
theorem rp_of {r : TSet} {o i v : V} {Q : Hp → Prop} (h : ∀ X, Is c X → PSet X r) (q : r o i v H Q) : RP c o i v H Q := ⟨⟨r, Q, h, q, fun _ z => z⟩⟩
theorem rpo_of {e : Option Expr} {t : TO} {Q : Option Int → Hp → Prop} (h : ∀ X, Is c X → PO X e t) (q : t σ H Q) : RPo c e σ H Q := ⟨⟨t, Q, h, q, fun _ _ z => z⟩⟩
theorem RE.mono {e : Expr} (w : ∀ v H', Q v H' → Q' v H') : RE c e σ H Q → RE c e σ H Q' := fun ⟨⟨t, Q1, h, q, z⟩⟩ => ⟨⟨t, Q1, h, q, fun _ _ y => w _ _ (z _ _ y)⟩⟩
theorem RT.mono {e : Expr} (w : ∀ v H', B v H' → B' v H') : RT c e σ H B → RT c e σ H B' := fun ⟨⟨t, Q1, h, q, z⟩⟩ => ⟨⟨t, Q1, h, q, fun _ _ y => w _ _ (z _ _ y)⟩⟩
theorem RTs.mono {e : List Expr} (w : ∀ v H', B v H' → B' v H') : RTs c e σ H B → RTs c e σ H B' := fun ⟨⟨t, Q1, h, q, z⟩⟩ => ⟨⟨t, Q1, h, q, fun _ _ y => w _ _ (z _ _ y)⟩⟩
theorem RA.mono {e : List Expr} {Q Q' : List V → Hp → Prop} (w : ∀ v H', Q v H' → Q' v H') : RA c e σ H Q → RA c e σ H Q' := fun ⟨⟨t, Q1, h, q, z⟩⟩ => ⟨⟨t, Q1, h, q, fun _ _ y => w _ _ (z _ _ y)⟩⟩
theorem RG.mono {e : Expr} {v : V} {Q Q' : L2.St → Hp → Prop} (w : ∀ v H', Q v H' → Q' v H') : RG c e v σ H Q → RG c e v σ H Q' := fun ⟨⟨t, Q1, h, q, z⟩⟩ => ⟨⟨t, Q1, h, q, fun _ _ y => w _ _ (z _ _ y)⟩⟩
theorem RI.mono {tg it : Expr} {R R' : It → Hp → Prop} (w : ∀ v H', R v H' → R' v H') : RI c tg it σ H R → RI c tg it σ H R' := fun ⟨⟨t, Q1, h, q, z⟩⟩ => ⟨⟨t, Q1, h, q, fun _ _ y => w _ _ (z _ _ y)⟩⟩
theorem RO.mono {f : Operator} {x y : V} (w : ∀ v H', Q v H' → Q' v H') : RO c f x y H Q → RO c f x y H Q' := fun ⟨⟨t, Q1, h, q, z⟩⟩ => ⟨⟨t, Q1, h, q, fun _ _ y => w _ _ (z _ _ y)⟩⟩
theorem RS.mono {st : Stmt} (w : DLe D D') : RS c st D σ H → RS c st D' σ H := fun ⟨⟨t, Q1, h, q, z⟩⟩ => ⟨⟨t, Q1, h, q, z.trans w⟩⟩
theorem RB.mono {st : List Stmt} (w : DLe D D') : RB c st D σ H → RB c st D' σ H := fun ⟨⟨t, Q1, h, q, z⟩⟩ => ⟨⟨t, Q1, h, q, z.trans w⟩⟩
end
theorem kEq {c : Cd} {X : Cx} (h : Is c X) {p : PySem.W.Frag → Prop} (a : p X.K) : p c.K := h.K ▸ a

/-- the place of a name -/
inductive At : List Str → Nat → Str → Prop
  | z {x : Str} {l : List Str} : At (x :: l) 0 x
  | s {x y : Str} {l : List Str} {i : Nat} (h : At l i x) : At (y :: l) (i + 1) x
theorem At.get {x : Str} : ∀ {l : List Str} {i : Nat}, At l i x → l[i]? = some x
  | _, _, .z => rfl
  | _, _, .s h => by simpa using At.get h
/-! ### expressions -/
section
variable {c : Cd} {σ : L2.St} {H : Hp} {Q : VK} {pos : Pos}
theorem e_int {i : Int} {j} (q : Q (.int i) H) : RE c (.Constant (.int i) j pos) σ H Q := re_of (fun _ _ => pe_int) q
theorem e_bl {b : Bool} {j} (q : Q (.bl b) H) : RE c (.Constant (.bool b) j pos) σ H Q := re_of (fun _ _ => pe_bl) q
theorem e_non {j} (q : Q .non H) : RE c (.Constant .none j pos) σ H Q := re_of (fun _ _ => pe_non) q
theorem e_str {x : Str} {j} (q : Q (.str x) H) : RE c (.Constant (.str x) j pos) σ H Q := re_of (fun _ _ => pe_str) q
theorem e_var {i : Nat} {x : Str} {v : V} (hA : At c.N i x) (q : Q v H) (hσ : σ[i]? = some (some v) := by rfl)
    (hv : Vis c.sc x := by first | exact Or.inl rfl | exact Or.inr (Or.inl rfl) | exact Or.inr (Or.inr rfl)) (hd : (x == ("__debug__" : Str)) = false := by decide) (hcd : (x == ("__classdict__" : Str)) = false := by decide) :
    RE c (.Name x pos) σ H Q := re_of (fun X h => pe_var (i := i) (by rw [h.N]; exact hA.get) (by rw [h.sc]; exact hv) hd hcd) ⟨v, hσ, q⟩
theorem gl_of {X : Cx} (h : Is c X) {x : Str} (hg : c.sc.names.lookup x = some .globalImplicit) : Gl X x := by
  show X.env.scope.names.lookup x = _
  rw [h.sc]; exact hg
/-- a module's constant -/
theorem e_glob {x : Str} {v : V} {u : Value} (hm : c.mg x = some u) (r : RelV v u) (q : Q v H) (hg : c.sc.names.lookup x = some .globalImplicit := by rfl) (hd : (x == ("__debug__" : Str)) = false := by decide) : RE c (.Name x pos) σ H Q :=
  re_of (fun X h => pe_glob (gl_of h hg) (by rw [h.mg]; exact hm) r hd) q
theorem e_bltn {x : Str} {v : V} {u : Value} (hm : c.mg x = none) (hv : bootBuiltins x = some u) (r : RelV v u) (q : Q v H) (hg : c.sc.names.lookup x = some .globalImplicit := by rfl) (hn : x ≠ "__name__" := by decide) (hd : (x == ("__debug__" : Str)) = false := by decide) :
    RE c (.Name x pos) σ H Q := re_of (fun X h => pe_bltn (gl_of h hg) (by rw [h.mg]; exact hm) hv r hn hd) q
theorem e_bin {a b : Expr} {op : Operator} (q : RE c a σ H fun x H1 => RE c b σ H1 fun y H2 => RO c op x y H2 Q) : RE c (.BinOp a op b pos) σ H Q :=
  re_of (fun X h => pe_op (op_ro h) (pe_re h) (pe_re h)) q
theorem e_un {a : Expr} {op : UnaryOp} (q : RE c a σ H fun x H1 => RU c op x H1 Q) : RE c (.UnaryOp op a pos) σ H Q :=
  re_of (fun X h => pe_un (un_ru h) (pe_re h)) q
theorem e_cmp {a b : Expr} {op : CmpOp} (q : RE c a σ H fun x H1 => RE c b σ H1 fun y H2 => RQ c op x y H2 Q) (hm : behindInMarks op b = false := by first | rfl | exact nomark _) : RE c (.Compare a [op] [b] pos) σ H Q :=
  re_of (fun X h => pe_cmpR (op_rq h) (pe_re h) (pe_re h) hm) q
theorem e_chain {a b d : Expr} {op op' : CmpOp} (q : RE c a σ H fun x H1 => RE c b σ H1 fun y H2 => RQ c op x y H2 fun z H3 => ∃ k, z = .bl k ∧ (if k = true then RE c d σ H3 fun w' H4 => RQ c op' y w' H4 Q else Q (.bl false) H3))
    (hm : lastMarks [op, op'] [b, d] = false := by with_unfolding_all rfl) : RE c (.Compare a [op, op'] [b, d] pos) σ H Q :=
  re_of (t := tChain (RQ c op) (RQ c op') (RE c a) (RE c b) (RE c d)) (fun X h => pe_chain (op_rq h) (op_rq h) (pe_re h) (pe_re h) (pe_re h) hm) q
theorem e_one {a : Expr} {op} (q : RE c a σ H Q) : RE c (.BoolOp op [a] pos) σ H Q := re_of (fun X h => pe_one (pe_re h)) q
theorem e_and {a b : Expr} {rest : List Expr} (q : RE c a σ H fun x H1 => ∃ k, x = .bl k ∧ if k = true then RE c (.BoolOp .And (b :: rest) pos) σ H1 Q else Q (.bl false) H1) : RE c (.BoolOp .And (a :: b :: rest) pos) σ H Q :=
  re_of (fun X h => pe_and (pe_re h) (pe_re h)) q
theorem e_or {a b : Expr} {rest : List Expr} (q : RE c a σ H fun x H1 => ∃ k, x = .bl k ∧ if k = true then Q (.bl true) H1 else RE c (.BoolOp .Or (b :: rest) pos) σ H1 Q) : RE c (.BoolOp .Or (a :: b :: rest) pos) σ H Q :=
  re_of (fun X h => pe_or (pe_re h) (pe_re h)) q
theorem e_not {a : Expr} (q : RE c a σ H fun x H1 => ∃ k, x = .bl k ∧ Q (.bl (!k)) H1) : RE c (.UnaryOp .Not a pos) σ H Q :=
  re_of (fun X h => pe_not (pe_re h)) q
theorem e_if {a b d : Expr} (q : RT c d σ H fun k H1 => if k = true then RE c a σ H1 Q else RE c b σ H1 Q) : RE c (.IfExp d a b pos) σ H Q :=
  re_of (fun X h => pe_ifExp (pt_rt h) (pe_re h) (pe_re h)) q
theorem a_nil {Q : List V → Hp → Prop} (q : Q [] H) : RA c [] σ H Q := ra_of (fun _ _ => pa_nil) q
theorem a_cons {Q : List V → Hp → Prop} {e : Expr} {es : List Expr} (q : RE c e σ H fun x H1 => RA c es σ H1 fun xs H2 => Q (x :: xs) H2) (hs : ∀ env, starEach (e :: es) env = (false, eval e env) :: starEach es env := by intro _; rfl) : RA c (e :: es) σ H Q :=
  ra_of (fun X h => pa_cons (pe_re h) (pa_ra h) (hs _)) q
theorem e_tup {es : List Expr} {x1} (q : RA c es σ H fun xs H1 => xs.length ≤ sizeLine ∧ ∀ p, H1 p = none → Q (.ref p) (upd H1 p (.tup xs))) : RE c (.Tuple es x1 pos) σ H Q :=
  re_of (fun X h => pe_tup (pa_ra h)) q
theorem e_lst {es : List Expr} (q : RA c es σ H fun xs H1 => xs.length ≤ sizeLine ∧ ∀ p, H1 p = none → Q (.ref p) (upd H1 p (.lst xs))) : RE c (.List es pos) σ H Q :=
  re_of (fun X h => pe_lst (pa_ra h)) q
theorem e_ix {a b : Expr} (q : RE c a σ H fun x H1 => RE c b σ H1 fun y H2 => RX c x y H2 Q) (hs : PlainIx b := by intro _ _; rfl) : RE c (.Subscript a b pos) σ H Q :=
  re_of (fun X h => pe_ix (ix_rx h) (pe_re h) (pe_re h) hs) q
theorem e_dget {a b : Expr} (q : RE c a σ H fun x H1 => RE c b σ H1 fun y H2 => ∃ a v, x = .ref a ∧ DGet H2 a y (some v) ∧ Q v H2) (hs : NoSl b := by intro _ _; rfl) : RE c (.Subscript a b pos) σ H Q :=
  re_of (fun X h => pe_dget (by have := h.room.units; omega) (pe_re h) (pe_re h) hs) q
theorem p_none {Q : Option Int → Hp → Prop} (q : Q none H) : RPo c none σ H Q := rpo_of (fun _ _ => po_none) q
theorem p_some {e : Expr} {Q : Option Int → Hp → Prop} (q : RE c e σ H fun x H1 => ∃ i, x = .int i ∧ Q (some i) H1) : RPo c (some e) σ H Q := rpo_of (fun _ h => po_some (pe_re h)) q
theorem e_slice {e : Expr} {lo hi : Option Expr} {p2 : Pos} (q : RE c e σ H fun x H1 => RPo c lo σ H1 fun l H2 => RPo c hi σ H2 fun u H3 => RSl c x l u H3 Q) : RE c (.Subscript e (.Slice lo hi none p2) pos) σ H Q :=
  re_of (fun _ h => pe_slice (sl_rs h) (pe_re h) (po_rp h) (po_rp h)) q
/-! ### defs, where no text of an object is being written (what repr asks for) -/
structure FnQ (P : Program) (w : World) (K : PySem.W.Frag) (mg : Str → Option Value) (base : Heap) (CX : CXT) (k : Nat) (f : Addr) (fd : FuncData) (ps : List Str) (sp : Sp) : Prop where
  len : ∀ vs H Q E, sp vs H Q E → vs.length = ps.length
  run : ∀ (A : Around) (up : List Env) (st : Shared) (H : Hp) (ag : Args) (us : List Value) (vs : List V) (Q : VK) (E : XK), A.guards = some [] → Room k A → Env0 P w K mg base A up st H → BindsTo st fd ag (ps.zip us) → Vals vs us → sp vs H Q E →
    codeAny (model P w) A (.call (.ref f) ag) (CR CX up P w H st Q E) st
theorem fnQ_of {CX : CXT} {P : Program} {w : World} {K : PySem.W.Frag} {mg : Str → Option Value} {base : Heap} {k : Nat} {f : Addr} {x qual : Str} {pas : Arguments} {bd : List Stmt} {sco : Scope} {dV kV doc pm cdv ct oc : Value} {an od : Option Addr} {osl : Array (Option Value)} {N ps : List Str} {sp : Sp}
    (at_ : K.lookup f = some ⟨oc, od, .func (PySem.W.fnOf x qual pas bd sco dV kV doc pm an cdv ct), osl⟩) (cod : PySem.W.codeIn K cdv qual = true) (S : FnScope N ps sco) (len : ∀ vs H Q E, sp vs H Q E → vs.length = ps.length)
    (walk : ∀ (A : Around) (up : List Env) (st : Shared) (H : Hp) (vs : List V) (Q : VK) (E : XK), A.guards = some [] → Room k (A.deeper (envOfC qual sco st.heap.objs.size f cdv)) → sp vs H Q E →
      ∃ t, PSs (cxOf CX P w K mg base N qual sco f cdv A up st H E) bd t ∧ t { nx := fun _ H' => Q .non H', rt := Q } (start N vs) H) : FnQ P w K mg base CX (k + 1) f (PySem.W.fnOf x qual pas bd sco dV kV doc pm an cdv ct) ps sp := by
  refine ⟨len, fun A up st H ag us vs Q E quiet room en bt vv want => ?_⟩
  have many := len vs H Q E want
  have here : ∀ b o, base.get? b = some o → st.heap.get? b = some o := fun b o e => (en.bs b o e).1
  have inK : K.In st.heap := en.mod.kin.keeps here
  have free : st.heap.NoLimit := en.mod.nolimit.keeps here
  have kinds : ∀ z ∈ ps.zip us, sco.names.lookup z.1 = some .local ∨ (sco.names.lookup z.1 = some .cell ∧ ((cellsFrom (st.heap.objs.size + 1) sco.names []).lookup z.1).isSome = true) := by
    rintro ⟨n, v⟩ hz
    exact (S.par n (List.of_mem_zip hz).1).imp id fun q => ⟨q, PySem.W.cellsFrom_some _ _ _ (.inl q)⟩
  refine codeAny_call_function room.depth (inK _ _ at_) rfl S.co S.gen rfl (PySem.W.codeRec_of inK cod) (bt _ _ _ _ (wpAny_newFunctionEnv_cells S.kind kinds fun env same s1 made => ?_))
  subst same
  refine ⟨free.keeps made.toInCall.keep, codeAny_func ?_⟩
  obtain ⟨t, runs, goal⟩ := walk A up st H vs Q E quiet (room.deeper _) want
  have J : Inv (cxOf CX P w K mg base N qual sco f cdv A up st H E) [] (start N vs) H s1 := inv_start S room.hd en many vv made
  refine wpAny_mono (runs.run [] s1 (start N vs) H _ J goal) (fun fl s2 e => ?_) fun _ _ e => e
  cases fl with
  | ret u => exact let ⟨v, _, H2, J2, rv, q⟩ := e; ⟨v, H2, J2.os, J2.bare, J2.base, J2.hok, rv, q⟩
  | next => exact let ⟨_, H2, J2, q⟩ := e; ⟨V.non, H2, J2.os, J2.bare, J2.base, J2.hok, (rfl : Value.none = Value.none), q⟩
  | brk => exact (let ⟨_, _, _, q⟩ := e; False.elim q)
  | cont => exact (let ⟨_, _, _, q⟩ := e; False.elim q)
section
variable {X : Cx} {k : Nat} {f : Addr} {fd : FuncData} {ps : List Str} {sp : Sp} {dvs : List V} {ds : List Value} {x : Str} {p pos : Pos} {e : Expr} {es : List Expr} {t : TA}
abbrev noX : CXT := fun _ _ _ _ _ _ => False
theorem runQ {pins : List (Addr × Obj)} {σ : L2.St} {H : Hp} {st : Shared} {Q : VK} {us : List Value} {vs : List V} (F : FnQ X.prog X.w X.K X.mg X.base noX k f fd ps sp) (quiet : X.A.guards = some []) (room : Room k X.A) (bn : Binds X.K fd ps ds) (dv : Vals dvs ds)
    (J : Inv X pins σ H st) (vv : Vals vs us) (want : sp (vs ++ dvs) H Q fun _ _ _ => False) : wpAny (model X.prog X.w) X.A (call (.ref f) us) (EP X pins σ Q) X.xe st := by
  have all := vv.append dv
  have many : (us ++ ds).length = ps.length := all.length.symm.trans (F.len _ _ _ _ want)
  refine wpAny_call (codeAny_mono (F.run X.A X.stack st H ⟨us, []⟩ _ _ Q _ quiet room J.env0 (bn st us J.kIn many) all want) fun r s2 z => ?_)
  match r, z with
  | .ok (.ret u), z => exact J.after z
theorem peQ_call (F : FnQ X.prog X.w X.K X.mg X.base noX k f fd ps sp) (quiet : X.A.guards = some []) (room : Room k X.A) (gl : Gl X x) (hm : X.mg x = some (.ref f)) (kp : PySem.W.keepIn X.K (.ref f) = true) (bn : Binds X.K fd ps ds) (dv : Vals dvs ds)
    (ha : PA X (e :: es) t) (hdb : (x == ("__debug__" : Str)) = false) (he : starEach (e :: es) X.env = (false, eval e X.env) :: starEach es X.env) (hpl : (backTo pos (starEach es X.env)).any (·.1) = false) : PE X (.Call (.Name x p) (e :: es) [] pos) (tCall sp dvs (fun _ _ _ => False) t) := by
  constructor
  intro pins st σ H Q J z
  apply wpAny_Call_Name_kw
  apply ld_glob J gl hm _ hdb
  exact PySem.W.callWith_K (h₀ := X.base) J.ok.mod.kin kp (thn (ha.run pos pins st σ H _ J z) fun us s1 ⟨vs, H1, J1, vv, q⟩ => ⟨J1.kIn, runQ F quiet room bn dv J1 vv q⟩) he hpl
theorem peQ_call0 (F : FnQ X.prog X.w X.K X.mg X.base noX k f fd ps sp) (quiet : X.A.guards = some []) (room : Room k X.A) (gl : Gl X x) (hm : X.mg x = some (.ref f)) (kp : PySem.W.keepIn X.K (.ref f) = true) (bn : Binds X.K fd ps ds) (dv : Vals dvs ds)
    (hdb : (x == ("__debug__" : Str)) = false) : PE X (.Call (.Name x p) [] [] pos) (tCall sp dvs (fun _ _ _ => False) tNil) := by
  constructor
  intro pins st σ H Q J z
  apply wpAny_Call_Name_kw
  apply ld_glob J gl hm _ hdb
  exact PySem.W.callWith_K0 J.kIn kp (runQ (us := []) F quiet room bn dv J .nil z)
end
abbrev FnG := @FnOk
/-! ### calls -/
/-- a def at the module's name x -/
structure Dc (c : Md) (x : Str) (ps : List Str) (k : Nat) (sp : Sp) : Prop where
  ex : ∃ (f : Addr) (fd : FuncData), FnG c.prog c.w c.K c.mg c.base noX k f fd ps sp ∧ c.mg x = some (.ref f) ∧ PySem.W.keepIn c.K (.ref f) = true ∧ Binds c.K fd ps []
theorem e_call {x : Str} {p : Pos} {e : Expr} {es : List Expr} {ps : List Str} {k : Nat} {sp : Sp} (D : Dc c.toMd x ps k sp) (q : RA c (e :: es) σ H fun vs H1 => sp vs H1 Q fun _ _ _ => False) (hk : k ≤ c.k := by exact Nat.le_of_ble_eq_true rfl) (hg : c.sc.names.lookup x = some .globalImplicit := by rfl)
    (hdb : (x == ("__debug__" : Str)) = false := by decide) (he : ∀ env, starEach (e :: es) env = (false, eval e env) :: starEach es env := by intro _; rfl) (hpl : ∀ env, (backTo pos (starEach es env)).any (·.1) = false := by intro _; rfl) :
    RE c (.Call (.Name x p) (e :: es) [] pos) σ H Q := by
  obtain ⟨f, fd, F, hm, hkp, hb⟩ := D.ex
  refine re_of (t := tCall sp [] (fun _ _ _ => False) (RA c (e :: es))) (fun X h => ?_) ?_
  · refine pe_call (CX := fun _ _ _ _ _ _ => False) (k := k) (f := f) (fd := fd) (ps := ps) (ds := []) ?_ (h.room.mono hk) (gl_of h hg) (by rw [h.mg]; exact hm) (by rw [h.K]; exact hkp) (by rw [h.K]; exact hb) .nil (fun _ _ _ _ _ _ _ z => z.elim) (pa_ra h) hdb (he _) (hpl _)
    rw [h.prog, h.w, h.K, h.mg, h.base]; exact F
  · show RA c (e :: es) σ H fun vs H1 => sp (vs ++ []) H1 Q fun _ _ _ => False
    simpa only [List.append_nil] using q
theorem e_call0 {x : Str} {p : Pos} {ps : List Str} {k : Nat} {sp : Sp} (D : Dc c.toMd x ps k sp) (q : sp [] H Q fun _ _ _ => False) (hk : k ≤ c.k := by exact Nat.le_of_ble_eq_true rfl) (hg : c.sc.names.lookup x = some .globalImplicit := by rfl)
    (hdb : (x == ("__debug__" : Str)) = false := by decide) : RE c (.Call (.Name x p) [] [] pos) σ H Q := by
  obtain ⟨f, fd, F, hm, hkp, hb⟩ := D.ex
  refine re_of (t := tCall sp [] (fun _ _ _ => False) tNil) (fun X h => ?_) q
  refine pe_call0 (CX := fun _ _ _ _ _ _ => False) (k := k) (f := f) (fd := fd) (ps := ps) (ds := []) ?_ (h.room.mono hk) (gl_of h hg) (by rw [h.mg]; exact hm) (by rw [h.K]; exact hkp) (by rw [h.K]; exact hb) .nil (fun _ _ _ _ _ _ _ z => z.elim) hdb
  rw [h.prog, h.w, h.K, h.mg, h.base]; exact F
/-- a def at the module's name x -/
structure DcQ (c : Md) (x : Str) (ps : List Str) (k : Nat) (sp : Sp) : Prop where
  ex : ∃ (f : Addr) (fd : FuncData), FnQ c.prog c.w c.K c.mg c.base noX k f fd ps sp ∧ c.mg x = some (.ref f) ∧ PySem.W.keepIn c.K (.ref f) = true ∧ Binds c.K fd ps []
theorem e_callQ {x : Str} {p : Pos} {e : Expr} {es : List Expr} {ps : List Str} {k : Nat} {sp : Sp} (D : DcQ c.toMd x ps k sp) (q : RA c (e :: es) σ H fun vs H1 => sp vs H1 Q fun _ _ _ => False) (hq : c.g = true := by rfl) (hk : k ≤ c.k := by exact Nat.le_of_ble_eq_true rfl) (hg : c.sc.names.lookup x = some .globalImplicit := by rfl)
    (hdb : (x == ("__debug__" : Str)) = false := by decide) (he : ∀ env, starEach (e :: es) env = (false, eval e env) :: starEach es env := by intro _; rfl) (hpl : ∀ env, (backTo pos (starEach es env)).any (·.1) = false := by intro _; rfl) :
    RE c (.Call (.Name x p) (e :: es) [] pos) σ H Q := by
  obtain ⟨f, fd, F, hm, hkp, hb⟩ := D.ex
  refine re_of (t := tCall sp [] (fun _ _ _ => False) (RA c (e :: es))) (fun X h => ?_) ?_
  · refine peQ_call (k := k) (f := f) (fd := fd) (ps := ps) (ds := []) ?_ (h.gd hq) (h.room.mono hk) (gl_of h hg) (by rw [h.mg]; exact hm) (by rw [h.K]; exact hkp) (by rw [h.K]; exact hb) .nil (pa_ra h) hdb (he _) (hpl _)
    rw [h.prog, h.w, h.K, h.mg, h.base]; exact F
  · show RA c (e :: es) σ H fun vs H1 => sp (vs ++ []) H1 Q fun _ _ _ => False
    simpa only [List.append_nil] using q
theorem e_callQ0 {x : Str} {p : Pos} {ps : List Str} {k : Nat} {sp : Sp} (D : DcQ c.toMd x ps k sp) (q : sp [] H Q fun _ _ _ => False) (hq : c.g = true := by rfl) (hk : k ≤ c.k := by exact Nat.le_of_ble_eq_true rfl) (hg : c.sc.names.lookup x = some .globalImplicit := by rfl)
    (hdb : (x == ("__debug__" : Str)) = false := by decide) : RE c (.Call (.Name x p) [] [] pos) σ H Q := by
  obtain ⟨f, fd, F, hm, hkp, hb⟩ := D.ex
  refine re_of (t := tCall sp [] (fun _ _ _ => False) tNil) (fun X h => ?_) q
  refine peQ_call0 (k := k) (f := f) (fd := fd) (ps := ps) (ds := []) ?_ (h.gd hq) (h.room.mono hk) (gl_of h hg) (by rw [h.mg]; exact hm) (by rw [h.K]; exact hkp) (by rw [h.K]; exact hb) .nil hdb
  rw [h.prog, h.w, h.K, h.mg, h.base]; exact F
theorem e_callB {x : Str} {id : String} {p : Pos} {e : Expr} {es : List Expr} (hm : c.mg x = none) (hv : bootBuiltins x = some (.builtin id)) (q : RA c (e :: es) σ H fun vs H1 => RC c (.builtin id) vs H1 Q) (hg : c.sc.names.lookup x = some .globalImplicit := by rfl) (hn : x ≠ "__name__" := by decide) (hdb : (x == ("__debug__" : Str)) = false := by decide)
    (he : ∀ env, starEach (e :: es) env = (false, eval e env) :: starEach es env := by intro _; rfl) (hpl : ∀ env, (backTo pos (starEach es env)).any (·.1) = false := by intro _; rfl) : RE c (.Call (.Name x p) (e :: es) [] pos) σ H Q :=
  re_of (fun X h => pe_callB (call_rc h) (gl_of h hg) (by rw [h.mg]; exact hm) hv (pa_ra h) hn hdb (he _) (hpl _)) q
theorem e_callT {x : Str} {T : String} {p : Pos} {e : Expr} {es : List Expr} (hm : c.mg x = none) (hv : bootBuiltins x = some (.type T)) (q : RA c (e :: es) σ H fun vs H1 => RC c (.type T) vs H1 Q) (hg : c.sc.names.lookup x = some .globalImplicit := by rfl) (hn : x ≠ "__name__" := by decide) (hdb : (x == ("__debug__" : Str)) = false := by decide)
    (he : ∀ env, starEach (e :: es) env = (false, eval e env) :: starEach es env := by intro _; rfl) (hpl : ∀ env, (backTo pos (starEach es env)).any (·.1) = false := by intro _; rfl) : RE c (.Call (.Name x p) (e :: es) [] pos) σ H Q :=
  re_of (fun X h => pe_callTy (call_rc h) (gl_of h hg) (by rw [h.mg]; exact hm) hv (pa_ra h) hn hdb (he _) (hpl _)) q
/-- o.name(e, ..), a builtin's method -/
theorem e_bm {T id : String} {o e : Expr} {es : List Expr} {name : Str} {apos : Pos} (pa : PlainAttrs T) (slot : Slot T name id) (hty : typeOf (.builtin id) = pure (.type "method_descriptor")) (q : RE c o σ H fun x H1 => tyV c.K T x H1 ∧ RA c (e :: es) σ H1 fun xs H2 => RM c id x xs H2 Q)
    (hbase : ∀ env, attributeBase o name env (eval o env) = eval o env := by intro _; rfl)
    (hfew : ∀ env, ((backTo pos (starEach (e :: es) env)).all (fun x => !x.1) && (backToKw pos (keywordEach [] env)).all (fun x => x.1.isSome)
      && decide ((e :: es).length + ([] : List Keyword).length + (if ([] : List Keyword).isEmpty then 0 else 1) < 30)) = true := by intro _; rfl)
    (hline : (apos.endLine == pos.line) = true := by rfl) (hs : ∀ env, starEach (e :: es) env = (false, eval e env) :: starEach es env := by intro _; rfl) (hplain : ∀ env, (backTo pos (starEach es env)).any (·.1) = false := by intro _; rfl) :
    RE c (.Call (.Attribute o name apos) (e :: es) [] pos) σ H Q := by
  refine re_of (t := tBM c.K T (RM c id) (RE c o) (RA c (e :: es))) (fun X h => ?_) q
  rw [← h.K]
  exact pe_bm pa slot hty (mt_rm h) (pe_re h) (pa_ra h) (hbase _) (hfew _) hline (hs _) (hplain _)
theorem e_bm0 {T id : String} {o : Expr} {name : Str} {apos : Pos} (pa : PlainAttrs T) (slot : Slot T name id) (hty : typeOf (.builtin id) = pure (.type "method_descriptor")) (q : RE c o σ H fun x H1 => tyV c.K T x H1 ∧ RM c id x [] H1 Q)
    (hbase : ∀ env, attributeBase o name env (eval o env) = eval o env := by intro _; rfl) (hline : (apos.endLine == pos.line) = true := by rfl) : RE c (.Call (.Attribute o name apos) [] [] pos) σ H Q := by
  refine re_of (t := tBM0 c.K T (RM c id) (RE c o)) (fun X h => ?_) q
  rw [← h.K]
  exact pe_bm0 pa slot hty (mt_rm h) (pe_re h) (hbase _) hline

/-! ### tests -/
variable {R : Bool → Hp → Prop}
theorem t_val {e : Expr} (q : RE c e σ H fun x H1 => ∃ k, x = .bl k ∧ R k H1) (he : ∀ env whole, isTrue e env whole = (do let v ← whole; standAt e.pos; holding [v] (truthy v)) := by intro _ _; rfl) : RT c e σ H R :=
  rt_of (fun X h => pt_val (pe_re h) (he _)) q
theorem t_tru {e : Expr} (q : RE c e σ H fun x H1 => ∃ k, TruV c.K x H1 k ∧ R k H1) (he : ∀ env whole, isTrue e env whole = (do let v ← whole; standAt e.pos; holding [v] (truthy v)) := by intro _ _; rfl) : RT c e σ H R :=
  rt_of (t := fun σ H Q => RE c e σ H fun x H' => ∃ k, TruV c.K x H' k ∧ Q k H') (fun X h => by rw [← h.K]; exact pt_truth (pe_re h) (he _)) q
theorem t_cmp {a b : Expr} {op : CmpOp} (q : RE c a σ H fun x H1 => RE c b σ H1 fun y H2 => RQ c op x y H2 fun z H3 => ∃ k, z = .bl k ∧ R k H3) (hm : behindInMarks op b = false := by first | rfl | exact nomark _) : RT c (.Compare a [op] [b] pos) σ H R :=
  rt_of (fun X h => pt_cmpR (op_rq h) (pe_re h) (pe_re h) hm) q
theorem t_chain {a b d : Expr} {op op' : CmpOp} (q : RE c a σ H fun x H1 => RE c b σ H1 fun y H2 => RQ c op x y H2 fun z H3 => ∃ k, z = .bl k ∧ (if k = true then RE c d σ H3 fun w' H4 => RQ c op' y w' H4 (fun z H5 => ∃ k, z = .bl k ∧ R k H5) else (∃ k, V.bl false = .bl k ∧ R k H3)))
    (hm : lastMarks [op, op'] [b, d] = false := by with_unfolding_all rfl) : RT c (.Compare a [op, op'] [b, d] pos) σ H R :=
  rt_of (t := tTest (tChain (RQ c op) (RQ c op') (RE c a) (RE c b) (RE c d))) (fun X h => pt_chain (op_rq h) (op_rq h) (pe_re h) (pe_re h) (pe_re h) hm) q
theorem t_not {a : Expr} (q : RT c a σ H fun k H1 => R (!k) H1) : RT c (.UnaryOp .Not a pos) σ H R := rt_of (fun X h => pt_not (pt_rt h)) q
theorem t_w {e : Expr} (q : RW c e σ H R) : RT c e σ H R := rt_of (fun X h => (pw_rw h).pt) q
theorem w_and1 {a : Expr} (q : RT c a σ H R) : RW c (.BoolOp .And [a] pos) σ H R := rw_of (fun X h => pw_and1 (pt_rt h)) q
theorem w_or1 {a : Expr} (q : RT c a σ H R) : RW c (.BoolOp .Or [a] pos) σ H R := rw_of (fun X h => pw_or1 (pt_rt h)) q
theorem w_and {a b : Expr} {rest : List Expr} (q : RT c a σ H fun k H1 => if k = true then RW c (.BoolOp .And (b :: rest) pos) σ H1 R else R false H1) : RW c (.BoolOp .And (a :: b :: rest) pos) σ H R :=
  rw_of (fun X h => pw_and (pt_rt h) (pw_rw h)) q
theorem w_or {a b : Expr} {rest : List Expr} (q : RT c a σ H fun k H1 => if k = true then R true H1 else RW c (.BoolOp .Or (b :: rest) pos) σ H1 R) : RW c (.BoolOp .Or (a :: b :: rest) pos) σ H R :=
  rw_of (fun X h => pw_or (pt_rt h) (pw_rw h)) q
/-! ### statements -/
variable {D : Ends} {nx : L2.St → Hp → Prop} {rt : VK} {bk ct : L2.St → Hp → Prop}
theorem b_nil (q : D.nx σ H) : RB c [] D σ H := rb_of (fun _ _ => pss_nil) q
theorem b_cons {st : Stmt} {rest : List Stmt} (q : RS c st ⟨fun σ1 H1 => RB c rest ⟨nx, rt, bk, ct⟩ σ1 H1, rt, bk, ct⟩ σ H) : RB c (st :: rest) ⟨nx, rt, bk, ct⟩ σ H := rb_of (t := tSeq (RS c st) (RB c rest)) (fun X h => pss_cons (ps_rs h) (ps_rb h)) q
/-- a statement, then the rest, with a word between them -/
theorem b_cut {st : Stmt} {rest : List Stmt} (Mid : L2.St → Hp → Prop) (q : RS c st ⟨Mid, rt, bk, ct⟩ σ H) (q2 : ∀ σ1 H1, Mid σ1 H1 → RB c rest ⟨nx, rt, bk, ct⟩ σ1 H1) : RB c (st :: rest) ⟨nx, rt, bk, ct⟩ σ H :=
  b_cons (RS.mono (D := ⟨Mid, rt, bk, ct⟩) (D' := ⟨fun σ1 H1 => RB c rest ⟨nx, rt, bk, ct⟩ σ1 H1, rt, bk, ct⟩) ⟨q2, fun _ _ h => h, fun _ _ h => h, fun _ _ h => h⟩ q)
theorem b_one {st : Stmt} (q : RS c st D σ H) : RB c [st] D σ H := rb_of (fun X h => pss_one (ps_rs h)) q
theorem s_pass (q : D.nx σ H) : RS c (.Pass pos) D σ H := rs_of (fun _ _ => ps_pass) q
theorem s_break (q : D.bk σ H) : RS c (.Break pos) D σ H := rs_of (fun _ _ => ps_break) q
theorem s_cont (q : D.ct σ H) : RS c (.Continue pos) D σ H := rs_of (fun _ _ => ps_continue) q
theorem s_ret {e : Expr} (q : RE c e σ H D.rt) : RS c (.Return (some e) pos) D σ H := rs_of (fun X h => ps_ret (pe_re h)) q
theorem s_retN (q : D.rt .non H) : RS c (.Return none pos) D σ H := rs_of (fun X h => ps_retN) q
theorem s_expr {e : Expr} (q : RE c e σ H fun _ H1 => D.nx σ H1) (hs : ∀ env, swapsWith e none pos.line env = pure false := by intro _; rfl) : RS c (.Expr e pos) D σ H := rs_of (fun X h => ps_expr (pe_re h) (hs _)) q
theorem s_if {d : Expr} {a b : List Stmt} (q : RT c d σ H fun k H1 => if k = true then RB c a D σ H1 else RB c b D σ H1) : RS c (.If d a b pos) D σ H := rs_of (fun X h => ps_if (pt_rt h) (ps_rb h) (ps_rb h)) q
theorem s_asg {tg e : Expr} (q : RE c e σ H fun x H1 => RG c tg x σ H1 D.nx) (hs : ∀ env, swapsWithSole [tg] e pos.line env = pure false := by intro _; rfl) (hw : ∀ env, swappedStores [tg] e env = pure none := by intro _; rfl)
    (h1 : ∀ env, (assignEach [tg] env).map (·.2) = [assign tg env] := by intro _; rfl) : RS c (.Assign [tg] e pos) D σ H := rs_of (fun X h => ps_asg (pe_re h) (pg_rg h) (hs _) (hw _) (h1 _)) q
theorem s_set {i : Nat} {x : Str} {e : Expr} {pos' : Pos} (hA : At c.N i x) (q : RE c e σ H fun v H1 => D.nx (σ.set i (some v)) H1) (hx : c.sc.names.lookup x = some .local ∨ (c.sc.names.lookup x = some .cell ∧ c.top = true) := by first | exact Or.inl rfl | exact Or.inr ⟨rfl, rfl⟩)
    (hs : ∀ env, swapsWith e (some (.Name x pos')) pos.line env = pure false := by intro _; rfl) : RS c (.Assign [.Name x pos'] e pos) D σ H := by
  refine rs_of (t := tAsg (RE c e) (gName i)) (fun X h => ?_) q
  refine ps_set (by rw [h.N]; exact h.nd) (by rw [h.N]; exact hA.get) ?_ (pe_re h) (hs _) ?_
  · rcases hx with z | z
    · exact .inl (by rw [h.sc]; exact z)
    · exact .inr (by rw [h.sc]; exact z.1)
  · rcases hx with z | z
    · exact .inr (by rw [h.sc]; exact z)
    · exact .inl (h.top z.2 _)
theorem g_name {i : Nat} {x : Str} {v : V} {R : L2.St → Hp → Prop} (hA : At c.N i x) (q : R (σ.set i (some v)) H) (hx : c.sc.names.lookup x = some .local ∨ (c.sc.names.lookup x = some .cell ∧ c.top = true) := by first | exact Or.inl rfl | exact Or.inr ⟨rfl, rfl⟩) : RG c (.Name x pos) v σ H R := by
  refine rg_of (t := gName i) (fun X h => ?_) q
  refine pg_name (by rw [h.N]; exact h.nd) (by rw [h.N]; exact hA.get) ?_ ?_
  · rcases hx with z | z
    · exact .inl (by rw [h.sc]; exact z)
    · exact .inr (by rw [h.sc]; exact z.1)
  · rcases hx with z | z
    · exact .inr (by rw [h.sc]; exact z)
    · exact .inl (h.top z.2 _)
theorem gs_nil {R : L2.St → Hp → Prop} (q : R σ H) : RGs c [] [] σ H R := rgs_of (fun _ _ => pgs_nil) ⟨rfl, q⟩
theorem gs_cons {e : Expr} {es : List Expr} {v : V} {vs : List V} {R : L2.St → Hp → Prop} (q : RG c e v σ H fun σ1 H1 => RGs c es vs σ1 H1 R) (hs : ∀ env, (assignEach (e :: es) env).map (·.2) = assign e env :: (assignEach es env).map (·.2) := by intro _; rfl) : RGs c (e :: es) (v :: vs) σ H R :=
  rgs_of (t := gCons (RG c e) (RGs c es)) (fun X h => pgs_cons (pg_rg h) (pg_rgs h) (hs _)) ⟨v, vs, rfl, q⟩
theorem g_tup {es : List Expr} {k : Nat} {a : Addr} {xs : List V} {n : Nat} {R : L2.St → Hp → Prop} (ht : SqT c.K H a xs) (q : RGs c es xs σ H R) (hl : xs.length = n := by rfl) (hn : ∀ env, (assignEach es env).length = n := by intro _; rfl) (hst : ∀ env, (assignEach es env).findIdx? (·.1) = none := by intro _; rfl) :
    RG c (.Tuple es k pos) (.ref a) σ H R := rg_of (t := gTup c.K n (RGs c es)) (fun X h => by rw [← h.K]; exact pg_tup h.calm (pg_rgs h) (hn _) (hst _)) ⟨a, xs, rfl, ht, hl, q⟩
theorem g_sub {o i : Expr} {v : V} {R : L2.St → Hp → Prop} (q : RE c o σ H fun x H1 => RE c i σ H1 fun y H2 => RP c x y v H2 fun H3 => R σ H3)
    (ha : ∀ env v, assign (.Subscript o i pos) env v = (do
      let ov ← holding [v] (eval o env)
      let iv ← holding [v, ov] (eval i env)
      standAt pos
      holding [v, ov, iv] (setItem ov iv v)
      release [v, ov, iv] []) := by intro _ _; rfl) : RG c (.Subscript o i pos) v σ H R := rg_of (fun X h => pg_sub (pe_re h) (pe_re h) (set_rp h) (ha _)) q
/-- d[k] = v -/
theorem s_dput {o i e : Expr} {pos' : Pos} (q : RE c e σ H fun v H1 => RE c o σ H1 fun x H2 => RE c i σ H2 fun y H3 => ∃ a H4, x = .ref a ∧ DPut H3 a y v H4 ∧ D.nx σ H4)
    (hs : ∀ env, swapsWith e (some (.Subscript o i pos')) pos.line env = pure false := by intro _; rfl) : RS c (.Assign [.Subscript o i pos'] e pos) D σ H :=
  rs_of (fun X h => ps_dput (by have := h.room.units; omega) (pe_re h) (pe_re h) (pe_re h) (hs _)) q
/-- a, b = x, y -/
theorem s_par {i j : Nat} {x y : Str} {a b : Expr} {px py pt : Pos} {kt k2 pt2} (hi : At c.N i x) (hj : At c.N j y) (q : RE c a σ H fun v H1 => RE c b σ H1 fun w H2 => D.nx ((σ.set i (some v)).set j (some w)) H2) (hij : i ≠ j := by decide)
    (hx : c.sc.names.lookup x = some .local := by rfl) (hy : c.sc.names.lookup y = some .local := by rfl)
    (hw : ∀ env : Env, env.scope = c.sc → swappedStores [.Tuple [.Name x px, .Name y py] kt pt] (.Tuple [a, b] k2 pt2) env = pure (some [x, y]))
    (hs : ∀ env, swapsWithSole [.Tuple [.Name x px, .Name y py] kt pt] (.Tuple [a, b] k2 pt2) pos.line env = pure false := by intro _; rfl)
    (h1 : ∀ env, starEach [a, b] env = (false, eval a env) :: starEach [b] env := by intro _; rfl) (h2 : ∀ env, starEach [b] env = (false, eval b env) :: starEach [] env := by intro _; rfl) :
    RS c (.Assign [.Tuple [.Name x px, .Name y py] kt pt] (.Tuple [a, b] k2 pt2) pos) D σ H := by
  refine rs_of (t := tPar i j (RA c [a, b])) (fun X h => ps_par h.calm (by rw [h.N]; exact h.nd) (by rw [h.N]; exact hi.get) (by rw [h.N]; exact hj.get) hij (by rw [h.sc]; exact hx) (by rw [h.sc]; exact hy) (pa_ra h) (hw _ h.sc) (hs _)) ?_
  refine a_cons (RE.mono (fun v H1 z => a_cons (RE.mono (fun w H2 z => a_nil ⟨v, w, rfl, z⟩) z) h2) q) h1

/-! ### what is walked -/
theorem i_list {tg l : Expr} {R : It → Hp → Prop} (q : RE c l σ H fun x H1 => ∃ a, x = .ref a ∧ (∃ xs, SqL c.K H1 a xs) ∧ R (Itl c.K a) H1) : RI c tg l σ H R :=
  ri_of (t := iList c.K (RE c l)) (fun X h => by rw [← h.K]; exact pi_list (pe_re h)) q
theorem i_tup {tg l : Expr} {R : It → Hp → Prop} (q : RE c l σ H fun x H1 => ∃ a, x = .ref a ∧ (∃ xs, SqT c.K H1 a xs) ∧ R (Itt c.K a) H1) : RI c tg l σ H R :=
  ri_of (t := iTup c.K (RE c l)) (fun X h => by rw [← h.K]; exact pi_tup (pe_re h)) q
theorem i_range1 {tg a : Expr} {p : Pos} {R : It → Hp → Prop} (hm : c.mg "range" = none) (q : RA c [a] σ H fun vs H1 => ∃ j : Int, vs = [.int j] ∧ -(2 ^ 62) ≤ j ∧ j < 2 ^ 62 ∧ R (Itr 0 j.toNat) H1) (hg : c.sc.names.lookup ("range" : Str) = some .globalImplicit := by rfl) (hs : ∀ env, starEach [a] env = [(false, eval a env)] := by intro _; rfl) :
    RI c tg (.Call (.Name "range" p) [a] [] pos) σ H R := ri_of (t := iRng1 (RA c [a])) (fun X h => pi_range1 (gl_of h hg) (by rw [h.mg]; exact hm) (pa_ra h) (hs _)) q
theorem i_range2 {tg a b : Expr} {p : Pos} {R : It → Hp → Prop} (hm : c.mg "range" = none) (q : RA c [a, b] σ H fun vs H1 => ∃ i j : Int, vs = [.int i, .int j] ∧ (-(2 ^ 62) ≤ i ∧ i < 2 ^ 62 ∧ -(2 ^ 62) ≤ j ∧ j < 2 ^ 62) ∧ R (Itr i (j - i).toNat) H1) (hg : c.sc.names.lookup ("range" : Str) = some .globalImplicit := by rfl)
    (hs : ∀ env, starEach [a, b] env = [(false, eval a env), (false, eval b env)] := by intro _; rfl) (hs2 : ∀ env, starEach [b] env = [(false, eval b env)] := by intro _; rfl) :
    RI c tg (.Call (.Name "range" p) [a, b] [] pos) σ H R := ri_of (t := iRng2 (RA c [a, b])) (fun X h => pi_range2 (gl_of h hg) (by rw [h.mg]; exact hm) (pa_ra h) (hs _) (hs2 _)) q

/-! ### loops -/
theorem s_for {tg iter : Expr} {body : List Stmt} (q : RI c tg iter σ H fun J H1 => ∃ W : Nat → Nat → L2.St → Hp → Prop, (∃ m, W 0 m σ H1) ∧ ∀ i m σ H, W i m σ H →
      (J.stop i H ∧ nx σ H) ∨ (J.go i H ∧ ∃ N : L2.St → Hp → Prop, (∀ σ' H', N σ' H' → ∃ m', m' < m ∧ W (i + 1) m' σ' H') ∧ ∀ x H', J.yld i H x H' → RG c tg x σ H' fun σ2 H2 => RB c body ⟨N, rt, nx, N⟩ σ2 H2))
    (hs : ∀ env x, foldedSetIterable iter env x = pure x := by intro _ _; rfl) : RS c (.For tg iter body [] pos) ⟨nx, rt, bk, ct⟩ σ H :=
  rs_of (t := tFor (RI c tg iter) (RG c tg) (RB c body)) (fun X h => ps_for h.own h.calm (pi_ri h) (pg_rg h) (ps_rb h) (hs _)) q
theorem s_forT {tg iter : Expr} {body : List Stmt} (q : RE c iter σ H fun x H1 => ∃ a xs, x = .ref a ∧ SqT c.K H1 a xs ∧ ∃ Pv : Nat → L2.St → Hp → Prop, Pv 0 σ H1 ∧ (∀ i σ' H', i ≤ xs.length → Pv i σ' H' → SqT c.K H' a xs) ∧
      (∀ i x σ' H', xs[i]? = some x → Pv i σ' H' → RG c tg x σ' H' fun σ2 H2 => RB c body ⟨Pv (i + 1), rt, nx, Pv (i + 1)⟩ σ2 H2) ∧ ∀ σ' H', Pv xs.length σ' H' → nx σ' H')
    (hs : ∀ env x, foldedSetIterable iter env x = pure x := by intro _ _; rfl) : RS c (.For tg iter body [] pos) ⟨nx, rt, bk, ct⟩ σ H := by
  refine s_for (i_tup (RE.mono (fun x H1 z => ?_) q)) hs
  obtain ⟨a, xs, rfl, ht, Pv, h0, hl, hs, hd⟩ := z
  exact ⟨a, rfl, ⟨xs, ht⟩, for_tup (tb := RB c body) (D := ⟨nx, rt, bk, ct⟩) Pv h0 hl hs hd⟩
theorem s_forL {tg iter : Expr} {body : List Stmt} (q : RE c iter σ H fun x H1 => ∃ a xs, x = .ref a ∧ SqL c.K H1 a xs ∧ ∃ Pv : Nat → L2.St → Hp → Prop, Pv 0 σ H1 ∧ (∀ i σ' H', i ≤ xs.length → Pv i σ' H' → SqL c.K H' a xs) ∧
      (∀ i x σ' H', xs[i]? = some x → Pv i σ' H' → RG c tg x σ' H' fun σ2 H2 => RB c body ⟨Pv (i + 1), rt, nx, Pv (i + 1)⟩ σ2 H2) ∧ ∀ σ' H', Pv xs.length σ' H' → nx σ' H')
    (hs : ∀ env x, foldedSetIterable iter env x = pure x := by intro _ _; rfl) : RS c (.For tg iter body [] pos) ⟨nx, rt, bk, ct⟩ σ H := by
  refine s_for (i_list (RE.mono (fun x H1 z => ?_) q)) hs
  obtain ⟨a, xs, rfl, ht, Pv, h0, hl, hs, hd⟩ := z
  exact ⟨a, rfl, ⟨xs, ht⟩, for_list (tb := RB c body) (D := ⟨nx, rt, bk, ct⟩) Pv h0 hl hs hd⟩
theorem s_forR1 {tg a : Expr} {p ppos : Pos} {body : List Stmt} (hm : c.mg "range" = none) (q : RE c a σ H fun x H1 => ∃ n : Int, x = .int n ∧ -(2 ^ 62) ≤ n ∧ n < 2 ^ 62 ∧ ∃ Pv : Nat → L2.St → Hp → Prop, Pv 0 σ H1 ∧
      (∀ i σ' H', i < n.toNat → Pv i σ' H' → RG c tg (.int (i : Int)) σ' H' fun σ2 H2 => RB c body ⟨Pv (i + 1), rt, nx, Pv (i + 1)⟩ σ2 H2) ∧ ∀ σ' H', Pv n.toNat σ' H' → nx σ' H')
    (hg : c.sc.names.lookup ("range" : Str) = some .globalImplicit := by rfl) (h1 : ∀ env, starEach [a] env = [(false, eval a env)] := by intro _; rfl) (hs : ∀ env x, foldedSetIterable (.Call (.Name "range" p) [a] [] ppos) env x = pure x := by intro _ _; rfl) :
    RS c (.For tg (.Call (.Name "range" p) [a] [] ppos) body [] pos) ⟨nx, rt, bk, ct⟩ σ H := by
  refine s_for (i_range1 hm (a_cons (RE.mono (fun x H1 z => ?_) q) (fun env => by rw [h1]; rfl)) hg h1) hs
  obtain ⟨n, rfl, n1, n2, Pv, h0, hs, hd⟩ := z
  refine a_nil ⟨n, rfl, n1, n2, for_range (tb := RB c body) (D := ⟨nx, rt, bk, ct⟩) (lo := 0) (n := n.toNat) Pv h0 (fun i σ' H' hi p => ?_) hd⟩
  rw [Int.zero_add]
  exact hs i σ' H' hi p
theorem s_while {d : Expr} {body : List Stmt} (Pv : Nat → L2.St → Hp → Prop) (m : Nat) (h0 : Pv m σ H)
    (q : ∀ m σ H, Pv m σ H → RT c d σ H fun b H1 => if b = true then RB c body ⟨fun σ' H' => ∃ m', m' < m ∧ Pv m' σ' H', rt, nx, fun σ' H' => ∃ m', m' < m ∧ Pv m' σ' H'⟩ σ H1 else nx σ H1) : RS c (.While d body [] pos) ⟨nx, rt, bk, ct⟩ σ H := by
  refine rs_of (t := tWhile (RT c d) (RB c body)) (fun X h => ps_while h.own (pt_rt h) (ps_rb h)) ⟨Pv, ⟨m, h0⟩, fun m σ H p => RT.mono (fun b H1 z => ?_) (q m σ H p)⟩
  cases b with
  | true => exact ⟨_, fun _ _ z => z, z⟩
  | false => exact z
end
/-! ### what a goal asks of, told by its head -/
section
variable {c : Cd} {σ : L2.St} {H : Hp}
theorem gRE {e : Expr} {Q : VK} (q : RE c e σ H Q) : RE c e σ H Q := q
theorem gRT {e : Expr} {Q : Bool → Hp → Prop} (q : RT c e σ H Q) : RT c e σ H Q := q
theorem gRW {e : Expr} {Q : Bool → Hp → Prop} (q : RW c e σ H Q) : RW c e σ H Q := q
theorem gRA {e : List Expr} {Q : List V → Hp → Prop} (q : RA c e σ H Q) : RA c e σ H Q := q
theorem gRS {e : Stmt} {D : Ends} (q : RS c e D σ H) : RS c e D σ H := q
theorem gRB {e : List Stmt} {D : Ends} (q : RB c e D σ H) : RB c e D σ H := q
theorem gRG {e : Expr} {v : V} {Q : L2.St → Hp → Prop} (q : RG c e v σ H Q) : RG c e v σ H Q := q
theorem gRO {f : Operator} {x y : V} {Q : VK} (q : RO c f x y H Q) : RO c f x y H Q := q
theorem gRQ {f : CmpOp} {x y : V} {Q : VK} (q : RQ c f x y H Q) : RQ c f x y H Q := q
theorem gRU {f : UnaryOp} {x : V} {Q : VK} (q : RU c f x H Q) : RU c f x H Q := q
theorem gRC {f : Value} {xs : List V} {Q : VK} (q : RC c f xs H Q) : RC c f xs H Q := q
theorem gRX {x y : V} {Q : VK} (q : RX c x y H Q) : RX c x y H Q := q
theorem gRPo {e : Option Expr} {Q : Option Int → Hp → Prop} (q : RPo c e σ H Q) : RPo c e σ H Q := q
end
end G

namespace G
open PySem PySem.Spec PyProof.Rows L2

/-! ### heaps: what stays -/
structure Tp (H H' : Hp) : Prop where
  t : ∀ a xs, H a = some (.tup xs) → H' a = some (.tup xs)
  f : ∀ a o u, H a = some (.frz o u) → H' a = some (.frz o u)
theorem Tp.refl (H : Hp) : Tp H H := ⟨fun _ _ h => h, fun _ _ _ h => h⟩
theorem Tp.trans {H H1 H2 : Hp} (a : Tp H H1) (b : Tp H1 H2) : Tp H H2 := ⟨fun _ _ h => b.t _ _ (a.t _ _ h), fun _ _ _ h => b.f _ _ _ (a.f _ _ _ h)⟩
theorem tp_same {H H' : Hp} (s : Same H H') : Tp H H' := ⟨fun _ _ h => s _ _ h, fun _ _ _ h => s _ _ h⟩
theorem Tp.sqt {K : PySem.W.Frag} {H H' : Hp} {a : Addr} {xs : List V} (e : Tp H H') (h : SqT K H a xs) : SqT K H' a xs := by
  rcases h with (h | ⟨o, h⟩) | h
  · exact .inl (.inl (e.t _ _ h))
  · exact .inl (.inr ⟨o, e.f _ _ _ h⟩)
  · exact .inr h
theorem same_new {H : Hp} {p : Addr} {o : HO} (h : H p = none) : Same H (upd H p o) := fun b u q => by rw [upd_ne (ne_of_none q h)]; exact q
/-- all but the thing at m stays; m is no tuple and not locked -/
structure Kp (m : Addr) (H H' : Hp) : Prop where
  k : ∀ a o, a ≠ m → H a = some o → H' a = some o
  t : Tp H H'
theorem kp_same {m : Addr} {H H' : Hp} (s : Same H H') : Kp m H H' := ⟨fun _ _ _ h => s _ _ h, tp_same s⟩
theorem Kp.refl (m : Addr) (H : Hp) : Kp m H H := kp_same (Same.refl H)
theorem Kp.trans {m : Addr} {H H1 H2 : Hp} (a : Kp m H H1) (b : Kp m H1 H2) : Kp m H H2 := ⟨fun _ _ n h => b.k _ _ n (a.k _ _ n h), a.t.trans b.t⟩
/-- a list (of ours) is written -/
theorem kp_upd {H : Hp} {p : Addr} {o o' : HO} (h : H p = some o) (h1 : ∀ xs, o ≠ .tup xs) (h2 : ∀ b u, o ≠ .frz b u) : Kp p H (upd H p o') :=
  ⟨fun a u n q => by rw [upd_ne n]; exact q, fun a xs q => by rw [upd_ne (ne_of q h fun e => h1 _ e.symm)]; exact q, fun a b u q => by rw [upd_ne (ne_of q h fun e => h2 _ _ e.symm)]; exact q⟩
/-- a thing that the older heap does not know is written: for it nothing has changed -/
theorem same_mut {H H1 : Hp} {p : Addr} {o : HO} (s : Same H H1) (h : H p = none) : Same H (upd H1 p o) := fun b u q => by rw [upd_ne (ne_of_none q h)]; exact s _ _ q
theorem kp_mut {m : Addr} {H H1 : Hp} {p : Addr} {o : HO} (s : Kp m H H1) (h : H p = none) : Kp m H (upd H1 p o) :=
  ⟨fun b u n q => by rw [upd_ne (ne_of_none q h)]; exact s.k _ _ n q, fun b u q => by rw [upd_ne (ne_of_none q h)]; exact s.t.t _ _ q, fun b u v q => by rw [upd_ne (ne_of_none q h)]; exact s.t.f _ _ _ q⟩

/-! ### data that never changes: none, bools, ints, texts, tuples of these -/
mutual
inductive Dt (K : PySem.W.Frag) (H : Hp) : V → PyData → Prop
  | non : Dt K H .non .none
  | bl (b : Bool) : Dt K H (.bl b) (.bool b)
  | int (i : Int) : Dt K H (.int i) (.int i)
  | str (x : Str) : Dt K H (.str x) (.str x)
  | tup {a : Addr} {xs : List V} {ds : List PyData} : SqT K H a xs → DtAll K H xs ds → Dt K H (.ref a) (.tuple ds)
  | lst {a : Addr} {o : Obj} {xs : List V} {ds : List PyData} : H a = some (.frz o (.lst xs)) → DtAll K H xs ds → Dt K H (.ref a) (.list ds)
inductive DtAll (K : PySem.W.Frag) (H : Hp) : List V → List PyData → Prop
  | nil : DtAll K H [] []
  | cons {v : V} {vs : List V} {d : PyData} {ds : List PyData} : Dt K H v d → DtAll K H vs ds → DtAll K H (v :: vs) (d :: ds)
end
section
variable {K : PySem.W.Frag} {H H' : Hp}
mutual
theorem Dt.mono (e : Tp H H') : ∀ {d : PyData} {v : V}, Dt K H v d → Dt K H' v d
  | .none, _, h => by cases h; exact .non
  | .bool _, _, h => by cases h; exact .bl _
  | .int _, _, h => by cases h; exact .int _
  | .str _, _, h => by cases h; exact .str _
  | .tuple ds, _, h => by
    cases h with
    | tup hs ha => exact .tup (e.sqt hs) (DtAll.mono e ha)
  | .list ds, _, h => by
    cases h with
    | lst hs ha => exact .lst (e.f _ _ _ hs) (DtAll.mono e ha)
  | .dict _, _, h => by cases h
theorem DtAll.mono (e : Tp H H') : ∀ {ds : List PyData} {vs : List V}, DtAll K H vs ds → DtAll K H' vs ds
  | [], _, h => by cases h; exact .nil
  | d :: ds, _, h => by
    cases h with
    | cons h1 h2 => exact .cons (Dt.mono e h1) (DtAll.mono e h2)
end
mutual
theorem Dt.dp : ∀ {d : PyData} {v : V}, Dt K H v d → Dp K H v d
  | .none, _, h => by cases h; exact .non
  | .bool _, _, h => by cases h; exact .bl _
  | .int _, _, h => by cases h; exact .int _
  | .str _, _, h => by cases h; exact .str _
  | .tuple ds, _, h => by
    cases h with
    | tup hs ha => exact .tup hs (DtAll.dp ha)
  | .list ds, _, h => by
    cases h with
    | lst hs ha => exact .lst (.inl (.inr ⟨_, hs⟩)) (DtAll.dp ha)
  | .dict _, _, h => by cases h
theorem DtAll.dp : ∀ {ds : List PyData} {vs : List V}, DtAll K H vs ds → DpAll K H vs ds
  | [], _, h => by cases h; exact .nil
  | d :: ds, _, h => by
    cases h with
    | cons h1 h2 => exact .cons (Dt.dp h1) (DtAll.dp h2)
end
theorem DtAll.len : ∀ {ds : List PyData} {vs : List V}, DtAll K H vs ds → vs.length = ds.length
  | [], _, h => by cases h; rfl
  | d :: ds, _, h => by
    cases h with
    | cons _ h2 => exact congrArg Nat.succ (DtAll.len h2)
theorem DtAll.get : ∀ {ds : List PyData} {vs : List V} {i : Nat} {d : PyData}, DtAll K H vs ds → ds[i]? = some d → ∃ v, vs[i]? = some v ∧ Dt K H v d
  | [], _, _, _, _, e => by simp at e
  | d :: ds, _, 0, _, h, e => by
    cases h with
    | cons h1 _ =>
      simp at e
      subst e
      exact ⟨_, rfl, h1⟩
  | d :: ds, _, i + 1, _, h, e => by
    cases h with
    | cons _ h2 =>
      obtain ⟨v, e1, h3⟩ := DtAll.get (i := i) h2 (by simpa using e)
      exact ⟨v, by simpa using e1, h3⟩
theorem DtAll.getV : ∀ {ds : List PyData} {vs : List V} {i : Nat} {v : V}, DtAll K H vs ds → vs[i]? = some v → ∃ d, ds[i]? = some d ∧ Dt K H v d
  | [], _, _, _, h, e => by cases h; simp at e
  | d :: ds, _, 0, _, h, e => by
    cases h with
    | cons h1 _ =>
      simp at e
      subst e
      exact ⟨_, rfl, h1⟩
  | d :: ds, _, i + 1, _, h, e => by
    cases h with
    | cons _ h2 =>
      obtain ⟨v, e1, h3⟩ := DtAll.getV (i := i) h2 (by simpa using e)
      exact ⟨v, by simpa using e1, h3⟩
theorem DtAll.app : ∀ {ds es : List PyData} {vs us : List V}, DtAll K H vs ds → DtAll K H us es → DtAll K H (vs ++ us) (ds ++ es)
  | [], _, _, _, h, k => by cases h; exact k
  | d :: ds, _, _, _, h, k => by
    cases h with
    | cons h1 h2 => exact .cons h1 (DtAll.app h2 k)
theorem DtAll.drop : ∀ {ds : List PyData} {vs : List V} (n : Nat), DtAll K H vs ds → DtAll K H (vs.drop n) (ds.drop n)
  | _, _, 0, h => h
  | [], _, _ + 1, h => by cases h; exact .nil
  | d :: ds, _, n + 1, h => by
    cases h with
    | cons _ h2 => exact DtAll.drop n h2
theorem DtAll.take : ∀ {ds : List PyData} {vs : List V} (n : Nat), DtAll K H vs ds → DtAll K H (vs.take n) (ds.take n)
  | _, _, 0, h => .nil
  | [], _, _ + 1, h => by cases h; exact .nil
  | d :: ds, _, n + 1, h => by
    cases h with
    | cons h1 h2 => exact .cons h1 (DtAll.take n h2)
theorem Dt.intE {v : V} {i : Int} (h : Dt K H v (.int i)) : v = .int i := by cases h; rfl
theorem Dt.strE {v : V} {i : Str} (h : Dt K H v (.str i)) : v = .str i := by cases h; rfl
theorem Dt.blE {v : V} {i : Bool} (h : Dt K H v (.bool i)) : v = .bl i := by cases h; rfl
theorem Dt.nonE {v : V} (h : Dt K H v .none) : v = .non := by cases h; rfl
theorem Dt.tupE {v : V} {ds : List PyData} (h : Dt K H v (.tuple ds)) : ∃ a xs, v = .ref a ∧ SqT K H a xs ∧ DtAll K H xs ds := by
  cases h with
  | tup h1 h2 => exact ⟨_, _, rfl, h1, h2⟩
end
theorem atI_map {α β : Type} {R : α → β → Prop} {xs : List α} {ys : List β} (hl : xs.length = ys.length) {i : Int} {y : β} (h : atI ys i = some y) (g : ∀ (j : Nat) y, ys[j]? = some y → ∃ x, xs[j]? = some x ∧ R x y) : ∃ x, atI xs i = some x ∧ R x y := by
  unfold atI at h ⊢
  rw [hl]
  cases e : ixN ys.length i with
  | none => rw [e] at h; cases h
  | some j =>
    rw [e] at h
    obtain ⟨x, h1, h2⟩ := g j y h
    exact ⟨x, h1, h2⟩

/-! ### steps over data -/
section
variable {c : Cd} {σ : L2.St} {H : Hp} {Q : VK} {pos : Pos} {x y : V}
theorem ro_add {i j : Int} (q : Q (.int (i + j)) H) : RO c .Add (.int i) (.int j) H Q := ro_of (fun _ _ => op_add) ⟨i, j, rfl, rfl, q⟩
theorem ro_sub {i j : Int} (q : Q (.int (i - j)) H) : RO c .Sub (.int i) (.int j) H Q := ro_of (fun _ _ => op_sub) ⟨i, j, rfl, rfl, q⟩
theorem ro_mul {i j : Int} (hc : CMul i j) (q : Q (.int (i * j)) H) : RO c .Mult (.int i) (.int j) H Q := ro_of (fun _ _ => op_mul) ⟨i, j, rfl, rfl, hc, q⟩
theorem ro_mod {i j : Int} (hc : 0 < j) (q : Q (.int (i % j)) H) : RO c .Mod (.int i) (.int j) H Q := ro_of (fun _ _ => op_mod) ⟨i, j, rfl, rfl, hc, q⟩
theorem ro_div {i j : Int} (hc : 0 < j) (h2 : j < 1073741824) (q : Q (.int (i / j)) H) : RO c .FloorDiv (.int i) (.int j) H Q := ro_of (fun _ _ => op_fdiv) ⟨i, j, rfl, rfl, ⟨hc, h2⟩, q⟩
theorem ro_pow {i j : Int} (hc : CPow i j) (q : Q (.int (i ^ j.toNat)) H) : RO c .Pow (.int i) (.int j) H Q := ro_of (fun _ _ => op_pow) ⟨i, j, rfl, rfl, hc, q⟩
theorem ro_eq (hs : scal x y = true) (q : Q (.bl (decide (x = y))) H) : RQ c .Eq x y H Q := rq_of (fun _ _ => op_eq) ⟨hs, q⟩
theorem ro_ne (hs : scal x y = true) (q : Q (.bl (!decide (x = y))) H) : RQ c .NotEq x y H Q := rq_of (fun _ _ => op_ne) ⟨hs, q⟩
theorem ro_eqI {i j : Int} (q : Q (.bl (decide (i = j))) H) : RQ c .Eq (.int i) (.int j) H Q := ro_eq rfl (by
  have e : decide (V.int i = V.int j) = decide (i = j) := decide_eq_decide.mpr ⟨fun h => V.int.inj h, fun h => by rw [h]⟩
  rw [e]; exact q)
theorem ro_neI {i j : Int} (q : Q (.bl (!decide (i = j))) H) : RQ c .NotEq (.int i) (.int j) H Q := ro_ne rfl (by
  have e : decide (V.int i = V.int j) = decide (i = j) := decide_eq_decide.mpr ⟨fun h => V.int.inj h, fun h => by rw [h]⟩
  rw [e]; exact q)
theorem ro_eqS {i j : Str} (q : Q (.bl (decide (i = j))) H) : RQ c .Eq (.str i) (.str j) H Q := ro_eq rfl (by
  have e : decide (V.str i = V.str j) = decide (i = j) := decide_eq_decide.mpr ⟨fun h => V.str.inj h, fun h => by rw [h]⟩
  rw [e]; exact q)
theorem ro_eqB {i j : Bool} (q : Q (.bl (decide (i = j))) H) : RQ c .Eq (.bl i) (.bl j) H Q := ro_eq rfl (by
  have e : decide (V.bl i = V.bl j) = decide (i = j) := decide_eq_decide.mpr ⟨fun h => V.bl.inj h, fun h => by rw [h]⟩
  rw [e]; exact q)
theorem ro_lt {i j : Int} (q : Q (.bl (decide (i < j))) H) : RQ c .Lt (.int i) (.int j) H Q := rq_of (fun _ _ => op_lt) ⟨i, j, rfl, rfl, q⟩
theorem ro_le {i j : Int} (q : Q (.bl (decide (i ≤ j))) H) : RQ c .LtE (.int i) (.int j) H Q := rq_of (fun _ _ => op_le) ⟨i, j, rfl, rfl, q⟩
theorem ro_gt {i j : Int} (q : Q (.bl (decide (j < i))) H) : RQ c .Gt (.int i) (.int j) H Q := rq_of (fun _ _ => op_gt) ⟨i, j, rfl, rfl, q⟩
theorem ro_ge {i j : Int} (q : Q (.bl (decide (j ≤ i))) H) : RQ c .GtE (.int i) (.int j) H Q := rq_of (fun _ _ => op_ge) ⟨i, j, rfl, rfl, q⟩
theorem ro_isN (q : Q (.bl (decide (x = .non))) H) : RQ c .Is x .non H Q := rq_of (fun _ _ => op_isN) ⟨rfl, q⟩
theorem ro_notN (q : Q (.bl (!decide (x = .non))) H) : RQ c .IsNot x .non H Q := rq_of (fun _ _ => op_notN) ⟨rfl, q⟩
theorem ru_neg {i : Int} (q : Q (.int (-i)) H) : RU c .USub (.int i) H Q := ru_of (fun _ _ => un_neg) ⟨i, rfl, q⟩
/-- == of data -/
theorem ro_eqD {d e : PyData} (hx : Dp c.K H x d) (hy : Dp c.K H y e) (s1 : SeqAt.shaped d = true) (s2 : SeqAt.shaped e = true) (q : Q (.bl (PyData.eqv d e)) H) : RQ c .Eq x y H Q :=
  rq_of (r := rEqD c.K) (fun X h => by rw [← h.K]; exact op_eqD h.room.units) ⟨d, e, hx, hy, s1, s2, q⟩
theorem ro_neD {d e : PyData} (hx : Dp c.K H x d) (hy : Dp c.K H y e) (s1 : SeqAt.shaped d = true) (s2 : SeqAt.shaped e = true) (q : Q (.bl (!PyData.eqv d e)) H) : RQ c .NotEq x y H Q :=
  rq_of (r := rNeD c.K) (fun X h => by rw [← h.K]; exact op_neD h.room.units) ⟨d, e, hx, hy, s1, s2, q⟩
/-- x[i] of a tuple of data -/
theorem rx_tup {ds : List PyData} {i : Int} {d : PyData} (hx : Dt c.K H x (.tuple ds)) (hi : atI ds i = some d) (q : ∀ v, Dt c.K H v d → Q v H) : RX c x (.int i) H Q := by
  obtain ⟨a, xs, rfl, ht, ha⟩ := hx.tupE
  obtain ⟨v, h1, h2⟩ := atI_map (R := fun v d => Dt c.K H v d) ha.len hi fun j y hj => ha.get hj
  exact rx_of (r := rIxT c.K) (fun X h => by rw [← h.K]; exact ix_tup) ⟨a, xs, i, v, rfl, rfl, ht, h1, q v h2⟩
theorem rx_int {ds : List PyData} {i n : Int} (hx : Dt c.K H x (.tuple ds)) (hi : atI ds i = some (.int n)) (q : Q (.int n) H) : RX c x (.int i) H Q := rx_tup hx hi fun v h => by rw [h.intE]; exact q
theorem rx_str {ds : List PyData} {i : Int} {n : Str} (hx : Dt c.K H x (.tuple ds)) (hi : atI ds i = some (.str n)) (q : Q (.str n) H) : RX c x (.int i) H Q := rx_tup hx hi fun v h => by rw [h.strE]; exact q
theorem rx_bl {ds : List PyData} {i : Int} {n : Bool} (hx : Dt c.K H x (.tuple ds)) (hi : atI ds i = some (.bool n)) (q : Q (.bl n) H) : RX c x (.int i) H Q := rx_tup hx hi fun v h => by rw [h.blE]; exact q
/-- xs[i] of a list -/
theorem rx_list {p : Addr} {xs : List V} {i : Int} {v : V} (hx : SqL c.K H p xs) (hi : atI xs i = some v) (q : Q v H) : RX c (.ref p) (.int i) H Q :=
  rx_of (r := rIxL c.K) (fun X h => by rw [← h.K]; exact ix_list) ⟨p, xs, i, v, rfl, rfl, hx, hi, q⟩
/-- (a, b, ..), data -/
theorem e_tupD {es : List Expr} {x1} (q : RA c es σ H fun xs H1 => ∃ ds, DtAll c.K H1 xs ds ∧ xs.length ≤ 1000 ∧ ∀ v H2, Same H1 H2 → Dt c.K H2 v (.tuple ds) → Q v H2) : RE c (.Tuple es x1 pos) σ H Q :=
  e_tup (RA.mono (fun xs H1 z => by
    obtain ⟨ds, h1, h2, h3⟩ := z
    exact ⟨Nat.le_trans h2 (by decide), fun p hp => h3 _ _ (same_new hp) (.tup (.of upd_same) (h1.mono (tp_same (same_new hp))))⟩) q)
/-! calls -/
/-- a def that changes nothing: R tells what it answers -/
def spF (R : List PyData → PyData → Prop) (K : PySem.W.Frag) : Sp := fun vs H Q _ => ∃ ds d, DtAll K H vs ds ∧ R ds d ∧ ∀ v H', Same H H' → Dt K H' v d → Q v H'
theorem e_callF {x : Str} {p : Pos} {e : Expr} {es : List Expr} {ps : List Str} {k : Nat} {R : List PyData → PyData → Prop} (D : Dc c.toMd x ps k (spF R c.K)) (q : RA c (e :: es) σ H fun vs H1 => ∃ ds d, DtAll c.K H1 vs ds ∧ R ds d ∧ ∀ v H', Same H1 H' → Dt c.K H' v d → Q v H') (hk : k ≤ c.k := by exact Nat.le_of_ble_eq_true rfl) (hg : c.sc.names.lookup x = some .globalImplicit := by rfl)
    (hdb : (x == ("__debug__" : Str)) = false := by decide) (he : ∀ env, starEach (e :: es) env = (false, eval e env) :: starEach es env := by intro _; rfl) (hpl : ∀ env, (backTo pos (starEach es env)).any (·.1) = false := by intro _; rfl) :
    RE c (.Call (.Name x p) (e :: es) [] pos) σ H Q := e_call D q hk hg hdb he hpl
theorem rc_max2 {i j : Int} (q : Q (.int (if j > i then j else i)) H) : RC c (.builtin "max") [.int i, .int j] H Q := rc_of (fun X h => call_max2 h.calm) ⟨i, j, rfl, q⟩
theorem rc_min2 {i j : Int} (q : Q (.int (if j < i then j else i)) H) : RC c (.builtin "min") [.int i, .int j] H Q := rc_of (fun X h => call_min2 h.calm) ⟨i, j, rfl, q⟩
theorem rc_intI {i : Int} (q : Q (.int i) H) : RC c (.type "int") [.int i] H Q := rc_of (fun X h => call_int1) (.inl ⟨i, rfl, q⟩)
theorem rc_intB {k : Bool} (q : Q (.int (if k then 1 else 0)) H) : RC c (.type "int") [.bl k] H Q := rc_of (fun X h => call_int1) (.inr ⟨k, rfl, q⟩)
theorem rc_lenL {p : Addr} {xs : List V} (h : SqL c.K H p xs) (q : Q (.int xs.length) H) : RC c (.builtin "len") [.ref p] H Q := rc_of (r := fun xs H Q => ∃ p ys, xs = [.ref p] ∧ (SqL c.K H p ys ∨ SqT c.K H p ys) ∧ Q (.int ys.length) H) (fun X h => by rw [← h.K]; exact call_len_seq) ⟨p, xs, rfl, .inl h, q⟩
theorem rc_lenT {ds : List PyData} (h : Dt c.K H x (.tuple ds)) (q : Q (.int ds.length) H) : RC c (.builtin "len") [x] H Q := by
  obtain ⟨a, xs, rfl, ht, ha⟩ := h.tupE
  refine rc_of (r := fun xs H Q => ∃ p ys, xs = [.ref p] ∧ (SqL c.K H p ys ∨ SqT c.K H p ys) ∧ Q (.int ys.length) H) (fun X h => by rw [← h.K]; exact call_len_seq) ⟨a, xs, rfl, .inr ht, ?_⟩
  rw [ha.len]; exact q
end

/-! ### a def -/
section
variable {P : Program} {w : World} {K : PySem.W.Frag} {mg : Str → Option Value} {base : Heap}
theorem is_cx {M : Md} {N : List Str} {qual : Str} {sc : Scope} {f : Addr} {cdv : Value} {A : Around} {outer : List Env} {s : Shared} {H : Hp} {E : XK} {k : Nat} {g : Bool} (hn : N.Nodup) (hg : g = true → A.guards = some []) (hr : Room k (A.deeper (envOfC qual sc s.heap.objs.size f cdv))) :
    Is ⟨M, N, sc, k, true, g, none⟩ (cxOf CX0 M.prog M.w M.K M.mg M.base N qual sc f cdv A outer s H E).nox :=
  ⟨rfl, rfl, rfl, rfl, rfl, rfl, rfl, rfl, hr, fun _ _ => rfl, PassesOwn.never, hn, hg, fun _ _ z => nomatch z⟩
theorem fn_ok {M : Md} {x qual : Str} {st : Stmt} {f : Addr} {fd : FuncData} {N ps : List Str} {k : Nat} {sp : Sp} (F : Fun M.K x qual st f fd) (S : FnScope N ps (defScope st)) (len : ∀ vs H Q E, sp vs H Q E → vs.length = ps.length)
    (body : ∀ (H : Hp) (vs : List V) (Q : VK) (E : XK), sp vs H Q E → RB ⟨M, N, defScope st, k, true, false, none⟩ (defBody st) { nx := fun _ H' => Q .non H', rt := Q } (start N vs) H) : FnG M.prog M.w M.K M.mg M.base CX0 (k + 1) f fd ps sp :=
  F.ok S len fun cdv A outer s H vs Q E hr h => ⟨RB ⟨M, N, defScope st, k, true, false, none⟩ (defBody st), ps_rb (is_cx S.nd (fun z => Bool.noConfusion z) hr), body H vs Q E h⟩
theorem fn_okQ {M : Md} {x qual : Str} {st : Stmt} {f : Addr} {fd : FuncData} {N ps : List Str} {k : Nat} {sp : Sp} (F : Fun M.K x qual st f fd) (S : FnScope N ps (defScope st)) (len : ∀ vs H Q E, sp vs H Q E → vs.length = ps.length)
    (body : ∀ (H : Hp) (vs : List V) (Q : VK) (E : XK), sp vs H Q E → RB ⟨M, N, defScope st, k, true, true, none⟩ (defBody st) { nx := fun _ H' => Q .non H', rt := Q } (start N vs) H) : FnQ M.prog M.w M.K M.mg M.base CX0 (k + 1) f fd ps sp := by
  obtain ⟨oc, od, kV, doc, pm, an, cdv, ct, osl, rfl, at_, cod⟩ := F.ex
  exact fnQ_of at_ cod S len fun A up s H vs Q E hg hr h => ⟨RB ⟨M, N, defScope st, k, true, true, none⟩ (defBody st), (ps_rb (is_cx S.nd (fun _ => hg) hr)).nox, body H vs Q E h⟩
end
end G
namespace G
open PySem PySem.Spec PyProof.Rows L2
theorem ifd {p A B : Prop} [Decidable p] (h1 : p → A) (h2 : ¬ p → B) : if decide p = true then A else B := by
  by_cases h : p
  · rw [if_pos (decide_eq_true h)]; exact h1 h
  · rw [if_neg (by simp [h])]; exact h2 h
theorem ifnd {p A B : Prop} [Decidable p] (h1 : ¬ p → A) (h2 : p → B) : if (!decide p) = true then A else B := by
  by_cases h : p
  · rw [if_neg (by simp [h])]; exact h2 h
  · rw [if_pos (by simp [h])]; exact h1 h
theorem ifT {p A B : Prop} [Decidable p] (h : p) (a : A) : if decide p = true then A else B := by rw [if_pos (decide_eq_true h)]; exact a
theorem ifF {p A B : Prop} [Decidable p] (h : ¬ p) (b : B) : if decide p = true then A else B := by rw [if_neg (by simp [h])]; exact b
theorem ifnT {p A B : Prop} [Decidable p] (h : ¬ p) (a : A) : if (!decide p) = true then A else B := by rw [if_pos (by simp [h])]; exact a
theorem ifnF {p A B : Prop} [Decidable p] (h : p) (b : B) : if (!decide p) = true then A else B := by rw [if_neg (by simp [h])]; exact b
theorem ifb {k : Bool} {A B : Prop} (h1 : k = true → A) (h2 : k = false → B) : if k = true then A else B := by
  cases k with
  | true => exact h1 rfl
  | false => exact h2 rfl
end G
namespace G
open PySem PySem.Spec PyProof.Rows L2
section
variable {c : Cd} {σ : L2.St} {H : Hp} {Q : VK} {pos : Pos} {x y : V}
/-- d[k] with a written text -/
theorem e_dgetS {a : Expr} {s : Str} {j : Nat} {p2 : Pos} (q : RE c a σ H fun x H1 => ∃ p kvs v, x = .ref p ∧ H1 p = some (.dK kvs) ∧ valV kvs (Sum.inr s) = some v ∧ Q v H1) (hs : NoSl (.Constant (.str s) j p2) := by intro _ _; rfl) : RE c (.Subscript a (.Constant (.str s) j p2) pos) σ H Q :=
  e_dget (RE.mono (fun x H1 z => e_str (by
    obtain ⟨p, kvs, v, rfl, h, e, q⟩ := z
    refine ⟨p, v, rfl, ?_, q⟩
    rw [← e]; exact DGet.k (k := Sum.inr s) h)) q) hs
theorem e_dgetK {a b : Expr} (q : RE c a σ H fun x H1 => RE c b σ H1 fun y H2 => ∃ p kvs k v, x = .ref p ∧ H2 p = some (.dK kvs) ∧ y = kV k ∧ valV kvs k = some v ∧ Q v H2) (hs : NoSl b := by intro _ _; rfl) : RE c (.Subscript a b pos) σ H Q :=
  e_dget (RE.mono (fun x H1 z => RE.mono (fun y H2 z => by
    obtain ⟨p, kvs, k, v, rfl, h, rfl, e, q⟩ := z
    refine ⟨p, v, rfl, ?_, q⟩
    rw [← e]; exact DGet.k h) z) q) hs
variable {nx : L2.St → Hp → Prop} {rt : VK} {bk ct : L2.St → Hp → Prop}
theorem s_dputS {a e : Expr} {s : Str} {j : Nat} {p2 p3 : Pos} (q : RE c e σ H fun v H1 => RE c a σ H1 fun x H2 => ∃ p kvs, x = .ref p ∧ H2 p = some (.dK kvs) ∧ kvs.length < 1000 ∧ nx σ (upd H2 p (.dK (putK kvs (Sum.inr s) v))))
    (hs : ∀ env, swapsWith e (some (.Subscript a (.Constant (.str s) j p2) p3)) pos.line env = pure false := by intro _; rfl) : RS c (.Assign [.Subscript a (.Constant (.str s) j p2) p3] e pos) ⟨nx, rt, bk, ct⟩ σ H :=
  s_dput (RE.mono (fun v H1 z => RE.mono (fun x H2 z => e_str (by
    obtain ⟨p, kvs, rfl, h, l, q⟩ := z
    exact ⟨p, _, rfl, DPut.k (k := Sum.inr s) h (Nat.lt_trans l (by decide)), q⟩)) z) q) hs
end

/-! ### the law's source of draws: a dict of four things -/
def fkv (a : V) (b d e : Int) : List (Key × V) := [(Sum.inr "cells", a), (Sum.inr "rest", .int b), (Sum.inr "used", .int d), (Sum.inr "draws", .int e)]
theorem fkv_len (a : V) (b d e : Int) : (fkv a b d e).length = 4 := rfl
theorem n01 : ¬ (Sum.inr ("cells" : Str) : Key) = Sum.inr ("rest" : Str) := by decide +kernel
theorem n02 : ¬ (Sum.inr ("cells" : Str) : Key) = Sum.inr ("used" : Str) := by decide +kernel
theorem n03 : ¬ (Sum.inr ("cells" : Str) : Key) = Sum.inr ("draws" : Str) := by decide +kernel
theorem n12 : ¬ (Sum.inr ("rest" : Str) : Key) = Sum.inr ("used" : Str) := by decide +kernel
theorem n13 : ¬ (Sum.inr ("rest" : Str) : Key) = Sum.inr ("draws" : Str) := by decide +kernel
theorem n23 : ¬ (Sum.inr ("used" : Str) : Key) = Sum.inr ("draws" : Str) := by decide +kernel
theorem fkv_0 {a : V} {b d e : Int} : valV (fkv a b d e) (Sum.inr "cells") = some a := valV_pos rfl
theorem fkv_1 {a : V} {b d e : Int} : valV (fkv a b d e) (Sum.inr "rest") = some (.int b) := by rw [fkv, valV_neg n01]; exact valV_pos rfl
theorem fkv_2 {a : V} {b d e : Int} : valV (fkv a b d e) (Sum.inr "used") = some (.int d) := by rw [fkv, valV_neg n02, valV_neg n12]; exact valV_pos rfl
theorem fkv_3 {a : V} {b d e : Int} : valV (fkv a b d e) (Sum.inr "draws") = some (.int e) := by rw [fkv, valV_neg n03, valV_neg n13, valV_neg n23]; exact valV_pos rfl
theorem fput_1 {a : V} {b d e x : Int} : putK (fkv a b d e) (Sum.inr "rest") (.int x) = fkv a x d e := by
  unfold putK
  rw [valV_any, fkv_1, Option.isSome_some, if_pos rfl]
  simp only [fkv, List.map_cons, List.map_nil, if_neg n01, if_pos, if_neg (fun h => n12 (Eq.symm h)), if_neg (fun h => n13 (Eq.symm h))]
theorem fput_2 {a : V} {b d e x : Int} : putK (fkv a b d e) (Sum.inr "used") (.int x) = fkv a b x e := by
  unfold putK
  rw [valV_any, fkv_2, Option.isSome_some, if_pos rfl]
  simp only [fkv, List.map_cons, List.map_nil, if_neg n02, if_neg n12, if_pos, if_neg (fun h => n23 (Eq.symm h))]
theorem fput_3 {a : V} {b d e x : Int} : putK (fkv a b d e) (Sum.inr "draws") (.int x) = fkv a b d x := by
  unfold putK
  rw [valV_any, fkv_3, Option.isSome_some, if_pos rfl]
  simp only [fkv, List.map_cons, List.map_nil, if_neg n03, if_neg n13, if_neg n23, if_pos]
def Feed (K : PySem.W.Frag) (H : Hp) (fd cl : Addr) (n : Nat) : Prop := ∃ (ns : List Int) (b d e : Int), H fd = some (.dK (fkv (.ref cl) b d e)) ∧ H cl = some (.lst (ns.map V.int)) ∧ ns.length ≤ 63 ∧ 0 ≤ e ∧ e ≤ n
theorem Feed.same {K : PySem.W.Frag} {H H' : Hp} {fd cl : Addr} {n : Nat} (h : Feed K H fd cl n) (s : Same H H') : Feed K H' fd cl n := by
  obtain ⟨ns, b, d, e, h1, h2, h3⟩ := h
  exact ⟨ns, b, d, e, s _ _ h1, s _ _ h2, h3⟩
theorem Feed.up {K : PySem.W.Frag} {H : Hp} {fd cl : Addr} {n m : Nat} (h : Feed K H fd cl n) (g : n ≤ m) : Feed K H fd cl m := by
  obtain ⟨ns, b, d, e, h1, h2, h3, h4, h5⟩ := h
  exact ⟨ns, b, d, e, h1, h2, h3, h4, by omega⟩
theorem Feed.upd {K : PySem.W.Frag} {H : Hp} {fd cl l : Addr} {o : HO} {n : Nat} (h : Feed K H fd cl n) (n1 : l ≠ fd) (n2 : l ≠ cl) : Feed K (upd H l o) fd cl n := by
  obtain ⟨ns, b, d, e, h1, h2, h3⟩ := h
  exact ⟨ns, b, d, e, by rw [upd_ne (fun e => n1 e.symm)]; exact h1, by rw [upd_ne (fun e => n2 e.symm)]; exact h2, h3⟩
theorem kp_fd {H : Hp} {p : Addr} {kvs : List (Key × V)} {o' : HO} (h : H p = some (.dK kvs)) : Kp p H (upd H p o') := kp_upd h (fun _ e => nomatch e) fun _ _ e => nomatch e
/-- a def that draws: what it asks of its other arguments, what it may answer -/
def spD (w : Nat) (Pre : List PyData → Prop) (R : List PyData → PyData → Prop) (K : PySem.W.Frag) : Sp := fun vs H Q _ => ∃ fd cl rest ds n, vs = .ref fd :: rest ∧ Feed K H fd cl n ∧ n + w ≤ 1000000 ∧ DtAll K H rest ds ∧ Pre ds ∧
  ∀ d v H', R ds d → Kp fd H H' → Feed K H' fd cl (n + w) → Dt K H' v d → Q v H'
theorem spD_len {w : Nat} {Pre : List PyData → Prop} {R : List PyData → PyData → Prop} {K : PySem.W.Frag} {n : Nat} (hp : ∀ ds, Pre ds → ds.length = n) : ∀ vs H Q E, spD w Pre R K vs H Q E → vs.length = n + 1 := by
  rintro vs H Q E ⟨fd, cl, rest, ds, m, rfl, _, _, h, p, _⟩
  rw [List.length_cons, h.len, hp ds p]
end G

namespace G
open PySem PySem.Spec PyProof.Rows L2
structure Bl (M : Md) : Prop where
  len : M.mg "len" = none
  int : M.mg "int" = none
  max : M.mg "max" = none
  min : M.mg "min" = none
  range : M.mg "range" = none
  tuple : M.mg "tuple" = none
  list : M.mg "list" = none
  isinst : M.mg "isinstance" = none
  str : M.mg "str" = none
  bool : M.mg "bool" = none
  set : M.mg "set" = none
  dict : M.mg "dict" = none
  sorted : M.mg "sorted" = none
theorem dpInts {K : PySem.W.Frag} {H : Hp} : ∀ ns : List Int, DpAll K H (ns.map V.int) (ns.map PyData.int)
  | [] => .nil
  | n :: ns => .cons (.int n) (dpInts ns)
theorem shInts (ns : List Int) : SeqAt.shaped (.list (ns.map PyData.int)) = true := by
  have h : ∀ ns : List Int, PyData.canLayAll0 (ns.map PyData.int) = true ∧ PyData.depthAll (ns.map PyData.int) ≤ 1 := by
    intro ns
    induction ns with
    | nil => exact ⟨by simp [PyData.canLayAll0], by simp [PyData.depthAll]⟩
    | cons n ns ih => exact ⟨by simp [PyData.canLayAll0, PyData.canLay0, ih.1], by simp only [List.map_cons, PyData.depthAll, PyData.depth]; omega⟩
  show (PyData.canLay0 (.list _) && decide (PyData.depth (.list _) ≤ 64)) = true
  rw [Bool.and_eq_true]
  refine ⟨by simp only [PyData.canLay0]; exact (h ns).1, decide_eq_true ?_⟩
  simp only [PyData.depth]
  have := (h ns).2
  omega
theorem pl_at {α : Type} {xs : List α} {z : Int} {j : Nat} {v : α} (e : z = (j : Int)) (h : xs[j]? = some v) : atI xs z = some v := by
  rw [e]
  exact atI_nat h
end G

namespace G
open PySem PySem.Spec PyProof.Rows L2
/-! ### comprehensions -/
abbrev blkCd (c : Cd) (scope : Scope) : Cd := ⟨c.toMd, c.N, relS scope c.sc, c.k, false, c.g, none⟩
theorem is_blk {c : Cd} {X : Cx} (h : Is c X) {scope : Scope} (s : Shared) (H : Hp) (C : Addr) (cl : List (Str × Addr)) (fp : List Addr) : Is (blkCd c scope) (X.blk s H scope (compEnvC scope cl C X.env) fp) := by
  refine ⟨h.prog, h.w, h.K, h.mg, h.base, h.N, ?_, h.calm, h.room, (fun z => Bool.noConfusion z), PassesOwn.never, h.nd, h.gd, fun _ _ z => nomatch z⟩
  show relS scope X.env.scope = relS scope c.sc
  rw [h.sc]
section
variable {c : Cd} {σ : L2.St} {H : Hp} {Q : VK} {pos : Pos} {x y : V}
theorem ts_nil {Q : Bool → Hp → Prop} (q : Q true H) : RTs c [] σ H Q := rts_of (fun _ _ => pts_nil) q
theorem ts_one {Q : Bool → Hp → Prop} {e : Expr} (q : RT c e σ H Q) : RTs c [e] σ H Q := rts_of (fun _ h => pts_one (pt_rt h)) q
/-- what is asked of a comprehension's block -/
structure Blk (c : Cd) (scope : Scope) (own : List (Str × Nat)) : Prop where
  ok : BlkOk c.N c.sc scope own
theorem Blk.of {c : Cd} {scope : Scope} {own : List (Str × Nat)} {N : List Str} {sc : Scope} (h1 : c.N = N) (h2 : c.sc = sc) (h : blkC N sc scope own = true) : Blk c scope own := ⟨by rw [h1, h2]; exact blkOk_by h⟩
theorem e_lc {elt tg iter : Expr} {ifs : List Expr} {scope : Scope} {own : List (Str × Nat)} (ok : Blk c scope own)
    (q : tLc (RI c tg iter) (RG (blkCd c scope) tg) (RTs (blkCd c scope) ifs) (RE (blkCd c scope) elt) (own.map (·.2)) σ H Q) (hs : ∀ env x, foldedSetIterable iter env x = pure x := by intro _ _; rfl) : RE c (.ListComp elt [⟨tg, iter, ifs, 0⟩] scope pos) σ H Q :=
  re_of (fun X h => pe_lc h.calm (by rw [h.N]; exact h.nd) (pi_ri h) (by rw [h.N, h.sc]; exact ok.ok) (fun s H C cl fp => pg_rg (is_blk h s H C cl fp)) (fun s H C cl fp => pts_rts (is_blk h s H C cl fp)) (fun s H C cl fp => pe_re (is_blk h s H C cl fp)) (hs _)) q
theorem s_setLc {nx : L2.St → Hp → Prop} {rt : VK} {bk ct : L2.St → Hp → Prop} {i : Nat} {y : Str} {py : Pos} {elt tg iter : Expr} {ifs : List Expr} {scope : Scope} {own : List (Str × Nat)} {spos : Pos} (hA : At c.N i y) (ok : Blk c scope own)
    (q : tLc (RI c tg iter) (RG (blkCd c scope) tg) (RTs (blkCd c scope) ifs) (RE (blkCd c scope) elt) (own.map (·.2)) σ H fun v H1 => nx (σ.set i (some v)) H1)
    (hy : c.sc.names.lookup y = some .local := by rfl) (hl : (py.line == pos.line) = true := by rfl) (ha : (scope.names.any fun (n, k) => n == y && (k == .local || k == .cell)) = false := by rfl) (hf : c.sc.kind = .function := by rfl) (hs : ∀ env x, foldedSetIterable iter env x = pure x := by intro _ _; rfl) :
    RS c (.Assign [.Name y py] (.ListComp elt [⟨tg, iter, ifs, 0⟩] scope pos) spos) ⟨nx, rt, bk, ct⟩ σ H :=
  rs_of (c := c) (σ := σ) (H := H) (D := ⟨nx, rt, bk, ct⟩) (t := tAsg (tLc (RI c tg iter) (RG (blkCd c scope) tg) (RTs (blkCd c scope) ifs) (RE (blkCd c scope) elt) (own.map (fun p : Str × Nat => p.2))) (gName i)) (fun X h => ps_setLc h.calm (by rw [h.N]; exact h.nd) (by rw [h.N]; exact hA.get) (by rw [h.sc]; exact hy)
    (sw_true (by rw [h.sc]; exact hf) (by rw [h.sc]; exact hy) hl ha) (pi_ri h) (by rw [h.N, h.sc]; exact ok.ok) (fun s H C cl fp => pg_rg (is_blk h s H C cl fp)) (fun s H C cl fp => pts_rts (is_blk h s H C cl fp)) (fun s H C cl fp => pe_re (is_blk h s H C cl fp)) (hs _)) q

/-- a turn of a comprehension, with a word Pv: what the turn, the collected values and the heap are -/
def Turn1 (cB : Cd) (tg : Expr) (ifs : List Expr) (elt : Expr) (vs : List Nat) (σ : L2.St) (D : Addr) (x : V) (H' : Hp) (acc : List V) (Nx : List V → Hp → Prop) : Prop :=
  RG cB tg x (wipe σ vs) H' fun σ2 H2 => wipe σ2 vs = wipe σ vs ∧ RTs cB ifs σ2 H2 fun b H3 => if b = true then RE cB elt σ2 H3 fun y H4 => H4 D = some (.lst acc) ∧ Nx (acc ++ [y]) (upd H4 D (.lst (acc ++ [y]))) else Nx acc H3
section
variable {elt tg iter : Expr} {ifs : List Expr} {scope : Scope} {vs : List Nat}
/-- over a tuple -/
theorem lc_T (q : RE c iter σ H fun x H1 => ∃ a xs, x = .ref a ∧ SqT c.K H1 a xs ∧ xs.length ≤ 1000 ∧ ∀ D, H1 D = none → ∃ Pv : Nat → List V → Hp → Prop, Pv 0 [] (upd H1 D (.lst [])) ∧ (∀ i acc H', i ≤ xs.length → Pv i acc H' → SqT c.K H' a xs ∧ acc.length ≤ i) ∧
      (∀ i x acc H', xs[i]? = some x → Pv i acc H' → Turn1 (blkCd c scope) tg ifs elt vs σ D x H' acc (Pv (i + 1))) ∧ ∀ acc H', Pv xs.length acc H' → Q (.ref D) H') :
    tLc (RI c tg iter) (RG (blkCd c scope) tg) (RTs (blkCd c scope) ifs) (RE (blkCd c scope) elt) vs σ H Q := by
  refine i_tup (RE.mono (fun x H1 z => ?_) q)
  obtain ⟨a, xs, rfl, ht, hl, z⟩ := z
  refine ⟨a, rfl, ⟨xs, ht⟩, fun D hD => ?_⟩
  obtain ⟨Pv, p0, pk, pt, pe⟩ := z D hD
  refine lc_tup (xs := xs) (fun i H' => ∃ acc, Pv i acc H') ⟨_, p0⟩ (fun i H' hi ⟨acc, p⟩ => (pk i acc H' hi p).1) (fun i x H' hx ⟨acc, p⟩ => ?_) fun H' ⟨acc, p⟩ => pe acc H' p
  have hi : i < xs.length := (List.getElem?_eq_some_iff.mp hx).1
  have la := (pk i acc H' (Nat.le_of_lt hi) p).2
  refine RG.mono (fun σ2 H2 z => ?_) (pt i x acc H' hx p)
  refine ⟨z.1, RTs.mono (fun b H3 z => ?_) z.2⟩
  cases b with
  | true => exact RE.mono (fun y H4 z => ⟨acc, z.1, Nat.lt_of_le_of_lt la (Nat.lt_of_lt_of_le hi (Nat.le_trans hl (by decide))), _, z.2⟩) z
  | false => exact ⟨_, z⟩
/-- over a list -/
theorem lc_L (q : RE c iter σ H fun x H1 => ∃ a xs, x = .ref a ∧ SqL c.K H1 a xs ∧ xs.length ≤ 1000 ∧ ∀ D, H1 D = none → ∃ Pv : Nat → List V → Hp → Prop, Pv 0 [] (upd H1 D (.lst [])) ∧ (∀ i acc H', i ≤ xs.length → Pv i acc H' → SqL c.K H' a xs ∧ acc.length ≤ i) ∧
      (∀ i x acc H', xs[i]? = some x → Pv i acc H' → Turn1 (blkCd c scope) tg ifs elt vs σ D x H' acc (Pv (i + 1))) ∧ ∀ acc H', Pv xs.length acc H' → Q (.ref D) H') :
    tLc (RI c tg iter) (RG (blkCd c scope) tg) (RTs (blkCd c scope) ifs) (RE (blkCd c scope) elt) vs σ H Q := by
  refine i_list (RE.mono (fun x H1 z => ?_) q)
  obtain ⟨a, xs, rfl, ht, hl, z⟩ := z
  refine ⟨a, rfl, ⟨xs, ht⟩, fun D hD => ?_⟩
  obtain ⟨Pv, p0, pk, pt, pe⟩ := z D hD
  refine lc_list (xs := xs) (fun i H' => ∃ acc, Pv i acc H') ⟨_, p0⟩ (fun i H' hi ⟨acc, p⟩ => (pk i acc H' hi p).1) (fun i x H' hx ⟨acc, p⟩ => ?_) fun H' ⟨acc, p⟩ => pe acc H' p
  have hi : i < xs.length := (List.getElem?_eq_some_iff.mp hx).1
  have la := (pk i acc H' (Nat.le_of_lt hi) p).2
  refine RG.mono (fun σ2 H2 z => ?_) (pt i x acc H' hx p)
  refine ⟨z.1, RTs.mono (fun b H3 z => ?_) z.2⟩
  cases b with
  | true => exact RE.mono (fun y H4 z => ⟨acc, z.1, Nat.lt_of_le_of_lt la (Nat.lt_of_lt_of_le hi (Nat.le_trans hl (by decide))), _, z.2⟩) z
  | false => exact ⟨_, z⟩
/-- over range(a, b) -/
theorem lc_R2 {a b : Expr} {p ppos : Pos} (hm : c.mg "range" = none) (q : RE c a σ H fun x H1 => RE c b σ H1 fun y H2 => ∃ i j : Int, x = .int i ∧ y = .int j ∧ (-1000 ≤ i ∧ i ≤ 1000) ∧ (-1000 ≤ j ∧ j ≤ 1000) ∧ ∀ D, H2 D = none → ∃ Pv : Nat → List V → Hp → Prop, Pv 0 [] (upd H2 D (.lst [])) ∧ (∀ t acc H', Pv t acc H' → acc.length ≤ t) ∧
      (∀ t acc H', t < (j - i).toNat → Pv t acc H' → Turn1 (blkCd c scope) tg ifs elt vs σ D (.int (i + t)) H' acc (Pv (t + 1))) ∧ ∀ acc H', Pv (j - i).toNat acc H' → Q (.ref D) H')
    (hg : c.sc.names.lookup ("range" : Str) = some .globalImplicit := by rfl) (hs : ∀ env, starEach [a, b] env = [(false, eval a env), (false, eval b env)] := by intro _; rfl) (hs2 : ∀ env, starEach [b] env = [(false, eval b env)] := by intro _; rfl) :
    tLc (RI c tg (.Call (.Name "range" p) [a, b] [] ppos)) (RG (blkCd c scope) tg) (RTs (blkCd c scope) ifs) (RE (blkCd c scope) elt) vs σ H Q := by
  refine i_range2 hm (a_cons (RE.mono (fun x H1 z => a_cons (RE.mono (fun y H2 z => a_nil ?_) z) (fun env => by rw [hs2]; rfl)) q) (fun env => by rw [hs, hs2])) hg hs hs2
  obtain ⟨i, j, rfl, rfl, h1, h2, z⟩ := z
  refine ⟨i, j, rfl, ⟨by omega, by omega, by omega, by omega⟩, fun D hD => ?_⟩
  obtain ⟨Pv, p0, pk, pt, pe⟩ := z D hD
  refine lc_range (lo := i) (n := (j - i).toNat) (fun t H' => ∃ acc, Pv t acc H') ⟨_, p0⟩ (fun t H' ht ⟨acc, p⟩ => ?_) fun H' ⟨acc, p⟩ => pe acc H' p
  have la := pk t acc H' p
  refine RG.mono (fun σ2 H2 z => ?_) (pt t acc H' ht p)
  refine ⟨z.1, RTs.mono (fun b H3 z => ?_) z.2⟩
  cases b with
  | true => exact RE.mono (fun y H4 z => ⟨acc, z.1, Nat.lt_of_le_of_lt la (Nat.lt_of_lt_of_le ht (Nat.le_trans (show (j - i).toNat ≤ 2000 by omega) (by decide))), _, z.2⟩) z
  | false => exact ⟨_, z⟩
/-- over range(n) -/
theorem lc_R1 {a : Expr} {p ppos : Pos} (hm : c.mg "range" = none) (q : RE c a σ H fun y H2 => ∃ j : Int, y = .int j ∧ (-1000 ≤ j ∧ j ≤ 1000) ∧ ∀ D, H2 D = none → ∃ Pv : Nat → List V → Hp → Prop, Pv 0 [] (upd H2 D (.lst [])) ∧ (∀ t acc H', Pv t acc H' → acc.length ≤ t) ∧
      (∀ t acc H', t < j.toNat → Pv t acc H' → Turn1 (blkCd c scope) tg ifs elt vs σ D (.int t) H' acc (Pv (t + 1))) ∧ ∀ acc H', Pv j.toNat acc H' → Q (.ref D) H')
    (hg : c.sc.names.lookup ("range" : Str) = some .globalImplicit := by rfl) (hs : ∀ env, starEach [a] env = [(false, eval a env)] := by intro _; rfl) :
    tLc (RI c tg (.Call (.Name "range" p) [a] [] ppos)) (RG (blkCd c scope) tg) (RTs (blkCd c scope) ifs) (RE (blkCd c scope) elt) vs σ H Q := by
  refine i_range1 hm (a_cons (RE.mono (fun x H1 z => a_nil ?_) q) (fun env => by rw [hs]; rfl)) hg hs
  obtain ⟨j, rfl, h2, z⟩ := z
  refine ⟨j, rfl, by omega, by omega, fun D hD => ?_⟩
  obtain ⟨Pv, p0, pk, pt, pe⟩ := z D hD
  refine lc_range (lo := 0) (n := j.toNat) (fun t H' => ∃ acc, Pv t acc H') ⟨_, p0⟩ (fun t H' ht ⟨acc, p⟩ => ?_) fun H' ⟨acc, p⟩ => pe acc H' p
  have la := pk t acc H' p
  rw [Int.zero_add]
  refine RG.mono (fun σ2 H2 z => ?_) (pt t acc H' ht p)
  refine ⟨z.1, RTs.mono (fun b H3 z => ?_) z.2⟩
  cases b with
  | true => exact RE.mono (fun y H4 z => ⟨acc, z.1, Nat.lt_of_le_of_lt la (Nat.lt_of_lt_of_le ht (Nat.le_trans (show j.toNat ≤ 1000 by omega) (by decide))), _, z.2⟩) z
  | false => exact ⟨_, z⟩
/-- over a text's signs -/
theorem lc_S (q : RE c iter σ H fun x H1 => ∃ z : Str, x = .str z ∧ z.cps.size ≤ 1000 ∧ ∀ D, H1 D = none → ∃ Pv : Nat → List V → Hp → Prop, Pv 0 [] (upd H1 D (.lst [])) ∧ (∀ i acc H', Pv i acc H' → acc.length ≤ i) ∧
      (∀ i ch acc H', i < z.cps.size → Pv i acc H' → Turn1 (blkCd c scope) tg ifs elt vs σ D (.str ⟨#[ch]⟩) H' acc (Pv (i + 1))) ∧ ∀ acc H', Pv z.cps.size acc H' → Q (.ref D) H') :
    tLc (RI c tg iter) (RG (blkCd c scope) tg) (RTs (blkCd c scope) ifs) (RE (blkCd c scope) elt) vs σ H Q := by
  refine ri_of (t := iStr (RE c iter)) (fun X h => pi_str (pe_re h)) (RE.mono (fun x H1 z => ?_) q)
  obtain ⟨z, rfl, hl, w⟩ := z
  refine ⟨z, rfl, fun D hD => ?_⟩
  obtain ⟨Pv, p0, pk, pt, pe⟩ := w D hD
  refine ⟨fun i m H' => m = z.cps.size - i ∧ i ≤ z.cps.size ∧ ∃ acc, Pv i acc H', ⟨z.cps.size, by simp, Nat.zero_le _, _, p0⟩, ?_⟩
  rintro i m H' ⟨rfl, hi, acc, p⟩
  by_cases hlt : i < z.cps.size
  · refine .inr ⟨hlt, fun H' => ∃ acc, Pv (i + 1) acc H', fun H' p' => ⟨z.cps.size - (i + 1), by omega, rfl, hlt, p'⟩, fun x H2 yy => ?_⟩
    obtain ⟨e, ch, hc, rfl⟩ := yy
    subst e
    have la := pk i acc _ p
    refine RG.mono (fun σ2 H2 z => ?_) (pt i ch acc _ hlt p)
    refine ⟨z.1, RTs.mono (fun b H3 z => ?_) z.2⟩
    cases b with
    | true => exact RE.mono (fun y H4 z => ⟨acc, z.1, Nat.lt_of_le_of_lt la (Nat.lt_of_lt_of_le hlt (Nat.le_trans hl (by decide))), _, z.2⟩) z
    | false => exact ⟨_, z⟩
  · have e : i = z.cps.size := by omega
    subst e
    exact .inl ⟨Nat.le_refl _, pe acc H' p⟩
end
end

/-! ### comprehensions that change nothing: a function on data -/
section
variable {c : Cd} {σ : L2.St} {H : Hp} {Q : VK} {pos : Pos} {x y : V} {elt tg iter : Expr} {ifs : List Expr} {scope : Scope} {vs : List Nat}
/-- the pure turn -/
def TurnF (cB : Cd) (tg : Expr) (ifs : List Expr) (elt : Expr) (vs : List Nat) (σ : L2.St) (K : PySem.W.Frag) (x : V) (H' : Hp) (o : Option PyData) : Prop :=
  RG cB tg x (wipe σ vs) H' fun σ2 H2 => H2 = H' ∧ wipe σ2 vs = wipe σ vs ∧ RTs cB ifs σ2 H2 fun b H3 => Same H' H3 ∧ if b = true then RE cB elt σ2 H3 fun y H4 => Same H3 H4 ∧ ∃ e, o = some e ∧ Dt K H4 y e else o = none
theorem TurnF.one {cB : Cd} {σ : L2.St} {K : PySem.W.Frag} {x : V} {H1 H' : Hp} {o : Option PyData} {D : Addr} {acc : List V} {es : List PyData} (hD : H1 D = none) (s : Same H1 H') (ha : H' D = some (.lst acc)) (hd : DtAll K H' acc es) (t : TurnF cB tg ifs elt vs σ K x H' o) :
    Turn1 cB tg ifs elt vs σ D x H' acc fun acc' H2 => H2 D = some (.lst acc') ∧ Same H1 H2 ∧ DtAll K H2 acc' (es ++ o.toList) := by
  refine RG.mono (fun σ2 H2 z => ?_) t
  obtain ⟨rfl, z1, z2⟩ := z
  refine ⟨z1, RTs.mono (fun b H3 z => ?_) z2⟩
  obtain ⟨s3, z⟩ := z
  cases b with
  | true =>
    refine RE.mono (fun y H4 z => ?_) z
    obtain ⟨s4, e, rfl, he⟩ := z
    have aD := s4 _ _ (s3 _ _ ha)
    have k := kp_upd (o' := .lst (acc ++ [y])) aD (fun _ e => nomatch e) (fun _ _ e => nomatch e)
    exact ⟨aD, upd_same, same_mut (s.trans (s3.trans s4)) hD, ((hd.mono (tp_same (s3.trans s4))).mono k.t).app (.cons (he.mono k.t) .nil)⟩
  | false =>
    have z : o = none := z
    subst z
    exact ⟨s3 _ _ ha, s.trans s3, by rw [Option.toList_none, List.append_nil]; exact hd.mono (tp_same s3)⟩
theorem outs_step {g : PyData → Option PyData} {ds : List PyData} {i : Nat} {d : PyData} (h : ds[i]? = some d) : (ds.take i).filterMap g ++ (g d).toList = (ds.take (i + 1)).filterMap g := by
  obtain ⟨h1, rfl⟩ := List.getElem?_eq_some_iff.mp h
  rw [List.take_succ_eq_append_getElem h1, List.filterMap_append]
  congr 1
theorem lcT_F (g : PyData → Option PyData) (q : RE c iter σ H fun x H1 => ∃ ds, Dt c.K H1 x (.tuple ds) ∧ ds.length ≤ 1000 ∧ (∀ d x H', d ∈ ds → Same H1 H' → Dt c.K H' x d → TurnF (blkCd c scope) tg ifs elt vs σ c.K x H' (g d)) ∧
      ∀ p us H2, Same H1 H2 → H1 p = none → H2 p = some (.lst us) → DtAll c.K H2 us (ds.filterMap g) → Q (.ref p) H2) :
    tLc (RI c tg iter) (RG (blkCd c scope) tg) (RTs (blkCd c scope) ifs) (RE (blkCd c scope) elt) vs σ H Q := by
  refine lc_T (RE.mono (fun x H1 z => ?_) q)
  obtain ⟨ds, hx, hl, t, k⟩ := z
  obtain ⟨a, xs, rfl, ht, ha⟩ := hx.tupE
  have hle := ha.len
  refine ⟨a, xs, rfl, ht, by omega, fun D hD => ⟨fun i acc H' => acc.length ≤ i ∧ H' D = some (.lst acc) ∧ Same H1 H' ∧ DtAll c.K H' acc ((ds.take i).filterMap g), ⟨Nat.le_refl _, upd_same, same_new hD, .nil⟩, ?_, ?_, ?_⟩⟩
  · rintro i acc H' _ ⟨l, _, s, _⟩
    exact ⟨(tp_same s).sqt ht, l⟩
  · rintro i x acc H' hx ⟨l, h1, s, h2⟩
    obtain ⟨d, hd, hx'⟩ := ha.getV hx
    have T := TurnF.one hD s h1 h2 (t d x H' (List.mem_of_getElem? hd) s (hx'.mono (tp_same s)))
    refine RG.mono (fun σ2 H2 z => ⟨z.1, RTs.mono (fun b H3 z => ?_) z.2⟩) T
    cases b with
    | true => exact RE.mono (fun y H4 z => ⟨z.1, by rw [List.length_append, List.length_singleton]; omega, z.2.1, z.2.2.1, by rw [← outs_step hd]; exact z.2.2.2⟩) z
    | false => exact ⟨by omega, z.1, z.2.1, by rw [← outs_step hd]; exact z.2.2⟩
  · rintro acc H' ⟨l, h1, s, h2⟩
    refine k D acc H' s hD h1 ?_
    rw [hle, List.take_length] at h2
    exact h2
theorem lcL_F (g : PyData → Option PyData) (q : RE c iter σ H fun x H1 => ∃ a xs ds, x = .ref a ∧ SqL c.K H1 a xs ∧ DtAll c.K H1 xs ds ∧ ds.length ≤ 1000 ∧ (∀ d x H', d ∈ ds → Same H1 H' → Dt c.K H' x d → TurnF (blkCd c scope) tg ifs elt vs σ c.K x H' (g d)) ∧
      ∀ p us H2, Same H1 H2 → H1 p = none → H2 p = some (.lst us) → DtAll c.K H2 us (ds.filterMap g) → Q (.ref p) H2) :
    tLc (RI c tg iter) (RG (blkCd c scope) tg) (RTs (blkCd c scope) ifs) (RE (blkCd c scope) elt) vs σ H Q := by
  refine lc_L (RE.mono (fun x H1 z => ?_) q)
  obtain ⟨a, xs, ds, rfl, ht, ha, hl, t, k⟩ := z
  have hle := ha.len
  refine ⟨a, xs, rfl, ht, by omega, fun D hD => ⟨fun i acc H' => acc.length ≤ i ∧ H' D = some (.lst acc) ∧ Same H1 H' ∧ DtAll c.K H' acc ((ds.take i).filterMap g), ⟨Nat.le_refl _, upd_same, same_new hD, .nil⟩, ?_, ?_, ?_⟩⟩
  · rintro i acc H' _ ⟨l, _, s, _⟩
    exact ⟨s.seq ht, l⟩
  · rintro i x acc H' hx ⟨l, h1, s, h2⟩
    obtain ⟨d, hd, hx'⟩ := ha.getV hx
    have T := TurnF.one hD s h1 h2 (t d x H' (List.mem_of_getElem? hd) s (hx'.mono (tp_same s)))
    refine RG.mono (fun σ2 H2 z => ⟨z.1, RTs.mono (fun b H3 z => ?_) z.2⟩) T
    cases b with
    | true => exact RE.mono (fun y H4 z => ⟨z.1, by rw [List.length_append, List.length_singleton]; omega, z.2.1, z.2.2.1, by rw [← outs_step hd]; exact z.2.2.2⟩) z
    | false => exact ⟨by omega, z.1, z.2.1, by rw [← outs_step hd]; exact z.2.2⟩
  · rintro acc H' ⟨l, h1, s, h2⟩
    refine k D acc H' s hD h1 ?_
    rw [hle, List.take_length] at h2
    exact h2

/-! ### lists that grow -/
theorem e_app {o e : Expr} {apos : Pos} (q : RE c o σ H fun x H1 => ∃ l zs, x = .ref l ∧ H1 l = some (.lst zs) ∧ RE c e σ H1 fun y H2 => ∃ ys, H2 l = some (.lst ys) ∧ ys.length < 100000 ∧ Q .non (upd H2 l (.lst (ys ++ [y]))))
    (hbase : ∀ env, attributeBase o "append" env (eval o env) = eval o env := by intro _; rfl)
    (hfew : ∀ env, ((backTo pos (starEach [e] env)).all (fun x => !x.1) && (backToKw pos (keywordEach [] env)).all (fun x => x.1.isSome)
      && decide (([e] : List Expr).length + ([] : List Keyword).length + (if ([] : List Keyword).isEmpty then 0 else 1) < 30)) = true := by intro _; rfl)
    (hline : (apos.endLine == pos.line) = true := by rfl) (hs : ∀ env, starEach [e] env = (false, eval e env) :: starEach [] env := by intro _; rfl) (hplain : ∀ env, (backTo pos (starEach [] env)).any (·.1) = false := by intro _; rfl) :
    RE c (.Call (.Attribute o "append" apos) [e] [] pos) σ H Q := by
  refine e_bm PySem.F.plainAttrs_list PySem.F.slot_list_append PySem.F.type_list_append (RE.mono (fun x H1 z => ?_) q) hbase hfew hline hs hplain
  obtain ⟨l, zs, rfl, hl, z⟩ := z
  refine ⟨Or.inl ⟨rfl, _, Or.inl (Or.inl hl)⟩, a_cons (RE.mono (fun y H2 z => a_nil ?_) z) hs⟩
  obtain ⟨ys, hl, hz, z⟩ := z
  exact rm_of (fun X h => mt_append) ⟨l, ys, y, rfl, rfl, hl, Nat.lt_of_lt_of_le hz (by decide), z⟩
theorem e_ext {o e : Expr} {apos : Pos} (q : RE c o σ H fun x H1 => ∃ l zs, x = .ref l ∧ H1 l = some (.lst zs) ∧ RE c e σ H1 fun y H2 => ∃ b ys ws, y = .ref b ∧ H2 l = some (.lst ys) ∧ H2 b = some (.lst ws) ∧ ys.length + ws.length ≤ 100000 ∧ Q .non (upd H2 l (.lst (ys ++ ws))))
    (hbase : ∀ env, attributeBase o "extend" env (eval o env) = eval o env := by intro _; rfl)
    (hfew : ∀ env, ((backTo pos (starEach [e] env)).all (fun x => !x.1) && (backToKw pos (keywordEach [] env)).all (fun x => x.1.isSome)
      && decide (([e] : List Expr).length + ([] : List Keyword).length + (if ([] : List Keyword).isEmpty then 0 else 1) < 30)) = true := by intro _; rfl)
    (hline : (apos.endLine == pos.line) = true := by rfl) (hs : ∀ env, starEach [e] env = (false, eval e env) :: starEach [] env := by intro _; rfl) (hplain : ∀ env, (backTo pos (starEach [] env)).any (·.1) = false := by intro _; rfl) :
    RE c (.Call (.Attribute o "extend" apos) [e] [] pos) σ H Q := by
  refine e_bm PySem.F.plainAttrs_list PySem.F.slot_list_extend PySem.F.type_list_extend (RE.mono (fun x H1 z => ?_) q) hbase hfew hline hs hplain
  obtain ⟨l, zs, rfl, hl, z⟩ := z
  refine ⟨Or.inl ⟨rfl, _, Or.inl (Or.inl hl)⟩, a_cons (RE.mono (fun y H2 z => a_nil ?_) z) hs⟩
  obtain ⟨b, ys, ws, rfl, hl, hb, hz, z⟩ := z
  exact rm_of (fun X h => mt_extend) ⟨l, b, ys, ws, rfl, rfl, hl, hb, Nat.le_trans hz (by decide), z⟩
theorem tupend {K : PySem.W.Frag} {H1 : Hp} {xs : List V} {ds : List PyData} {Q : VK} (h : DtAll K H1 xs ds) (hl : xs.length ≤ 1000) (q : ∀ v H2, Same H1 H2 → Dt K H2 v (.tuple ds) → Q v H2) : ∃ ds, DtAll K H1 xs ds ∧ xs.length ≤ 1000 ∧ ∀ v H2, Same H1 H2 → Dt K H2 v (.tuple ds) → Q v H2 := ⟨ds, h, hl, q⟩
/-- [a, b, ..] -/
theorem e_lstD {es : List Expr} (q : RA c es σ H fun xs H1 => xs.length ≤ 1000 ∧ ∀ p H2, Same H1 H2 → H1 p = none → H2 p = some (.lst xs) → Q (.ref p) H2) : RE c (.List es pos) σ H Q :=
  e_lst (RA.mono (fun xs H1 z => ⟨Nat.le_trans z.1 (by decide), fun p hp => z.2 p _ (same_new hp) hp upd_same⟩) q)
/-- tuple(xs) of a list -/
theorem rc_tupL {p : Addr} {ys : List V} {ds : List PyData} (hl : SqL c.K H p ys) (hd : DtAll c.K H ys ds) (q : ∀ v H2, Same H H2 → Dt c.K H2 v (.tuple ds) → Q v H2) : RC c (.type "tuple") [.ref p] H Q :=
  rc_of (r := fun xs H Q => ∃ p ys, xs = [.ref p] ∧ ((SqL c.K H p ys ∧ ∀ l, H l = none → Q (.ref l) (upd H l (.tup ys))) ∨ (SqT c.K H p ys ∧ Q (.ref p) H))) (fun X h => by rw [← h.K]; exact call_tuple_of) ⟨p, ys, rfl, .inl ⟨hl, fun l hn => q _ _ (same_new hn) (.tup (.of upd_same) (hd.mono (tp_same (same_new hn))))⟩⟩
/-- list(xs) -/
theorem rc_lstL {p : Addr} {ys : List V} (hl : SqL c.K H p ys) (q : ∀ l H2, Same H H2 → H l = none → H2 l = some (.lst ys) → Q (.ref l) H2) : RC c (.type "list") [.ref p] H Q :=
  rc_of (r := fun xs H Q => ∃ p ys, xs = [.ref p] ∧ (SqL c.K H p ys ∨ SqT c.K H p ys) ∧ ∀ l, H l = none → Q (.ref l) (upd H l (.lst ys))) (fun X h => by rw [← h.K]; exact call_list_of) ⟨p, ys, rfl, .inl hl, fun l hn => q _ _ (same_new hn) hn upd_same⟩
theorem rc_lstT {ds : List PyData} (hx : Dt c.K H x (.tuple ds)) (q : ∀ l ys H2, Same H H2 → H l = none → H2 l = some (.lst ys) → DtAll c.K H2 ys ds → Q (.ref l) H2) : RC c (.type "list") [x] H Q := by
  obtain ⟨a, ys, rfl, ht, hd⟩ := hx.tupE
  exact rc_of (r := fun xs H Q => ∃ p ys, xs = [.ref p] ∧ (SqL c.K H p ys ∨ SqT c.K H p ys) ∧ ∀ l, H l = none → Q (.ref l) (upd H l (.lst ys))) (fun X h => by rw [← h.K]; exact call_list_of) ⟨a, ys, rfl, .inr ht, fun l hn => q _ _ _ (same_new hn) hn upd_same (hd.mono (tp_same (same_new hn)))⟩
end
end G
namespace G
open PySem PySem.Spec PyProof.Rows L2
/-! ### xs[lo:hi:step] of a list: some of its items -/
theorem picked_vals {xs : List V} {its : List Value} (r : Vals xs its) : ∀ ix : List Nat, ∃ ys : List V, Vals ys (ix.filterMap (its.toArray[·]?)) ∧ ∀ y ∈ ys, y ∈ xs
  | [] => ⟨[], .nil, fun _ h => nomatch h⟩
  | i :: ix => by
    obtain ⟨ys, h1, h2⟩ := picked_vals r ix
    cases e : its.toArray[i]? with
    | none => exact ⟨ys, by rw [List.filterMap_cons, e]; exact h1, h2⟩
    | some u =>
      have e' : its[i]? = some u := by simpa using e
      cases ex : xs[i]? with
      | none =>
        have := r.none_of ex
        rw [e'] at this
        cases this
      | some x =>
        obtain ⟨u', hu, ru⟩ := r.get ex
        rw [e'] at hu
        cases hu
        refine ⟨x :: ys, by rw [List.filterMap_cons, e]; exact .cons ru h1, fun y hy => ?_⟩
        rcases List.mem_cons.mp hy with rfl | hy
        · exact List.mem_of_getElem? ex
        · exact h2 y hy
def tSlS (K : PySem.W.Frag) (te : TE) (tl th ts : TO) : TE := fun σ H Q => te σ H fun x H1 => tl σ H1 fun l H2 => th σ H2 fun u H3 => ts σ H3 fun st H4 => ∃ a xs, x = .ref a ∧ SqL K H4 a xs ∧ st ≠ some 0 ∧
  ∀ p ys, H4 p = none → (∀ y ∈ ys, y ∈ xs) → ys.length ≤ xs.length → Q (.ref p) (upd H4 p (.lst ys))
theorem pe_sliceS {X : Cx} {e st : Expr} {lo hi : Option Expr} {p2 pos : Pos} {te : TE} {tl th ts : TO} (he : PE X e te) (hl : PO X lo tl) (hu : PO X hi th) (hst : PO X (some st) ts) : PE X (.Subscript e (.Slice lo hi (some st) p2) pos) (tSlS X.K te tl th ts) := by
  constructor
  intro pins s σ H Q I h
  apply Subscript_ (thn (he.run pins s σ H _ I h) _)
  rintro v s1 ⟨x, H1, I1, r1, q1⟩
  refine wpAny_Slice (thn (hl.run pins s1 σ H1 _ I1 q1) fun vl s2 ⟨l, H2, I2, pl, q2⟩ => thn (hu.run pins s2 σ H2 _ I2 q2) fun vu s3 ⟨u, H3, I3, pu, q3⟩ => thn (hst.run pins s3 σ H3 _ I3 q3) fun vs s4 ⟨sv, H4, I4, ps, q4⟩ => ?_)
  obtain ⟨a, xs, rfl, hx, h0, q⟩ := q4
  cases r1
  have J5 : Inv X pins σ H4 { s4 with heap := s4.heap.push { cls := .type "slice", data := .fields #[vl, vu, vs] } } := I4.kept (t' := s4.toks) fun b ob q => Heap.get?_push_of_some _ q
  obtain ⟨its, r, ht, hz⟩ := (J5.list hx)
  have hlen := r.length
  show wpAny (model X.prog X.w) X.A (subscriptTail e (.Slice lo hi (some st) p2) (.ref a) (.ref s4.heap.objs.size)) (EP X pins σ Q) X.xe { s4 with heap := s4.heap.push { cls := .type "slice", data := .fields #[vl, vu, vs] } }
  refine tail_any (ops := [.ref a, .ref s4.heap.objs.size]) (id := "list.__getitem__") ht.isList.typeIs slot_list_getitem.lookup ?_ (by with_unfolding_all rfl)
  refine wpAny_getItem_list_slice ht.isList (Heap.IsSliceOf.new ..) pl pu ps h0 ?_ (by rw [List.size_toArray] <;> omega)
  obtain ⟨ys, y1, y2⟩ := picked_vals r (sliceRange (sliceBounds l u sv its.toArray.size).1 (sliceBounds l u sv its.toArray.size).2.1 (sliceBounds l u sv its.toArray.size).2.2)
  have y3 : ys.length ≤ xs.length := by
    rw [y1.length, hlen]
    have := slicePick_size_le its.toArray l u sv
    unfold slicePick at this
    rw [List.size_toArray, List.size_toArray] at this
    exact this
  refine ⟨.ref _, _, J5.laid (t' := s4.toks) (o := .lst ys) (fun b ob q => Heap.get?_push_of_some _ q) (Nat.le_refl _) ?_, rfl, q _ ys (J5.hok.fresh (Nat.le_refl _)) y2 y3⟩
  exact ⟨Nat.le_trans y3 hz, _, 0, y1, Heap.get?_push_size _ rfl⟩
section
variable {c : Cd} {σ : L2.St} {H : Hp} {Q : VK} {pos : Pos} {x y : V}
theorem e_sliceS {e st : Expr} {lo hi : Option Expr} {p2 : Pos} (q : RE c e σ H fun x H1 => RPo c lo σ H1 fun l H2 => RPo c hi σ H2 fun u H3 => RPo c (some st) σ H3 fun sv H4 => ∃ a xs, x = .ref a ∧ SqL c.K H4 a xs ∧ sv ≠ some 0 ∧
    ∀ p ys H5, Same H4 H5 → H4 p = none → H5 p = some (.lst ys) → (∀ y ∈ ys, y ∈ xs) → ys.length ≤ xs.length → Q (.ref p) H5) : RE c (.Subscript e (.Slice lo hi (some st) p2) pos) σ H Q := by
  refine re_of (t := tSlS c.K (RE c e) (RPo c lo) (RPo c hi) (RPo c (some st))) (fun X h => by rw [← h.K]; exact pe_sliceS (pe_re h) (po_rp h) (po_rp h) (po_rp h)) ?_
  refine RE.mono (fun x H1 z => ?_) q
  obtain ⟨⟨t1, Q1, h1, q1, w1⟩⟩ := z
  refine ⟨⟨t1, Q1, h1, q1, fun l H2 z => ?_⟩⟩
  obtain ⟨⟨t2, Q2, h2, q2, w2⟩⟩ := w1 _ _ z
  refine ⟨⟨t2, Q2, h2, q2, fun u H3 z => ?_⟩⟩
  obtain ⟨⟨t3, Q3, h3, q3, w3⟩⟩ := w2 _ _ z
  refine ⟨⟨t3, Q3, h3, q3, fun sv H4 z => ?_⟩⟩
  obtain ⟨a, xs, e1, e2, e3, k⟩ := w3 _ _ z
  exact ⟨a, xs, e1, e2, e3, fun p ys hp m l => k p ys _ (same_new hp) hp upd_same m l⟩
theorem rsl_list {a : Addr} {xs : List V} {lo hi : Option Int} (hx : SqL c.K H a xs) (q : ∀ p H2, Same H H2 → H p = none → H2 p = some (.lst (cutV xs lo hi)) → Q (.ref p) H2) : RSl c (.ref a) lo hi H Q :=
  rsl_of (r := rSlL c.K) (fun X h => by rw [← h.K]; exact sl_list) ⟨a, xs, rfl, hx, fun p hp => q _ _ (same_new hp) hp upd_same⟩
/-- xs + ys of lists -/
theorem ro_cat {a b : Addr} {xs ys : List V} (h1 : H a = some (.lst xs)) (h2 : H b = some (.lst ys)) (hl : xs.length + ys.length ≤ 100000) (q : ∀ p H2, Same H H2 → H p = none → H2 p = some (.lst (xs ++ ys)) → Q (.ref p) H2) : RO c .Add (.ref a) (.ref b) H Q :=
  ro_of (fun X h => op_cat) ⟨a, b, xs, ys, rfl, rfl, h1, h2, Nat.le_trans hl (by decide), fun p hp => q _ _ (same_new hp) hp upd_same⟩
/-- xs * n of a list -/
theorem ro_rep {a : Addr} {xs : List V} {k : Int} (h1 : H a = some (.lst xs)) (h2 : -1000 ≤ k ∧ k ≤ 1000) (hl : xs.length ≤ 1000) (q : ∀ p H2, Same H H2 → H p = none → H2 p = some (.lst (List.replicate k.toNat xs).flatten) → Q (.ref p) H2) : RO c .Mult (.ref a) (.int k) H Q := by
  refine ro_of (fun X h => op_rep) ⟨a, k, xs, rfl, rfl, h1, by omega, by omega, ?_, fun p hp => q _ _ (same_new hp) hp upd_same⟩
  have : xs.length * k.toNat ≤ 1000 * 1000 := Nat.mul_le_mul hl (by omega)
  exact Nat.le_trans this (by decide)
end
end G

namespace G
open PySem PySem.Spec PyProof.Rows L2
theorem same_none {H H1 : Hp} (s : Same H H1) {l : Addr} (h : H1 l = none) : H l = none := by
  cases e : H l with
  | none => rfl
  | some o => rw [s _ _ e] at h; cases h
theorem ift {A B : Prop} (a : A) : if true = true then A else B := a
theorem ne_feed {K : PySem.W.Frag} {H H1 : Hp} {fd cl l : Addr} {fn : Nat} (h : Feed K H fd cl fn) (g : Same H H1) (n : H1 l = none) : l ≠ fd := by
  rintro rfl
  obtain ⟨ns, b, d, e, h1, _⟩ := h
  rw [g _ _ h1] at n
  cases n
theorem ne_cl {K : PySem.W.Frag} {H H1 : Hp} {fd cl l : Addr} {fn : Nat} (h : Feed K H fd cl fn) (g : Same H H1) (n : H1 l = none) : l ≠ cl := by
  rintro rfl
  obtain ⟨ns, b, d, e, _, h1, _⟩ := h
  rw [g _ _ h1] at n
  cases n
theorem fresh_ne {H H1 : Hp} {a l : Addr} {o : HO} (h : H a = some o) (g : Same H H1) (n : H1 l = none) : l ≠ a := by
  rintro rfl
  rw [g _ _ h] at n
  cases n
section
variable {c : Cd} {σ : L2.St} {H : Hp} {Q : VK} {pos : Pos} {x y : V}
/-- t + u of data -/
theorem ro_catT {ds es : List PyData} (h1 : Dt c.K H x (.tuple ds)) (h2 : Dt c.K H y (.tuple es)) (hl : ds.length + es.length ≤ 100000) (q : ∀ v H2, Same H H2 → Dt c.K H2 v (.tuple (ds ++ es)) → Q v H2) : RO c .Add x y H Q := by
  obtain ⟨a, xs, rfl, t1, d1⟩ := h1.tupE
  obtain ⟨b, ys, rfl, t2, d2⟩ := h2.tupE
  have l1 := d1.len
  have l2 := d2.len
  refine ro_of (r := rCatA c.K) (fun X h => by rw [← h.K]; exact op_catA) ⟨a, b, xs, ys, rfl, rfl, t1, t2, Nat.le_trans (by omega : xs.length + ys.length ≤ 100000) (by decide), ?_, ?_, ?_⟩
  · rintro rfl
    cases d1
    exact q _ _ (Same.refl _) h2
  · rintro _ rfl
    cases d2
    rw [List.append_nil] at q
    exact q _ _ (Same.refl _) h1
  · intro _ _ p hp
    exact q _ _ (same_new hp) (.tup (.of upd_same) ((d1.app d2).mono (tp_same (same_new hp))))
/-- a def that answers with a new list of data -/
def spL (R : List PyData → List PyData → Prop) (K : PySem.W.Frag) : Sp := fun vs H Q _ => ∃ ds es, DtAll K H vs ds ∧ R ds es ∧ ∀ l us H', Same H H' → H l = none → H' l = some (.lst us) → DtAll K H' us es → Q (.ref l) H'
theorem e_callL {x : Str} {p : Pos} {e : Expr} {es : List Expr} {ps : List Str} {k : Nat} {R : List PyData → List PyData → Prop} (D : Dc c.toMd x ps k (spL R c.K)) (q : RA c (e :: es) σ H fun vs H1 => ∃ ds es, DtAll c.K H1 vs ds ∧ R ds es ∧ ∀ l us H', Same H1 H' → H1 l = none → H' l = some (.lst us) → DtAll c.K H' us es → Q (.ref l) H') (hk : k ≤ c.k := by exact Nat.le_of_ble_eq_true rfl) (hg : c.sc.names.lookup x = some .globalImplicit := by rfl)
    (hdb : (x == ("__debug__" : Str)) = false := by decide) (he : ∀ env, starEach (e :: es) env = (false, eval e env) :: starEach es env := by intro _; rfl) (hpl : ∀ env, (backTo pos (starEach es env)).any (·.1) = false := by intro _; rfl) :
    RE c (.Call (.Name x p) (e :: es) [] pos) σ H Q := e_call D q hk hg hdb he hpl
/-- a def that is given a list of data (and data behind it) and answers with a new list of data -/
def spLL (R : List PyData → List PyData → List PyData → Prop) (K : PySem.W.Frag) : Sp := fun vs H Q _ => ∃ a xs rest ds cs es, vs = .ref a :: rest ∧ SqL K H a xs ∧ DtAll K H xs ds ∧ DtAll K H rest cs ∧ R ds cs es ∧ ∀ l us H', Same H H' → H l = none → H' l = some (.lst us) → DtAll K H' us es → Q (.ref l) H'
theorem rx_pick {p : Addr} {xs : List V} {ds : List PyData} {i : Int} (hx : SqL c.K H p xs) (hd : DtAll c.K H xs ds) (h0 : 0 ≤ i) (h1 : i < ds.length) (q : ∀ v d, ds[i.toNat]? = some d → Dt c.K H v d → Q v H) : RX c (.ref p) (.int i) H Q := by
  have hlt : i.toNat < ds.length := by omega
  obtain ⟨v, hv, h⟩ := hd.get (List.getElem?_eq_getElem hlt)
  exact rx_list hx (pl_at (j := i.toNat) (by omega) hv) (q v _ (List.getElem?_eq_getElem hlt) h)
theorem rx_pickT {ds : List PyData} {i : Int} (hx : Dt c.K H x (.tuple ds)) (h0 : 0 ≤ i) (h1 : i < ds.length) (q : ∀ v d, ds[i.toNat]? = some d → Dt c.K H v d → Q v H) : RX c x (.int i) H Q := by
  have hlt : i.toNat < ds.length := by omega
  exact rx_tup hx (pl_at (j := i.toNat) (by omega) (List.getElem?_eq_getElem hlt)) fun v h => q v _ (List.getElem?_eq_getElem hlt) h
/-- a drawing call -/
theorem e_callD {x : Str} {p : Pos} {e : Expr} {es : List Expr} {ps : List Str} {k : Nat} {w : Nat} {Pre : List PyData → Prop} {R : List PyData → PyData → Prop} (D : Dc c.toMd x ps k (spD w Pre R c.K)) (q : RA c (e :: es) σ H fun vs H1 => ∃ fd cl rest ds n, vs = .ref fd :: rest ∧ Feed c.K H1 fd cl n ∧ n + w ≤ 1000000 ∧ DtAll c.K H1 rest ds ∧ Pre ds ∧ ∀ d v H', R ds d → Kp fd H1 H' → Feed c.K H' fd cl (n + w) → Dt c.K H' v d → Q v H') (hk : k ≤ c.k := by exact Nat.le_of_ble_eq_true rfl) (hg : c.sc.names.lookup x = some .globalImplicit := by rfl)
    (hdb : (x == ("__debug__" : Str)) = false := by decide) (he : ∀ env, starEach (e :: es) env = (false, eval e env) :: starEach es env := by intro _; rfl) (hpl : ∀ env, (backTo pos (starEach es env)).any (·.1) = false := by intro _; rfl) :
    RE c (.Call (.Name x p) (e :: es) [] pos) σ H Q := e_call D q hk hg hdb he hpl

section
variable {elt tg iter : Expr} {ifs : List Expr} {scope : Scope} {vs : List Nat}
theorem rng_step {g : Int → Option PyData} {i : Int} (t : Nat) : (List.range t).filterMap (fun t : Nat => g (i + (t : Int))) ++ (g (i + (t : Int))).toList = (List.range (t + 1)).filterMap (fun t : Nat => g (i + (t : Int))) := by
  rw [List.range_succ, List.filterMap_append]
  congr 1
theorem lcR2_F (g : Int → Option PyData) {a b : Expr} {p ppos : Pos} (hm : c.mg "range" = none) (q : RE c a σ H fun x H1 => RE c b σ H1 fun y H2 => ∃ i j : Int, x = .int i ∧ y = .int j ∧ (-1000 ≤ i ∧ i ≤ 1000) ∧ (-1000 ≤ j ∧ j ≤ 1000) ∧ (∀ (t : Nat) H', t < (j - i).toNat → Same H2 H' → TurnF (blkCd c scope) tg ifs elt vs σ c.K (.int (i + t)) H' (g (i + t))) ∧
      ∀ p us H3, Same H2 H3 → H2 p = none → H3 p = some (.lst us) → DtAll c.K H3 us ((List.range (j - i).toNat).filterMap fun t : Nat => g (i + (t : Int))) → Q (.ref p) H3)
    (hg : c.sc.names.lookup ("range" : Str) = some .globalImplicit := by rfl) (hs : ∀ env, starEach [a, b] env = [(false, eval a env), (false, eval b env)] := by intro _; rfl) (hs2 : ∀ env, starEach [b] env = [(false, eval b env)] := by intro _; rfl) :
    tLc (RI c tg (.Call (.Name "range" p) [a, b] [] ppos)) (RG (blkCd c scope) tg) (RTs (blkCd c scope) ifs) (RE (blkCd c scope) elt) vs σ H Q := by
  refine lc_R2 hm (RE.mono (fun x H1 z => RE.mono (fun y H2 z => ?_) z) q) hg hs hs2
  obtain ⟨i, j, rfl, rfl, h1, h2, tn, k⟩ := z
  refine ⟨i, j, rfl, rfl, h1, h2, fun D hD => ⟨fun t acc H' => acc.length ≤ t ∧ H' D = some (.lst acc) ∧ Same H2 H' ∧ DtAll c.K H' acc ((List.range t).filterMap fun t : Nat => g (i + (t : Int))), ⟨Nat.le_refl _, upd_same, same_new hD, .nil⟩, fun _ _ _ h => h.1, ?_, ?_⟩⟩
  · rintro t acc H' ht ⟨l, h1, s, h2⟩
    have T := TurnF.one hD s h1 h2 (tn t H' ht s)
    refine RG.mono (fun σ2 H2 z => ⟨z.1, RTs.mono (fun b H3 z => ?_) z.2⟩) T
    cases b with
    | true => exact RE.mono (fun y H4 z => ⟨z.1, by rw [List.length_append, List.length_singleton]; omega, z.2.1, z.2.2.1, by rw [← rng_step]; exact z.2.2.2⟩) z
    | false => exact ⟨by omega, z.1, z.2.1, by rw [← rng_step]; exact z.2.2⟩
  · rintro acc H' ⟨l, h1, s, h2⟩
    exact k D acc H' s hD h1 h2
theorem lcR1_F (g : Int → Option PyData) {a : Expr} {p ppos : Pos} (hm : c.mg "range" = none) (q : RE c a σ H fun y H2 => ∃ j : Int, y = .int j ∧ (-1000 ≤ j ∧ j ≤ 1000) ∧ (∀ (t : Nat) H', t < j.toNat → Same H2 H' → TurnF (blkCd c scope) tg ifs elt vs σ c.K (.int t) H' (g t)) ∧
      ∀ p us H3, Same H2 H3 → H2 p = none → H3 p = some (.lst us) → DtAll c.K H3 us ((List.range j.toNat).filterMap fun t : Nat => g (t : Int)) → Q (.ref p) H3)
    (hg : c.sc.names.lookup ("range" : Str) = some .globalImplicit := by rfl) (hs : ∀ env, starEach [a] env = [(false, eval a env)] := by intro _; rfl) :
    tLc (RI c tg (.Call (.Name "range" p) [a] [] ppos)) (RG (blkCd c scope) tg) (RTs (blkCd c scope) ifs) (RE (blkCd c scope) elt) vs σ H Q := by
  refine lc_R1 hm (RE.mono (fun y H2 z => ?_) q) hg hs
  obtain ⟨j, rfl, h2, tn, k⟩ := z
  refine ⟨j, rfl, h2, fun D hD => ⟨fun t acc H' => acc.length ≤ t ∧ H' D = some (.lst acc) ∧ Same H2 H' ∧ DtAll c.K H' acc ((List.range t).filterMap fun t : Nat => g (t : Int)), ⟨Nat.le_refl _, upd_same, same_new hD, .nil⟩, fun _ _ _ h => h.1, ?_, ?_⟩⟩
  · rintro t acc H' ht ⟨l, h1, s, h2⟩
    have T := TurnF.one hD s h1 h2 (tn t H' ht s)
    have e := rng_step (g := g) (i := 0) t
    simp only [Int.zero_add] at e
    refine RG.mono (fun σ2 H2 z => ⟨z.1, RTs.mono (fun b H3 z => ?_) z.2⟩) T
    cases b with
    | true => exact RE.mono (fun y H4 z => ⟨z.1, by rw [List.length_append, List.length_singleton]; omega, z.2.1, z.2.2.1, by rw [← e]; exact z.2.2.2⟩) z
    | false => exact ⟨by omega, z.1, z.2.1, by rw [← e]; exact z.2.2⟩
  · rintro acc H' ⟨l, h1, s, h2⟩
    exact k D acc H' s hD h1 h2
end
end
end G

namespace G
open PySem PySem.Spec PyProof.Rows L2
def isStar : Expr → Bool
  | .Starred .. => true
  | _ => false
theorem any_star (vs : List Expr) : (vs.any fun | .Starred .. => true | _ => false) = vs.any isStar := by
  congr 1
theorem sw2 {x y : Str} {px py pt : Pos} {kt k2 pt2} {a b : Expr} {env : Env} (hk : env.scope.kind = .function) (hx : env.scope.names.lookup x = some .local) (hy : env.scope.names.lookup y = some .local) (hxy : [x, y].eraseDups.length = 2) (hl : (py.line == px.line) = true)
    (h1 : [a, b].any isStar = false) (h2 : [a, b].all (foldedForSure 8) = false) (h3 : [a, b].all (constantsAlone 8) = false) :
    swappedStores [.Tuple [.Name x px, .Name y py] kt pt] (.Tuple [a, b] k2 pt2) env = pure (some [x, y]) := by
  have kx : env.kindOf x = some .local := hx
  have ky : env.kindOf y = some .local := hy
  have hb : env.blockKind = .function := by unfold Env.blockKind; rw [hk]; rfl
  have hn : ([Expr.Name x px, Expr.Name y py].filterMap fun
    | .Name id pos => if env.kindOf id == some .local && pos.line == px.line then some id else none
    | _ => none) = [x, y] := by
    simp only [List.filterMap_cons, List.filterMap_nil, kx, ky, hl, beq_self_eq_true, Bool.and_self, if_true]
  unfold swappedStores
  simp only [hb]
  show (if _ = true then _ else if ([a, b].any fun | .Starred .. => true | _ => false) = true then _ else _) = _
  rw [any_star, h1]
  generalize hz : List.filterMap _ [Expr.Name x px, Expr.Name y py] = z
  have hz' : z = [x, y] := by rw [← hz]; exact hn
  subst hz'
  rw [if_neg (by show ¬ (false = true); decide), if_neg (by decide), if_neg (by rw [hxy]; show ¬ (false = true); decide), h2, if_neg (by decide), h3, if_neg (by decide)]
theorem sw3 {x y z : Str} {px py pz pt : Pos} {kt k2 pt2} {a b d : Expr} {env : Env} (hk : env.scope.kind = .function) (hx : env.scope.names.lookup x = some .local) (hy : env.scope.names.lookup y = some .local) (hz0 : env.scope.names.lookup z = some .local) (hxy : [x, y, z].eraseDups.length = 3) (hl : (py.line == px.line) = true) (hl2 : (pz.line == px.line) = true)
    (h1 : [a, b, d].any isStar = false) (h2 : [a, b, d].all (foldedForSure 8) = false) (h3 : [a, b, d].all (constantsAlone 8) = false) :
    swappedStores [.Tuple [.Name x px, .Name y py, .Name z pz] kt pt] (.Tuple [a, b, d] k2 pt2) env = pure (some [x, y, z]) := by
  have kx : env.kindOf x = some .local := hx
  have ky : env.kindOf y = some .local := hy
  have kz : env.kindOf z = some .local := hz0
  have hb : env.blockKind = .function := by unfold Env.blockKind; rw [hk]; rfl
  have hn : ([Expr.Name x px, Expr.Name y py, Expr.Name z pz].filterMap fun
    | .Name id pos => if env.kindOf id == some .local && pos.line == px.line then some id else none
    | _ => none) = [x, y, z] := by
    simp only [List.filterMap_cons, List.filterMap_nil, kx, ky, kz, hl, hl2, beq_self_eq_true, Bool.and_self, if_true]
  unfold swappedStores
  simp only [hb]
  show (if _ = true then _ else if ([a, b, d].any fun | .Starred .. => true | _ => false) = true then _ else _) = _
  rw [any_star, h1]
  generalize hz : List.filterMap _ [Expr.Name x px, Expr.Name y py, Expr.Name z pz] = w
  have hz' : w = [x, y, z] := by rw [← hz]; exact hn
  subst hz'
  rw [if_neg (by show ¬ (false = true); decide), if_neg (by decide), if_neg (by rw [hxy]; show ¬ (false = true); decide), h2, if_neg (by decide), h3, if_neg (by decide)]
section
variable {c : Cd} {σ : L2.St} {H : Hp} {D : Ends} {pos : Pos}
theorem s_par2 {i j : Nat} {x y : Str} {a b : Expr} {px py pt : Pos} {kt k2 pt2} (hi : At c.N i x) (hj : At c.N j y) (q : RE c a σ H fun v H1 => RE c b σ H1 fun w H2 => D.nx ((σ.set i (some v)).set j (some w)) H2) (hij : i ≠ j := by decide)
    (hx : c.sc.names.lookup x = some .local := by rfl) (hy : c.sc.names.lookup y = some .local := by rfl) (hk : c.sc.kind = .function := by rfl) (hxy : [x, y].eraseDups.length = 2 := by decide +kernel) (hl : (py.line == px.line) = true := by rfl)
    (e1 : [a, b].any isStar = false := by rfl) (e2 : [a, b].all (foldedForSure 8) = false := by rfl) (e3 : [a, b].all (constantsAlone 8) = false := by rfl)
    (hs : ∀ env, swapsWithSole [.Tuple [.Name x px, .Name y py] kt pt] (.Tuple [a, b] k2 pt2) pos.line env = pure false := by intro _; rfl)
    (h1 : ∀ env, starEach [a, b] env = (false, eval a env) :: starEach [b] env := by intro _; rfl) (h2 : ∀ env, starEach [b] env = (false, eval b env) :: starEach [] env := by intro _; rfl) :
    RS c (.Assign [.Tuple [.Name x px, .Name y py] kt pt] (.Tuple [a, b] k2 pt2) pos) D σ H :=
  s_par hi hj q hij hx hy (fun env he => sw2 (by rw [he]; exact hk) (by rw [he]; exact hx) (by rw [he]; exact hy) hxy hl e1 e2 e3) hs h1 h2
theorem s_par3 {i j l : Nat} {x y z : Str} {a b d : Expr} {px py pz pt : Pos} {kt k2 pt2} (hi : At c.N i x) (hj : At c.N j y) (hl0 : At c.N l z) (q : RE c a σ H fun v H1 => RE c b σ H1 fun w H2 => RE c d σ H2 fun u H3 => D.nx (((σ.set i (some v)).set j (some w)).set l (some u)) H3) (hij : i ≠ j := by decide) (hil : i ≠ l := by decide) (hjl : j ≠ l := by decide)
    (hx : c.sc.names.lookup x = some .local := by rfl) (hy : c.sc.names.lookup y = some .local := by rfl) (hz : c.sc.names.lookup z = some .local := by rfl) (hk : c.sc.kind = .function := by rfl) (hxy : [x, y, z].eraseDups.length = 3 := by decide +kernel) (hl : (py.line == px.line) = true := by rfl) (hl2 : (pz.line == px.line) = true := by rfl)
    (e1 : [a, b, d].any isStar = false := by rfl) (e2 : [a, b, d].all (foldedForSure 8) = false := by rfl) (e3 : [a, b, d].all (constantsAlone 8) = false := by rfl)
    (hs : ∀ env, swapsWithSole [.Tuple [.Name x px, .Name y py, .Name z pz] kt pt] (.Tuple [a, b, d] k2 pt2) pos.line env = pure false := by intro _; rfl)
    (h0 : ∀ env, starEach [a, b, d] env = (false, eval a env) :: starEach [b, d] env := by intro _; rfl) (h1 : ∀ env, starEach [b, d] env = (false, eval b env) :: starEach [d] env := by intro _; rfl) (h2 : ∀ env, starEach [d] env = (false, eval d env) :: starEach [] env := by intro _; rfl) :
    RS c (.Assign [.Tuple [.Name x px, .Name y py, .Name z pz] kt pt] (.Tuple [a, b, d] k2 pt2) pos) D σ H := by
  refine rs_of (t := tPar3 i j l (RA c [a, b, d])) (fun X h => ps_par3 h.calm (by rw [h.N]; exact h.nd) (by rw [h.N]; exact hi.get) (by rw [h.N]; exact hj.get) (by rw [h.N]; exact hl0.get) hij hil hjl (by rw [h.sc]; exact hx) (by rw [h.sc]; exact hy) (by rw [h.sc]; exact hz) (pa_ra h) (sw3 (by rw [h.sc]; exact hk) (by rw [h.sc]; exact hx) (by rw [h.sc]; exact hy) (by rw [h.sc]; exact hz) hxy hl hl2 e1 e2 e3) (hs _)) ?_
  exact a_cons (RE.mono (fun v H1 z => a_cons (RE.mono (fun w H2 z => a_cons (RE.mono (fun u H3 z => a_nil ⟨v, w, u, rfl, z⟩) z) h2) z) h1) q) h0
theorem e_bo1 {Q : VK} {op : BoolOp} {a : Expr} (q : RE c a σ H Q) : RE c (.BoolOp op [a] pos) σ H Q := re_of (fun X h => pe_one (pe_re h)) q
theorem e_disp {Q : VK} {keys : List (Option Expr)} {values : List Expr} {trs : List (TE × TE)} (hp : ∀ X, Is c X → PPs X pos keys values trs) (hall : keys.all (·.isSome) = true) (hl : keys.length = values.length) (h0 : keys ≠ []) (h15 : keys.length ≤ 15) (q : tDisp trs σ H Q) : RE c (.Dict keys values pos) σ H Q :=
  re_of (fun X h => pe_disp (hp X h) hall hl h0 h15) q
theorem e_dnew {Q : VK} (q : ∀ p, H p = none → Q (.ref p) (upd H p (.dK []))) : RE c (.Dict [] [] pos) σ H Q := re_of (fun X h => pe_dnewK) q
theorem kp_none {fp l : Addr} {H H1 : Hp} (k : Kp fp H H1) (h : H1 l = none) (n : l ≠ fp) : H l = none := by
  cases e : H l with
  | none => rfl
  | some o => rw [k.k _ _ n e] at h; cases h
theorem ty_tup {K : PySem.W.Frag} {a : Addr} {xs : List V} (h : SqT K H a xs) : TyX K H (.ref a) (.type "tuple") := by
  rcases h with (h | ⟨o, h⟩) | ⟨o, its, n, h1, h2, _⟩
  · exact .base (.tup h)
  · exact .fTuple h
  · exact .kTuple h1 h2
theorem rc_isi {Q : VK} {x : V} {t T : String} {b : Bool} (ty : TyX c.K H x (.type t)) (e : PySem.W.kitOne c.K (.type t) (.type T) = some b) (q : Q (.bl b) H) : RC c (.builtin "isinstance") [x, .ty T] H Q :=
  rc_of (r := rIsi c.K) (fun X h => by rw [← h.K]; exact call_isi) ⟨x, _, _, _, b, rfl, .ty T, ty, e, q⟩
/-- a def with defaults -/
structure DcV (c : Md) (x : Str) (ps : List Str) (dvs : List V) (k : Nat) (sp : Sp) : Prop where
  ex : ∃ (f : Addr) (fd : FuncData) (ds : List Value), FnG c.prog c.w c.K c.mg c.base noX k f fd ps sp ∧ c.mg x = some (.ref f) ∧ PySem.W.keepIn c.K (.ref f) = true ∧ Binds c.K fd ps ds ∧ Vals dvs ds
theorem e_callV {Q : VK} {x : Str} {p : Pos} {e : Expr} {es : List Expr} {ps : List Str} {dvs : List V} {k : Nat} {sp : Sp} (D : DcV c.toMd x ps dvs k sp) (q : RA c (e :: es) σ H fun vs H1 => sp (vs ++ dvs) H1 Q fun _ _ _ => False) (hk : k ≤ c.k := by exact Nat.le_of_ble_eq_true rfl) (hg : c.sc.names.lookup x = some .globalImplicit := by rfl)
    (hdb : (x == ("__debug__" : Str)) = false := by decide) (he : ∀ env, starEach (e :: es) env = (false, eval e env) :: starEach es env := by intro _; rfl) (hpl : ∀ env, (backTo pos (starEach es env)).any (·.1) = false := by intro _; rfl) :
    RE c (.Call (.Name x p) (e :: es) [] pos) σ H Q := by
  obtain ⟨f, fd, ds, F, hm, hkp, hb, hv⟩ := D.ex
  refine re_of (t := tCall sp dvs (fun _ _ _ => False) (RA c (e :: es))) (fun X h => ?_) q
  refine pe_call (CX := fun _ _ _ _ _ _ => False) (k := k) (f := f) (fd := fd) (ps := ps) (ds := ds) ?_ (h.room.mono hk) (gl_of h hg) (by rw [h.mg]; exact hm) (by rw [h.K]; exact hkp) (by rw [h.K]; exact hb) hv (fun _ _ _ _ _ _ _ z => z.elim) (pa_ra h) hdb (he _) (hpl _)
  rw [h.prog, h.w, h.K, h.mg, h.base]; exact F
/-- x, y = e with a pair of data -/
theorem g_unp2 {R : L2.St → Hp → Prop} {i j : Nat} {x y : Str} {px py pt : Pos} {kt : Nat} {v : V} {d1 d2 : PyData} (hi : At c.N i x) (hj : At c.N j y) (hv : Dt c.K H v (.tuple [d1, d2])) (q : ∀ v1 v2, Dt c.K H v1 d1 → Dt c.K H v2 d2 → R ((σ.set i (some v1)).set j (some v2)) H)
    (hx : c.sc.names.lookup x = some .local ∨ (c.sc.names.lookup x = some .cell ∧ c.top = true) := by first | exact Or.inl rfl | exact Or.inr ⟨rfl, rfl⟩) (hy : c.sc.names.lookup y = some .local ∨ (c.sc.names.lookup y = some .cell ∧ c.top = true) := by first | exact Or.inl rfl | exact Or.inr ⟨rfl, rfl⟩)
    (hst : ∀ env, (assignEach [.Name x px, .Name y py] env).findIdx? (·.1) = none := by intro _; rfl) : RG c (.Tuple [.Name x px, .Name y py] kt pt) v σ H R := by
  obtain ⟨a, xs, rfl, ht, hd⟩ := hv.tupE
  obtain _ | ⟨h1, hd⟩ := hd
  obtain _ | ⟨h2, hd⟩ := hd
  cases hd
  exact g_tup ht (gs_cons (g_name hi (gs_cons (g_name hj (gs_nil (q _ _ h1 h2)) hy)) hx)) rfl (fun _ => rfl) hst
theorem g_unp3 {R : L2.St → Hp → Prop} {i j l : Nat} {x y z : Str} {px py pz pt : Pos} {kt : Nat} {v : V} {d1 d2 d3 : PyData} (hi : At c.N i x) (hj : At c.N j y) (hl : At c.N l z) (hv : Dt c.K H v (.tuple [d1, d2, d3])) (q : ∀ v1 v2 v3, Dt c.K H v1 d1 → Dt c.K H v2 d2 → Dt c.K H v3 d3 → R (((σ.set i (some v1)).set j (some v2)).set l (some v3)) H)
    (hx : c.sc.names.lookup x = some .local ∨ (c.sc.names.lookup x = some .cell ∧ c.top = true) := by first | exact Or.inl rfl | exact Or.inr ⟨rfl, rfl⟩) (hy : c.sc.names.lookup y = some .local ∨ (c.sc.names.lookup y = some .cell ∧ c.top = true) := by first | exact Or.inl rfl | exact Or.inr ⟨rfl, rfl⟩) (hz : c.sc.names.lookup z = some .local ∨ (c.sc.names.lookup z = some .cell ∧ c.top = true) := by first | exact Or.inl rfl | exact Or.inr ⟨rfl, rfl⟩)
    (hst : ∀ env, (assignEach [.Name x px, .Name y py, .Name z pz] env).findIdx? (·.1) = none := by intro _; rfl) : RG c (.Tuple [.Name x px, .Name y py, .Name z pz] kt pt) v σ H R := by
  obtain ⟨a, xs, rfl, ht, hd⟩ := hv.tupE
  obtain _ | ⟨h1, hd⟩ := hd
  obtain _ | ⟨h2, hd⟩ := hd
  obtain _ | ⟨h3, hd⟩ := hd
  cases hd
  exact g_tup ht (gs_cons (g_name hi (gs_cons (g_name hj (gs_cons (g_name hl (gs_nil (q _ _ _ h1 h2 h3)) hz)) hy)) hx)) rfl (fun _ => rfl) hst
end
end G

namespace G
open PySem PySem.Spec PyProof.Rows L2
/-- a tuple's object as the built-in makes it -/
def BareT (ob : Obj) : Prop := ob.cls = .type "tuple" ∧ ob.dict = none
/-- none, or a tuple of data whose object is known to be bare -/
def Fz (K : PySem.W.Frag) (H : Hp) (v : V) (d : PyData) : Prop := (v = .non ∧ d = .none) ∨ ∃ a ob us ds, v = .ref a ∧ d = .tuple ds ∧ H a = some (.frz ob (.tup us)) ∧ BareT ob ∧ DtAll K H us ds
theorem Fz.mono {K : PySem.W.Frag} {H H' : Hp} {v : V} {d : PyData} (e : Tp H H') (h : Fz K H v d) : Fz K H' v d := by
  rcases h with h | ⟨a, ob, us, ds, h1, h2, h3, h4, h5⟩
  · exact .inl h
  · exact .inr ⟨a, ob, us, ds, h1, h2, e.f _ _ _ h3, h4, h5.mono e⟩
theorem Fz.dt {K : PySem.W.Frag} {H : Hp} {v : V} {d : PyData} (h : Fz K H v d) : Dt K H v d := by
  rcases h with ⟨rfl, rfl⟩ | ⟨a, ob, us, ds, rfl, rfl, h3, h4, h5⟩
  · exact .non
  · exact .tup (.inl (.inr ⟨ob, h3⟩)) h5
theorem Fz.tup {K : PySem.W.Frag} {H : Hp} {v : V} {ds : List PyData} (h : Fz K H v (.tuple ds)) : ∃ a ob us, v = .ref a ∧ H a = some (.frz ob (.tup us)) ∧ BareT ob ∧ DtAll K H us ds := by
  rcases h with ⟨_, h⟩ | ⟨a, ob, us, es, h1, h2, h3⟩
  · cases h
  · cases h2
    exact ⟨a, ob, us, h1, h3⟩
section
variable {X : Cx}
theorem cr_tupF : CallR X (.type "tuple") (fun vs H Q => ∃ l zs, vs = [.ref l] ∧ SqL X.K H l zs ∧ ∀ t ob, H t = none → BareT ob → Q (.ref t) (upd H t (.frz ob (.tup zs)))) := by
  rintro pins s σ H vs us Q I rv ⟨l, zs, rfl, hl, k⟩
  obtain ⟨w, rfl, rw0⟩ := vals1 rv
  cases rw0
  obtain ⟨ws, rz, plain, short⟩ := I.list hl
  have same := rz.length
  refine call_tuple_list plain.isList (fun hp kept => ?_) (by rw [List.size_toArray] <;> omega)
  have J : Inv X pins σ H { s with heap := hp } := I.kept (t' := s.toks) kept
  refine ⟨.ref hp.objs.size, _, J.laid (o := .frz { cls := .type "tuple", data := .seq ws.toArray } (.tup zs)) (t' := s.toks) (h' := hp.push { cls := .type "tuple", data := .seq ws.toArray }) (fun b o e => Heap.get?_push_of_some _ e) (Nat.le_refl _) ?_, rfl, k _ _ (J.hok.fresh (Nat.le_refl _)) ⟨rfl, rfl⟩⟩
  exact ⟨Heap.get?_push_size _ rfl, short, ws, rz, IsTup.new _ _⟩
end
section
variable {c : Cd} {σ : L2.St} {H : Hp} {Q : VK} {pos : Pos}
theorem rc_tupF {l : Addr} {ys : List V} {ds : List PyData} (hl : SqL c.K H l ys) (hd : DtAll c.K H ys ds) (q : ∀ v H2, Same H H2 → Dt c.K H2 v (.tuple ds) → Fz c.K H2 v (.tuple ds) → Q v H2) : RC c (.type "tuple") [.ref l] H Q :=
  rc_of (r := fun vs H Q => ∃ l zs, vs = [.ref l] ∧ SqL c.K H l zs ∧ ∀ t ob, H t = none → BareT ob → Q (.ref t) (upd H t (.frz ob (.tup zs)))) (fun X h => by rw [← h.K]; exact cr_tupF) ⟨l, ys, rfl, hl, fun t ob hn hb => q _ _ (same_new hn) (.tup (.inl (.inr ⟨ob, upd_same⟩)) (hd.mono (tp_same (same_new hn)))) (.inr ⟨t, ob, ys, ds, rfl, rfl, upd_same, hb, hd.mono (tp_same (same_new hn))⟩)⟩
/-- a def that changes nothing and answers with none or a bare tuple -/
def spZ (R : List PyData → PyData → Prop) (K : PySem.W.Frag) : Sp := fun vs H Q _ => ∃ ds d, DtAll K H vs ds ∧ R ds d ∧ ∀ v H', Same H H' → Dt K H' v d → Fz K H' v d → Q v H'
theorem e_callZ {x : Str} {p : Pos} {e : Expr} {es : List Expr} {ps : List Str} {k : Nat} {R : List PyData → PyData → Prop} (D : Dc c.toMd x ps k (spZ R c.K)) (q : RA c (e :: es) σ H fun vs H1 => ∃ ds d, DtAll c.K H1 vs ds ∧ R ds d ∧ ∀ v H', Same H1 H' → Dt c.K H' v d → Fz c.K H' v d → Q v H') (hk : k ≤ c.k := by exact Nat.le_of_ble_eq_true rfl) (hg : c.sc.names.lookup x = some .globalImplicit := by rfl)
    (hdb : (x == ("__debug__" : Str)) = false := by decide) (he : ∀ env, starEach (e :: es) env = (false, eval e env) :: starEach es env := by intro _; rfl) (hpl : ∀ env, (backTo pos (starEach es env)).any (·.1) = false := by intro _; rfl) :
    RE c (.Call (.Name x p) (e :: es) [] pos) σ H Q := e_call D q hk hg hdb he hpl
end
end G

open PySem L2 G
local macro_rules | `(tactic| tm_at "at") => `(tactic| (first | with_reducible exact At.z | (with_reducible apply At.s; tm_at "at")))
local macro_rules | `(tactic| tm_at "tp") => `(tactic| (first
  | exact Tp.refl _
  | assumption
  | exact tp_same (by assumption)
  | exact Kp.t (by assumption)
  | (refine Tp.trans ?_ (tp_same (by assumption)); tm_at "tp")
  | (refine Tp.trans ?_ (Kp.t (by assumption)); tm_at "tp")
  | (refine Tp.trans ?_ (tp_same (same_new (by assumption))); tm_at "tp")))
local macro_rules | `(tactic| tm_at "same") => `(tactic| (first
  | exact Same.refl _
  | assumption
  | (refine Same.trans ?_ (by assumption); tm_at "same")
  | (refine Same.trans ?_ (same_new (by assumption)); tm_at "same")))
local macro_rules | `(tactic| tm_at "dt") => `(tactic| (first
  | assumption
  | exact Dt.int _ | exact Dt.str _ | exact Dt.bl _ | exact Dt.non
  | (refine Dt.mono ?_ (by assumption); tm_at "tp")))
local macro_rules | `(tactic| tm_at "dts") => `(tactic| (first
  | exact DtAll.nil
  | (with_reducible apply DtAll.cons; tm_at "dt"; tm_at "dts")))
local macro_rules | `(tactic| tm_at "s") => `(tactic| first
  | (refine gRE ?_; first | refine e_var (by tm_at "at") ?_ | refine e_int ?_ | refine e_str ?_ | refine e_non ?_ | refine e_bl ?_ | refine e_bin ?_ | refine e_cmp ?_ | refine e_chain ?_ | refine e_dgetS ?_ | refine e_sliceS ?_ | refine e_slice ?_ | refine e_ix ?_ | refine e_not ?_ | refine e_bo1 ?_ | refine e_or ?_ | refine e_and ?_ | refine e_un ?_ | refine e_if ?_ | refine e_callB (id := "isinstance") (by with_reducible exact Bl.isinst (by assumption)) (by decide +kernel) ?_ | refine e_bltn (v := .ty "int") (u := .type "int") (by with_reducible exact Bl.int (by assumption)) (by decide +kernel) rfl ?_ | refine e_bltn (v := .ty "str") (u := .type "str") (by with_reducible exact Bl.str (by assumption)) (by decide +kernel) rfl ?_ | refine e_bltn (v := .ty "bool") (u := .type "bool") (by with_reducible exact Bl.bool (by assumption)) (by decide +kernel) rfl ?_ | refine e_bltn (v := .ty "tuple") (u := .type "tuple") (by with_reducible exact Bl.tuple (by assumption)) (by decide +kernel) rfl ?_ | refine e_callT (T := "int") (by with_reducible exact Bl.int (by assumption)) (by decide +kernel) ?_ | refine e_callB (id := "len") (by with_reducible exact Bl.len (by assumption)) (by decide +kernel) ?_ | refine e_callB (id := "max") (by with_reducible exact Bl.max (by assumption)) (by decide +kernel) ?_ | refine e_callB (id := "min") (by with_reducible exact Bl.min (by assumption)) (by decide +kernel) ?_ | refine e_callT (T := "tuple") (by with_reducible exact Bl.tuple (by assumption)) (by decide +kernel) ?_ | refine e_callT (T := "dict") (by with_reducible exact Bl.dict (by assumption)) (by decide +kernel) ?_ | refine e_callB (id := "sorted") (by with_reducible exact Bl.sorted (by assumption)) (by decide +kernel) ?_ | refine e_callT (T := "list") (by with_reducible exact Bl.list (by assumption)) (by decide +kernel) ?_)
  | (refine gRA ?_; first | refine a_cons ?_ | refine a_nil ?_)
  | (refine gRX ?_; first | refine rx_int (by tm_at "dt") (by rfl) ?_ | refine rx_str (by tm_at "dt") (by rfl) ?_ | refine rx_bl (by tm_at "dt") (by rfl) ?_)
  | (refine gRQ ?_; first | refine ro_eqI ?_ | refine ro_eqS ?_ | refine ro_eqB ?_ | refine ro_neI ?_ | refine ro_lt ?_ | refine ro_le ?_ | refine ro_gt ?_ | refine ro_ge ?_ | refine ro_isN ?_ | refine ro_notN ?_)
  | (refine gRS ?_; first | refine s_ret ?_ | refine s_if ?_ | refine s_retN ?_ | refine s_dputS ?_ | refine s_par2 (by tm_at "at") (by tm_at "at") ?_ | refine s_par3 (by tm_at "at") (by tm_at "at") (by tm_at "at") ?_ | refine s_set (by tm_at "at") ?_)
  | (refine gRT ?_; first | refine t_cmp ?_ | refine t_chain ?_ | refine t_not ?_ | refine t_w (e := .BoolOp _ _ _) ?_)
  | (refine gRW ?_; first | refine w_and ?_ | refine w_or ?_ | refine w_and1 ?_ | refine w_or1 ?_)
  | (refine gRO ?_; first | refine ro_add ?_ | refine ro_sub ?_)
  | (refine gRC ?_; first | refine rc_max2 ?_ | refine rc_min2 ?_ | refine rc_intI ?_ | refine rc_intB ?_)
  | (refine gRG ?_; first | refine g_name (by tm_at "at") ?_)
  | (refine gRPo ?_; first | refine p_none ?_ | refine p_some ?_)
  | (refine gRU ?_; first | refine ru_neg ?_)
  | with_reducible refine ⟨_, rfl, ?_⟩
  | with_reducible refine ifT rfl ?_)
local macro_rules | `(tactic| tm_at "run") => `(tactic| repeat tm_at "s")
local macro_rules | `(tactic| tm_at "go") => `(tactic| repeat (first | tm_at "s" | (refine gRB ?_; first | refine b_one ?_ | refine b_cons ?_ | refine b_nil ?_)))

namespace K
open PySem L2 G
def rowD (r : Str × Nat × Int × Int × Bool × Bool × Int) : PyData := .tuple [.str r.1, .int r.2.1, .int r.2.2.1, .int r.2.2.2.1, .bool r.2.2.2.2.1, .bool r.2.2.2.2.2.1, .int r.2.2.2.2.2.2]
abbrev Row := Str × Nat × Int × Int × Bool × Bool × Int
def width (r : Row) : Nat := max 1 r.2.1
def rWidth : List PyData → PyData → Prop := fun ds d => ∃ r : Row, ds = [rowD r] ∧ d = .int (width r)
variable {M : Md}
theorem ok_width {f fd} (F : Fun M.K "row_width" "row_width" s_row_width f fd) (b : Bl M) : FnG M.prog M.w M.K M.mg M.base CX0 1 f fd ["row"] (spF rWidth M.K) := by
  refine fn_ok F sc_row_width (fun vs H Q E h => ?_) (fun H vs Q E h => ?_)
  · obtain ⟨ds, d, h, ⟨r, rfl, _⟩, _⟩ := h
    exact h.len
  obtain ⟨ds, d, h, ⟨r, rfl, rfl⟩, k⟩ := h
  cases h with
  | cons h1 h2 =>
  cases h2
  tm_at "go"
  have e : (if ((r.2.1 : Nat) : Int) > 1 then ((r.2.1 : Nat) : Int) else 1) = ((width r : Nat) : Int) := by unfold width; split <;> omega
  rw [e]
  exact k _ _ (Same.refl _) (.int _)

def hit (r : Row) : Option Int → Int → Option Int
  | none, b => if (r.2.1 : Int) = 0 then some b else none
  | some k, b => if 0 ≤ k ∧ k < r.2.1 then some (b + k) else none
def fIdx : List Row → Str → Option Int → Int → Option Int
  | [], _, _, _ => none
  | r :: rs, nm, key, b => if r.1 = nm then hit r key b else fIdx rs nm key (b + width r)
def optD : Option Int → PyData
  | none => .none
  | some k => .int k
def cellsD (rs : List Row) : PyData := .tuple (rs.map rowD)
def rFound : List PyData → PyData → Prop := fun ds d => ∃ (rs : List Row) (nm : Str) (key : Option Int), ds = [cellsD rs, .str nm, optD key] ∧ d = optD (fIdx rs nm key 0)
theorem ok_found {f fd} (F : Fun M.K "found_index" "found_index" s_found_index f fd) (dw : Dc M "row_width" ["row"] 1 (spF rWidth M.K)) : FnG M.prog M.w M.K M.mg M.base CX0 2 f fd ["cells", "name", "key"] (spF rFound M.K) := by
  refine fn_ok F sc_found_index (fun vs H Q E h => ?_) (fun H vs Q E h => ?_)
  · obtain ⟨ds, d, h, ⟨rs, nm, key, rfl, _⟩, _⟩ := h
    exact h.len
  obtain ⟨ds, d, h, ⟨rs, nm, key, rfl, rfl⟩, k⟩ := h
  obtain _ | ⟨hc, h⟩ := h
  obtain _ | ⟨hn, h⟩ := h
  obtain _ | ⟨hk, h⟩ := h
  cases h
  cases hn
  obtain ⟨a, xs, rfl, hxs, hrs⟩ := hc.tupE
  rename_i vk
  tm_at "go"
  refine s_forT ?_
  tm_at "s"
  refine ⟨a, xs, rfl, hxs, fun i σ1 H1 => ∃ (b : Int) (v : Option V), σ1 = [some (.ref a), some (.str nm), some vk, some (.int b), v] ∧ Same H H1 ∧ fIdx rs nm key 0 = fIdx (rs.drop i) nm key b, ⟨0, _, rfl, Same.refl _, rfl⟩, ?_, ?_, ?_⟩
  · rintro i σ' H' _ ⟨b, v, rfl, s, _⟩
    exact (tp_same s).sqt hxs
  · rintro i x σ' H' hx ⟨b, v, rfl, s, e⟩
    obtain ⟨d, hd, hx'⟩ := hrs.getV hx
    rw [List.getElem?_map] at hd
    obtain ⟨r, hr, rfl⟩ := Option.map_eq_some_iff.mp hd
    have ed : rs.drop i = r :: rs.drop (i + 1) := by
      obtain ⟨h1, h2⟩ := List.getElem?_eq_some_iff.mp hr
      rw [← h2]; exact List.drop_eq_getElem_cons h1
    rw [ed] at e
    refine g_name (by tm_at "at") ?_
    tm_at "go"
    refine ifd (fun c1 => ?_) (fun c1 => ?_)
    · cases key with
      | none =>
        cases hk
        tm_at "go"
        refine ifd (fun c2 => ?_) (fun c2 => ?_)
        · tm_at "go"
          refine k _ _ s ?_
          rw [e, fIdx, if_pos c1, hit, if_pos c2]; exact .int _
        · tm_at "go"
          refine k _ _ s ?_
          rw [e, fIdx, if_pos c1, hit, if_neg c2]; exact .non
      | some kk =>
        cases hk
        tm_at "go"
        refine ifd (fun c2 => ?_) (fun c2 => ?_)
        · tm_at "go"
          refine ifd (fun c3 => ?_) (fun c3 => ?_)
          · tm_at "go"
            refine k _ _ s ?_
            rw [e, fIdx, if_pos c1, hit, if_pos ⟨c2, c3⟩]; exact .int _
          · tm_at "go"
            refine k _ _ s ?_
            rw [e, fIdx, if_pos c1, hit, if_neg fun z => c3 z.2]; exact .non
        · tm_at "go"
          refine k _ _ s ?_
          rw [e, fIdx, if_pos c1, hit, if_neg fun z => c2 z.1]; exact .non
    · tm_at "go"
      refine e_callF dw ?_
      tm_at "go"
      refine ⟨_, _, by tm_at "dts", ⟨r, rfl, rfl⟩, fun v' H2 s2 hv => ?_⟩
      cases hv
      tm_at "go"
      refine ⟨_, _, rfl, s.trans s2, ?_⟩
      rw [e, fIdx, if_neg c1]
  · rintro σ' H' ⟨b, v, rfl, s, e⟩
    tm_at "go"
    refine k _ _ s ?_
    rw [e, List.drop_eq_nil_of_le (by have := hrs.len; rw [List.length_map] at this; omega)]
    exact .non

def total (rs : List Row) : Nat := (rs.map width).sum
def pairD (r : Row) : PyData := .tuple [.int r.2.2.1, .int r.2.2.2.1]
def rngs (rs : List Row) : List PyData := rs.flatMap fun r => List.replicate (width r) (pairD r)
theorem rngs_len : ∀ rs : List Row, (rngs rs).length = total rs
  | [] => rfl
  | r :: rs => by
    have := rngs_len rs
    simp only [rngs, total, List.flatMap_cons, List.length_append, List.length_replicate, List.map_cons, List.sum_cons] at *
    omega
theorem rngs_snoc {rs : List Row} {i : Nat} {r : Row} (h : rs[i]? = some r) : rngs (rs.take (i + 1)) = rngs (rs.take i) ++ List.replicate (width r) (pairD r) := by
  obtain ⟨h1, rfl⟩ := List.getElem?_eq_some_iff.mp h
  rw [List.take_succ_eq_append_getElem h1, rngs, List.flatMap_append]
  simp [rngs]
theorem total_take (rs : List Row) (i : Nat) : total (rs.take i) ≤ total rs := by
  induction rs generalizing i with
  | nil => simp
  | cons r rs ih =>
    cases i with
    | zero => simp [total]
    | succ i =>
      have := ih i
      simp only [total, List.take_succ_cons, List.map_cons, List.sum_cons] at *
      omega
theorem width_le {rs : List Row} {i : Nat} {r : Row} (h : rs[i]? = some r) : total (rs.take i) + width r ≤ total rs := by
  have h1 := total_take rs (i + 1)
  have h2 := congrArg List.length (rngs_snoc h)
  rw [rngs_len, List.length_append, rngs_len, List.length_replicate] at h2
  omega
theorem dt_rep {K : PySem.W.Frag} {H : Hp} {v : V} {d : PyData} (h : Dt K H v d) : ∀ n : Nat, DtAll K H (List.replicate n v) (List.replicate n d)
  | 0 => .nil
  | n + 1 => .cons h (dt_rep h n)
def rRanges : List PyData → PyData → Prop := fun ds d => ∃ rs : List Row, ds = [cellsD rs] ∧ total rs ≤ 500 ∧ d = .tuple (rngs rs)
theorem ok_ranges {f fd} (F : Fun M.K "cell_ranges" "cell_ranges" s_cell_ranges f fd) (b : Bl M) (dw : Dc M "row_width" ["row"] 1 (spF rWidth M.K)) : FnG M.prog M.w M.K M.mg M.base CX0 2 f fd ["cells"] (spF rRanges M.K) := by
  refine fn_ok F sc_cell_ranges (fun vs H Q E h => ?_) (fun H vs Q E h => ?_)
  · obtain ⟨ds, d, h, ⟨rs, rfl, _⟩, _⟩ := h
    exact h.len
  obtain ⟨ds, d, h, ⟨rs, rfl, hl, rfl⟩, k⟩ := h
  obtain _ | ⟨hc, h⟩ := h
  cases h
  obtain ⟨a, xs, rfl, hxs, hrs⟩ := hc.tupE
  have hle := hrs.len
  rw [List.length_map] at hle
  tm_at "go"
  refine e_lstD ?_
  tm_at "go"
  refine ⟨by decide, fun l0 H0 s0 n0 g0 => ?_⟩
  tm_at "go"
  refine s_forT ?_
  tm_at "s"
  refine ⟨a, xs, rfl, (tp_same s0).sqt hxs, fun i σ1 H1 => ∃ (l : Addr) (us : List V) (v : Option V), σ1 = [some (.ref a), some (.ref l), v] ∧ Same H H1 ∧ H1 l = some (.lst us) ∧ DtAll M.K H1 us (rngs (rs.take i)), ⟨l0, [], _, rfl, s0, g0, .nil⟩, ?_, ?_, ?_⟩
  · rintro i σ' H' _ ⟨l, us, v, rfl, s, _⟩
    exact (tp_same s).sqt hxs
  · rintro i x σ' H' hx ⟨l, us, v, rfl, s, hl1, hu⟩
    obtain ⟨d, hd, hx'⟩ := hrs.getV hx
    rw [List.getElem?_map] at hd
    obtain ⟨r, hr, rfl⟩ := Option.map_eq_some_iff.mp hd
    have hw := width_le hr
    have hul := hu.len
    rw [rngs_len] at hul
    tm_at "go"
    refine e_lstD ?_
    tm_at "go"
    refine e_tupD ?_
    tm_at "go"
    refine tupend (by tm_at "dts") (Nat.le_of_ble_eq_true rfl) fun vp H2 s2 hp => ?_
    tm_at "go"
    refine ⟨(Nat.le_of_ble_eq_true rfl), fun l2 H3 s3 n3 g3 => ?_⟩
    tm_at "go"
    refine e_callF dw ?_
    tm_at "go"
    refine ⟨_, _, by tm_at "dts", ⟨r, rfl, rfl⟩, fun v' H4 s4 hv => ?_⟩
    cases hv
    refine ro_rep (s4 _ _ g3) (by omega) (Nat.le_of_ble_eq_true rfl) fun l5 H5 s5 n5 g5 => ?_
    have e5 : (List.replicate (((width r : Nat) : Int)).toNat [vp]).flatten = List.replicate (width r) vp := by
      rw [Int.toNat_natCast]
      induction width r with
      | zero => rfl
      | succ n ih => rw [List.replicate_succ, List.replicate_succ, List.flatten_cons, ih]; rfl
    rw [e5] at g5
    have s25 := s2.trans (s3.trans (s4.trans s5))
    refine ro_cat (s25 _ _ hl1) g5 (by rw [List.length_replicate]; omega) fun l6 H6 s6 n6 g6 => ?_
    refine ⟨l6, _, _, rfl, s.trans (s25.trans s6), g6, ?_⟩
    rw [rngs_snoc hr]
    exact (hu.mono (tp_same (s25.trans s6))).app (dt_rep (hp.mono (tp_same (s3.trans (s4.trans (s5.trans s6))))) _)
  · rintro σ' H' ⟨l, us, v, rfl, s, hl1, hu⟩
    rw [hle, List.take_length] at hu
    tm_at "go"
    refine rc_tupL (.of hl1) hu fun v2 H2 s2 h2 => ?_
    exact k _ _ (s.trans s2) h2
end K

namespace K
open PySem L2 G
variable {M : Md}
/-! states -/
abbrev Rng := Int × Int
def rngD (p : Rng) : PyData := .tuple [.int p.1, .int p.2]
def rg (rs : List Row) : List Rng := rs.flatMap fun r => List.replicate (width r) (r.2.2.1, r.2.2.2.1)
theorem rngs_eq (rs : List Row) : rngs rs = (rg rs).map rngD := by
  unfold rngs rg
  induction rs with
  | nil => rfl
  | cons r rs ih =>
    rw [List.flatMap_cons, List.flatMap_cons, List.map_append, ih, List.map_replicate]
    rfl
abbrev St1 := List Int
def stD (s : St1) : PyData := .tuple (s.map .int)
def span (p : Rng) : Nat := (p.2 + 1 - p.1).toNat
def widen (acc : List St1) (p : Rng) : List St1 := acc.flatMap fun o => (List.range (span p)).map fun t : Nat => (o ++ [p.1 + (t : Int)] : St1)
def statesOf (ps : List Rng) : List St1 := ps.foldl widen [[]]
def many (ps : List Rng) : Nat := (ps.map span).foldl (· * ·) 1
theorem flat_len {α : Type} (n : Nat) (f : α → List St1) (h : ∀ a, (f a).length = n) : ∀ l : List α, (l.flatMap f).length = l.length * n
  | [] => by simp
  | a :: l => by rw [List.flatMap_cons, List.length_append, h, flat_len n f h l, List.length_cons, Nat.succ_mul, Nat.add_comm]
theorem widen_len (acc : List St1) (p : Rng) : (widen acc p).length = acc.length * span p := flat_len _ _ (fun _ => by simp) _
theorem foldl_len (ps : List Rng) : ∀ acc : List St1, (ps.foldl widen acc).length = (ps.map span).foldl (· * ·) acc.length := by
  induction ps with
  | nil => intro acc; rfl
  | cons p ps ih => intro acc; rw [List.foldl_cons, ih, widen_len, List.map_cons, List.foldl_cons]
theorem states_len (ps : List Rng) : (statesOf ps).length = many ps := foldl_len ps [[]]
theorem states_snoc {ps : List Rng} {i : Nat} {p : Rng} (h : ps[i]? = some p) : statesOf (ps.take (i + 1)) = widen (statesOf (ps.take i)) p := by
  obtain ⟨h1, rfl⟩ := List.getElem?_eq_some_iff.mp h
  rw [List.take_succ_eq_append_getElem h1, statesOf, List.foldl_append]
  rfl
theorem foldl_le (ns : List Nat) (h : ∀ n ∈ ns, 1 ≤ n) : ∀ m, m ≤ ns.foldl (· * ·) m := by
  induction ns with
  | nil => intro m; exact Nat.le_refl _
  | cons n ns ih =>
    intro m
    have h1 := h n (List.mem_cons_self ..)
    exact Nat.le_trans (Nat.le_mul_of_pos_right m h1) (ih (fun k hk => h k (List.mem_cons_of_mem _ hk)) _)
theorem many_take {ps : List Rng} (h : ∀ p ∈ ps, 1 ≤ span p) (i : Nat) : many (ps.take i) ≤ many ps := by
  have e : ps.map span = (ps.take i).map span ++ (ps.drop i).map span := by rw [← List.map_append, List.take_append_drop]
  unfold many
  rw [e, List.foldl_append]
  refine foldl_le _ (fun n hn => ?_) _
  obtain ⟨p, hp, rfl⟩ := List.mem_map.mp hn
  exact h p (List.mem_of_mem_drop hp)
theorem fold_mem (ps : List Rng) : ∀ (acc : List St1) (n : Nat), (∀ o ∈ acc, o.length = n) → ∀ o ∈ ps.foldl widen acc, o.length = n + ps.length := by
  induction ps with
  | nil => intro acc n h o ho; exact h o ho
  | cons p ps ih =>
    intro acc n h o ho
    have := ih (widen acc p) (n + 1) (fun o' ho' => by
      obtain ⟨o2, h2, h3⟩ := List.mem_flatMap.mp ho'
      obtain ⟨t, _, rfl⟩ := List.mem_map.mp h3
      rw [List.length_append, h o2 h2]; rfl) o ho
    rw [List.length_cons]; omega
theorem states_mem {ps : List Rng} {o : St1} (h : o ∈ statesOf ps) : o.length = ps.length := by
  have := fold_mem ps [[]] 0 (fun o h => by rw [List.mem_singleton.mp h]; rfl) o h
  omega
theorem widen_snoc {acc : List St1} {j : Nat} {o : St1} {p : Rng} (h : acc[j]? = some o) : widen (acc.take (j + 1)) p = widen (acc.take j) p ++ (List.range (span p)).map fun t : Nat => (o ++ [p.1 + (t : Int)] : St1) := by
  obtain ⟨h1, rfl⟩ := List.getElem?_eq_some_iff.mp h
  rw [List.take_succ_eq_append_getElem h1, widen, List.flatMap_append]
  simp [widen]
theorem rg_len (rs : List Row) : (rg rs).length = total rs := by rw [← rngs_len, rngs_eq, List.length_map]
/-- what is asked of the rows of a law's cells -/
structure Small (rs : List Row) : Prop where
  tot : total rs ≤ 10
  sp : ∀ p ∈ rg rs, 1 ≤ span p ∧ -1000 ≤ p.1 ∧ p.2 ≤ 1000
  many : many (rg rs) ≤ 256
def rStates : List PyData → List PyData → Prop := fun ds es => ∃ rs : List Row, ds = [cellsD rs] ∧ Small rs ∧ es = (statesOf (rg rs)).map stD
end K

namespace G
open PySem PySem.Spec PyProof.Rows L2
theorem iff0 {A B : Prop} (b : B) : if false = true then A else B := b
section
variable {c : Cd} {σ : L2.St} {H : Hp} {Q : VK} {pos : Pos} {x y : V}
def cutD {α : Type} (xs : List α) (lo hi : Option Int) : List α := (xs.drop (HT.sIx xs.length 0 lo)).take (HT.sIx xs.length xs.length hi - HT.sIx xs.length 0 lo)
theorem rsl_tup {ds : List PyData} {lo hi : Option Int} (hx : Dt c.K H x (.tuple ds)) (q : ∀ v H2, Same H H2 → Dt c.K H2 v (.tuple (cutD ds lo hi)) → Q v H2) : RSl c x lo hi H Q := by
  obtain ⟨a, xs, rfl, ht, hd⟩ := hx.tupE
  have hl := hd.len
  have hc : DtAll c.K H (cutV xs lo hi) (cutD ds lo hi) := by
    unfold cutV cutD
    rw [hl]
    exact DtAll.take _ (DtAll.drop _ hd)
  refine rsl_of (r := rSlA c.K) (fun X h => by rw [← h.K]; exact sl_tupA) ⟨a, xs, rfl, ht, fun e => ?_, fun _ p hp => q _ _ (same_new hp) (.tup (.of upd_same) (hc.mono (tp_same (same_new hp))))⟩
  refine q _ _ (Same.refl _) ?_
  have e2 : cutD ds lo hi = ds := by
    unfold cutD
    rw [← hl, e.1, e.2]
    simp [hl]
  rw [e2]
  exact hx
end
end G
namespace K
open PySem L2 G
variable {M : Md}
section
variable {c : Cd} {σ : L2.St} {H : Hp} {Q : VK} {pos : Pos}
end
def nameOf (r : Row) : Str := r.1
theorem many_app (ps qs : List Rng) : many (ps ++ qs) = many ps * many qs := by
  unfold many
  rw [List.map_append, List.foldl_append]
  have h : ∀ (ns : List Nat) (a : Nat), ns.foldl (· * ·) a = a * ns.foldl (· * ·) 1 := by
    intro ns
    induction ns with
    | nil => intro a; simp
    | cons n ns ih => intro a; rw [List.foldl_cons, List.foldl_cons, ih (a * n), ih (1 * n), Nat.one_mul, Nat.mul_assoc]
  exact h _ _
theorem many_rep (n : Nat) (p : Rng) : many (List.replicate n p) = span p ^ n := by
  induction n with
  | zero => rfl
  | succ n ih =>
    rw [List.replicate_succ, show p :: List.replicate n p = [p] ++ List.replicate n p from rfl, many_app, ih, Nat.pow_succ, Nat.mul_comm]
    congr 1
    exact Nat.one_mul _
theorem many_row (rs : List Row) (r : Row) : many (rg (rs ++ [r])) = many (rg rs) * span (r.2.2.1, r.2.2.2.1) ^ width r := by
  have : rg (rs ++ [r]) = rg rs ++ List.replicate (width r) (r.2.2.1, r.2.2.2.1) := by simp [rg, List.flatMap_append]
  rw [this, many_app, many_rep]
theorem dtInts {K : PySem.W.Frag} {H : Hp} : ∀ ns : List Int, DtAll K H (ns.map V.int) (ns.map PyData.int)
  | [] => .nil
  | n :: ns => .cons (.int n) (dtInts ns)
theorem dtStrs {K : PySem.W.Frag} {H : Hp} : ∀ ns : List Str, DtAll K H (ns.map V.str) (ns.map PyData.str)
  | [] => .nil
  | n :: ns => .cons (.str n) (dtStrs ns)
theorem cutD_sub {α : Type} (xs : List α) (lo hi : Option Int) : (cutD xs lo hi).Sublist xs := (List.take_sublist _ _).trans (List.drop_sublist _ _)
theorem cutD_map {α β : Type} (g : α → β) (xs : List α) (lo hi : Option Int) : cutD (xs.map g) lo hi = (cutD xs lo hi).map g := by
  unfold cutD
  rw [List.length_map, List.map_take, List.map_drop]
end K

namespace G
open PySem PySem.Spec PyProof.Rows L2
structure Shp (n : Nat) (d : PyData) : Prop where
  lay : PyData.canLay0 d = true
  dep : PyData.depth d ≤ n
theorem shp_all {n : Nat} : ∀ {ds : List PyData}, (∀ d ∈ ds, Shp n d) → PyData.canLayAll0 ds = true ∧ PyData.depthAll ds ≤ n
  | [], _ => ⟨by simp [PyData.canLayAll0], by simp [PyData.depthAll]⟩
  | d :: ds, h => by
    have h1 := h d (List.mem_cons_self ..)
    have h2 := shp_all fun e he => h e (List.mem_cons_of_mem _ he)
    refine ⟨by simp [PyData.canLayAll0, h1.lay, h2.1], ?_⟩
    simp only [PyData.depthAll]
    have := h1.dep
    have := h2.2
    omega
theorem shp_tup {n : Nat} {ds : List PyData} (h : ∀ d ∈ ds, Shp n d) : Shp (n + 1) (.tuple ds) := by
  have := shp_all h
  exact ⟨by simp only [PyData.canLay0]; exact this.1, by simp only [PyData.depth]; omega⟩
theorem shp_lst {n : Nat} {ds : List PyData} (h : ∀ d ∈ ds, Shp n d) : Shp (n + 1) (.list ds) := by
  have := shp_all h
  exact ⟨by simp only [PyData.canLay0]; exact this.1, by simp only [PyData.depth]; omega⟩
theorem shp_int {n : Nat} (i : Int) : Shp (n + 1) (.int i) := ⟨by simp [PyData.canLay0], by simp [PyData.depth]⟩
theorem shp_bl {n : Nat} (i : Bool) : Shp (n + 1) (.bool i) := ⟨by simp [PyData.canLay0], by simp [PyData.depth]⟩
theorem shp_non {n : Nat} : Shp (n + 1) .none := ⟨by simp [PyData.canLay0], by simp [PyData.depth]⟩
theorem shp_str {n : Nat} {s : Str} (h : PyData.strOk s = true) : Shp (n + 1) (.str s) := ⟨by simp only [PyData.canLay0]; exact h, by simp [PyData.depth]⟩
theorem Shp.ok {n : Nat} {d : PyData} (h : Shp n d) (hn : n ≤ 64 := by decide) : SeqAt.shaped d = true := by
  show (PyData.canLay0 d && decide (PyData.depth d ≤ 64)) = true
  rw [h.lay, Bool.true_and]
  exact decide_eq_true (Nat.le_trans h.dep hn)
section
variable {c : Cd} {σ : L2.St} {H : Hp} {Q : VK} {pos : Pos} {x y : V}
/-- xs == [] -/
theorem ro_eqNil {p q0 : Addr} {xs : List V} {ds : List PyData} {n : Nat} (h1 : H p = some (.lst xs)) (hd : DtAll c.K H xs ds) (hs : ∀ d ∈ ds, Shp n d) (hn : n + 1 ≤ 64) (h2 : H q0 = some (.lst [])) (q : Q (.bl ds.isEmpty) H) : RQ c .Eq (.ref p) (.ref q0) H Q := by
  refine ro_eqD (.lst (SqL.of h1) hd.dp) (.lst (SqL.of h2) .nil) ((shp_lst hs).ok hn) (by decide) ?_
  cases ds with
  | nil => exact q
  | cons d ds => exact q
theorem ro_neNil {p q0 : Addr} {xs : List V} {ds : List PyData} {n : Nat} (h1 : H p = some (.lst xs)) (hd : DtAll c.K H xs ds) (hs : ∀ d ∈ ds, Shp n d) (hn : n + 1 ≤ 64) (h2 : H q0 = some (.lst [])) (q : Q (.bl (!ds.isEmpty)) H) : RQ c .NotEq (.ref p) (.ref q0) H Q := by
  refine ro_neD (.lst (SqL.of h1) hd.dp) (.lst (SqL.of h2) .nil) ((shp_lst hs).ok hn) (by decide) ?_
  cases ds with
  | nil => exact q
  | cons d ds => exact q
end
end G
namespace K
open PySem L2 G
variable {M : Md}
inductive Ex where
  | int (i : Int) | nm (s : Str) | at (t : Str) (e : Ex) | un (op : Str) (e : Ex) | bin (op : Str) (a b : Ex) | kk (op : Str) (e : Ex) (n : Int) | ite (a b d : Ex)
def Ex.d : Ex → PyData
  | .int i => .int i
  | .nm s => .str s
  | .at t e => .tuple [.str "at", .str t, e.d]
  | .un op e => .tuple [.str op, e.d]
  | .bin op a b => .tuple [.str op, a.d, b.d]
  | .kk op e n => .tuple [.str op, e.d, .int n]
  | .ite a b e => .tuple [.str "if", a.d, b.d, e.d]
def Ex.dep : Ex → Nat
  | .int _ | .nm _ => 0
  | .at _ e | .un _ e | .kk _ e _ => e.dep + 1
  | .bin _ a b => max a.dep b.dep + 1
  | .ite a b e => max a.dep (max b.dep e.dep) + 1
def bins : List Str := ["+", "-", "*", "least", "most", "=", "<", "<=", "and", "or"]
def uns : List Str := ["not", "neg"]
def kks : List Str := ["div", "mod"]
/-- an expression that fits the rows -/
def Fit (rs : List Row) : Ex → Prop
  | .int i => -1000000 ≤ i ∧ i ≤ 1000000
  | .nm s => ∃ r ∈ rs, r.1 = s ∧ r.2.1 = 0
  | .at t e => (∃ r ∈ rs, r.1 = t ∧ 0 < r.2.1) ∧ Fit rs e
  | .un op e => op ∈ uns ∧ Fit rs e
  | .bin op a b => op ∈ bins ∧ Fit rs a ∧ Fit rs b
  | .kk op e n => op ∈ kks ∧ Fit rs e ∧ (1 ≤ n ∧ n ≤ 5)
  | .ite a b e => Fit rs a ∧ Fit rs b ∧ Fit rs e
/-- rows that drawing functions are given -/
structure RowsIn (rs : List Row) : Prop where
  len : rs.length ≤ 10
  nm : ∀ r ∈ rs, PyData.strOk r.1 = true
def plains (rs : List Row) : List Str := (rs.filter fun r => r.2.1 == 0).map nameOf
def gPlain : PyData → Option PyData
  | .tuple (n :: .int s :: _) => if s = 0 then some n else none
  | _ => none
theorem gPlain_all (rs : List Row) : (rs.map rowD).filterMap gPlain = (plains rs).map .str := by
  induction rs with
  | nil => rfl
  | cons r rs ih =>
    unfold plains at *
    rw [List.map_cons, List.filterMap_cons, List.filter_cons]
    have e : gPlain (rowD r) = if ((r.2.1 : Nat) : Int) = 0 then some (PyData.str r.1) else none := rfl
    rw [e]
    by_cases h : r.2.1 = 0
    · rw [if_pos (by omega), if_pos (by simpa using h), List.map_cons, List.map_cons, ← ih]; rfl
    · rw [if_neg (by omega), if_neg (by simpa using h), ← ih]
theorem plains_mem {rs : List Row} {s : Str} (h : s ∈ plains rs) : ∃ r ∈ rs, r.1 = s ∧ r.2.1 = 0 := by
  obtain ⟨r, hr, rfl⟩ := List.mem_map.mp h
  obtain ⟨h1, h2⟩ := List.mem_filter.mp hr
  exact ⟨r, h1, rfl, by simpa using h2⟩
theorem leafInt (w : Int) (h : w ∈ ([0, 1, 2, -1, 3, -2, 7, 1] : List Int)) : -1000000 ≤ w ∧ w ≤ 1000000 := by
  have : ∀ w ∈ ([0, 1, 2, -1, 3, -2, 7, 1] : List Int), -1000000 ≤ w ∧ w ≤ 1000000 := by decide
  exact this w h
end K

namespace K
open PySem L2 G
variable {M : Md}
def wordsL : List Str := ["+", "-", "*", "least", "most", "=", "<", "<=", "and", "or", "not", "neg", "div", "mod", "if", "at", "at", "+"]
def tabs (rs : List Row) : List Str := (rs.filter fun r => decide (0 < r.2.1)).map nameOf
def gTab : PyData → Option PyData
  | .tuple (n :: .int s :: _) => if 0 < s then some n else none
  | _ => none
theorem gTab_all (rs : List Row) : (rs.map rowD).filterMap gTab = (tabs rs).map .str := by
  induction rs with
  | nil => rfl
  | cons r rs ih =>
    unfold tabs at *
    rw [List.map_cons, List.filterMap_cons, List.filter_cons]
    have e : gTab (rowD r) = if 0 < ((r.2.1 : Nat) : Int) then some (PyData.str r.1) else none := rfl
    rw [e]
    by_cases h : 0 < r.2.1
    · rw [if_pos (by omega), if_pos (by simpa using h), List.map_cons, List.map_cons, ← ih]; rfl
    · rw [if_neg (by omega), if_neg (by simpa using h), ← ih]
theorem tabs_mem {rs : List Row} {s : Str} (h : s ∈ tabs rs) : ∃ r ∈ rs, r.1 = s ∧ 0 < r.2.1 := by
  obtain ⟨r, hr, rfl⟩ := List.mem_map.mp h
  obtain ⟨h1, h2⟩ := List.mem_filter.mp hr
  exact ⟨r, h1, rfl, by simpa using h2⟩
theorem rowD_inj {r r' : Row} (h : rowD r = rowD r') : r = r' := by
  obtain ⟨a, b, c, d, e, f, g⟩ := r
  obtain ⟨a', b', c', d', e', f', g'⟩ := r'
  unfold rowD at h
  simp only [PyData.tuple.injEq, List.cons.injEq, PyData.str.injEq, PyData.int.injEq, PyData.bool.injEq] at h
  obtain ⟨rfl, h2, rfl, rfl, rfl, rfl, rfl, _⟩ := h
  have : b = b' := by omega
  rw [this]
theorem cellsD_inj {rs rs' : List Row} (h : cellsD rs = cellsD rs') : rs = rs' := by
  unfold cellsD at h
  rw [PyData.tuple.injEq] at h
  induction rs generalizing rs' with
  | nil =>
    cases rs' with
    | nil => rfl
    | cons => cases h
  | cons r rs ih =>
    cases rs' with
    | nil => cases h
    | cons r' rs' =>
      rw [List.map_cons, List.map_cons, List.cons.injEq] at h
      rw [rowD_inj h.1, ih h.2]
theorem inS (w : Str) (l : List Str) : inV (.str w) (l.map .str) = decide (w ∈ l) := by
  unfold inV
  rw [Bool.eq_iff_iff, List.any_eq_true, decide_eq_true_iff]
  constructor
  · rintro ⟨y, hy, h⟩
    obtain ⟨z, hz, rfl⟩ := List.mem_map.mp hy
    have : z = w := by simpa [eqV] using h
    rw [← this]; exact hz
  · intro h
    exact ⟨.str w, List.mem_map.mpr ⟨w, h, rfl⟩, by simp [eqV]⟩
theorem flatS (l : List Str) : (l.map V.str).all flatV = true := by simp [flatV]
theorem dtStrs_eq {K : PySem.W.Frag} {H : Hp} : ∀ {ws : List Str} {xs : List V}, DtAll K H xs (ws.map .str) → xs = ws.map .str
  | [], _, h => by cases h; rfl
  | w :: ws, _, h => by
    cases h with
    | cons h1 h2 =>
      cases h1
      rw [dtStrs_eq h2, List.map_cons]
theorem ro_inST {c : Cd} {H : Hp} {Q : VK} {y : V} {w : Str} {ws : List Str} (hx : Dt c.K H y (.tuple (ws.map .str))) (q : Q (.bl (decide (w ∈ ws))) H) : RQ c .In (.str w) y H Q := by
  obtain ⟨a, xs, rfl, ht, hd⟩ := hx.tupE
  obtain rfl := dtStrs_eq hd
  refine rq_of (r := rIn c.K false) (fun X h => by rw [← h.K]; exact op_in_seq) ⟨a, _, rfl, .inr ht, rfl, flatS ws, ?_⟩
  show Q (.bl (inV (.str w) (ws.map .str))) H
  rw [inS]
  exact q
theorem words_all : ∀ w ∈ wordsL, w = "at" ∨ w ∈ kks ∨ w ∈ bins ∨ w ∈ uns ∨ w = "if" := by decide +kernel
end K

namespace K
open PySem L2 G
variable {M : Md}
/-! ### the meaning of expressions -/
def gt (st : St1) (j : Int) : Int := st.getD j.toNat 0
def b2 (p : Prop) [Decidable p] : Int := if p then 1 else 0
def un1 (op : Str) (v : Int) : Int := if op = "not" then b2 (v = 0) else -v
def cmp2 (op : Str) (a b : Int) : Bool := if op = "=" then decide (a = b) else if op = "<" then decide (a < b) else decide (a ≤ b)
def bin2 (op : Str) (a b : Int) : Int := if op = "+" then a + b else if op = "-" then a - b else if op = "*" then a * b else if op = "div" then a / b else if op = "mod" then a % b else
  if op = "least" then (if b < a then b else a) else if op = "most" then (if b > a then b else a) else if cmp2 op a b = true then 1 else 0
def ix (rs : List Row) (s : Str) : Int := (fIdx rs s none 0).getD 0
abbrev Res := Option Int × List Int
def thn1 (r : Res) (g : Int → Res) : Res := match r.1 with
  | none => (none, r.2)
  | some v => ((g v).1, r.2 ++ (g v).2)
def keyed (rs : List Row) (t : Str) (r : Res) : Res := match r.1 with
  | none => (none, r.2)
  | some v => (fIdx rs t (some v) 0, r.2)
def isLazy (op : Str) : Bool := decide (op = "and") || decide (op = "or")
def ev (rs : List Row) (st : St1) : Ex → Res
  | .int i => (some i, [])
  | .nm s => (some (gt st (ix rs s)), [ix rs s])
  | .at t e => thn1 (keyed rs t (ev rs st e)) fun j => (some (gt st j), [j])
  | .un op e => thn1 (ev rs st e) fun v => (some (un1 op v), [])
  | .bin op a b => if isLazy op = true then thn1 (ev rs st a) fun v => if decide (v ≠ 0) = decide (op = "or") then (some (b2 (v ≠ 0)), []) else thn1 (ev rs st b) fun w => (some (b2 (w ≠ 0)), [])
    else thn1 (ev rs st a) fun v => thn1 (ev rs st b) fun w => (some (bin2 op v w), [])
  | .kk op e n => thn1 (ev rs st e) fun v => (some (bin2 op v n), [])
  | .ite a b e => thn1 (ev rs st a) fun v => if v ≠ 0 then ev rs st b else ev rs st e
def resD (r : Res) : PyData := .tuple [optD r.1, .tuple (r.2.map .int)]
structure StOk (rs : List Row) (st : St1) : Prop where
  len : st.length = total rs
  val : ∀ v ∈ st, -1000 ≤ v ∧ v ≤ 1000
  tot : total rs ≤ 10
  nd : (rs.map nameOf).Nodup
  ri : RowsIn rs
  rng : ∀ (i : Nat) (r : Rng), (rg rs)[i]? = some r → r.1 ≤ gt st i ∧ gt st i ≤ r.2
theorem fIdx_in : ∀ {rs : List Row} {s : Str} {key : Option Int} {b j : Int}, fIdx rs s key b = some j → b ≤ j ∧ j < b + total rs
  | [], _, _, _, _, h => by cases h
  | r :: rs, s, key, b, j, h => by
    have e : total (r :: rs) = width r + total rs := by simp [total]
    have w1 : 1 ≤ width r := Nat.le_max_left _ _
    have w2 : r.2.1 ≤ width r := Nat.le_max_right _ _
    unfold fIdx at h
    split at h
    · cases key with
      | none =>
        rw [hit] at h
        split at h
        · cases h; omega
        · cases h
      | some k =>
        rw [hit] at h
        split at h
        · cases h; omega
        · cases h
    · have := fIdx_in h
      omega
theorem fIdx_plain : ∀ {rs : List Row} {s : Str} (b : Int), (rs.map nameOf).Nodup → (∃ r ∈ rs, r.1 = s ∧ r.2.1 = 0) → ∃ j, fIdx rs s none b = some j
  | [], _, _, _, h => by obtain ⟨r, hr, _⟩ := h; cases hr
  | r :: rs, s, b, nd, h => by
    rw [List.map_cons, List.nodup_cons] at nd
    unfold fIdx
    by_cases e : r.1 = s
    · rw [if_pos e]
      obtain ⟨r', hr', e', z'⟩ := h
      rcases List.mem_cons.mp hr' with rfl | hm
      · refine ⟨b, ?_⟩
        rw [hit]
        rw [if_pos (by omega)]
      · exact absurd (List.mem_map.mpr ⟨r', hm, show nameOf r' = nameOf r from e'.trans e.symm⟩) nd.1
    · rw [if_neg e]
      refine fIdx_plain _ nd.2 ?_
      obtain ⟨r', hr', e', z'⟩ := h
      rcases List.mem_cons.mp hr' with rfl | hm
      · exact absurd e' e
      · exact ⟨r', hm, e', z'⟩
theorem ix_ok {rs : List Row} {s : Str} (nd : (rs.map nameOf).Nodup) (h : ∃ r ∈ rs, r.1 = s ∧ r.2.1 = 0) : fIdx rs s none 0 = some (ix rs s) ∧ 0 ≤ ix rs s ∧ ix rs s < total rs := by
  obtain ⟨j, hj⟩ := fIdx_plain 0 nd h
  have e : ix rs s = j := by unfold ix; rw [hj]; rfl
  have := fIdx_in hj
  rw [e]
  exact ⟨hj, by omega, by omega⟩
theorem gt_at {rs : List Row} {st : St1} (S : StOk rs st) {j : Int} (h0 : 0 ≤ j) (h1 : j < total rs) : atI (st.map PyData.int) j = some (.int (gt st j)) := by
  have hl := S.len
  have hlt : j.toNat < st.length := by omega
  refine pl_at (j := j.toNat) (by omega) ?_
  rw [List.getElem?_map, List.getElem?_eq_getElem hlt]
  unfold gt
  rw [List.getD_eq_getElem?_getD, List.getElem?_eq_getElem hlt]
  rfl
theorem gt_val {rs : List Row} {st : St1} (S : StOk rs st) (j : Int) : -1000 ≤ gt st j ∧ gt st j ≤ 1000 := by
  unfold gt
  rw [List.getD_eq_getElem?_getD]
  cases e : st[j.toNat]? with
  | none => exact ⟨by decide, by decide⟩
  | some v => exact S.val v (List.mem_of_getElem? e)
theorem thn1_some {r : Res} {g : Int → Res} {w : Int} (h : (thn1 r g).1 = some w) : ∃ v, r.1 = some v ∧ (g v).1 = some w := by
  unfold thn1 at h
  cases e : r.1 with
  | none => rw [e] at h; cases h
  | some v => rw [e] at h; exact ⟨v, rfl, h⟩
def Bd : Nat → Nat
  | 0 => 1000000
  | n + 1 => Bd n * Bd n
theorem Bd_ge : ∀ n, 1000000 ≤ Bd n
  | 0 => Nat.le_refl _
  | n + 1 => Nat.le_trans (Bd_ge n) (Nat.le_mul_of_pos_left _ (Nat.lt_of_lt_of_le (by decide) (Bd_ge n)))
theorem Bd_two (n : Nat) : 2 * Bd n ≤ Bd (n + 1) := Nat.mul_le_mul_right _ (Nat.le_trans (by decide) (Bd_ge n))
theorem Bd_up (n : Nat) : Bd n ≤ Bd (n + 1) := by have := Bd_two n; omega
theorem un1_b {op : Str} {v : Int} {n : Nat} (h : v.natAbs ≤ Bd n) : (un1 op v).natAbs ≤ Bd (n + 1) := by
  have h1 := Bd_up n
  have h2 := Bd_ge n
  unfold un1 b2
  split
  · split <;> simp <;> omega
  · rw [Int.natAbs_neg]; omega
theorem bin2_b {op : Str} {a b : Int} {n : Nat} (ha : a.natAbs ≤ Bd n) (hb : b.natAbs ≤ Bd n) (hd : op = "div" ∨ op = "mod" → 1 ≤ b) : (bin2 op a b).natAbs ≤ Bd (n + 1) := by
  have h1 := Bd_two n
  have h2 := Bd_ge n
  unfold bin2
  split
  · omega
  split
  · omega
  split
  · rw [Int.natAbs_mul]; exact Nat.mul_le_mul ha hb
  split
  · rename_i h
    have hb1 := hd (.inl h)
    have : (a / b).natAbs ≤ a.natAbs := Int.natAbs_ediv_le_natAbs a b
    omega
  split
  · rename_i h
    have hb1 := hd (.inr h)
    have q1 := Int.emod_nonneg a (show b ≠ 0 by omega)
    have q2 := Int.emod_lt_of_pos a (show 0 < b by omega)
    omega
  split
  · split <;> omega
  split
  · split <;> omega
  split <;> simp <;> omega
theorem thn1_len {r : Res} {g : Int → Res} {a b : Nat} (h : r.2.length ≤ a) (h2 : ∀ v, r.1 = some v → (g v).2.length ≤ b) : (thn1 r g).2.length ≤ a + b := by
  unfold thn1
  cases e : r.1 with
  | none => simp; omega
  | some v => have := h2 v e; simp; omega
theorem kind_bin {op : Str} (h : op ∈ bins) : op ≠ "div" ∧ op ≠ "mod" := by
  have : ∀ op ∈ bins, op ≠ "div" ∧ op ≠ "mod" := by decide +kernel
  exact this op h
theorem b2_b (p : Prop) [Decidable p] (n : Nat) : (b2 p).natAbs ≤ Bd n := by
  have := Bd_ge n
  unfold b2
  split <;> simp <;> omega
theorem Bd_mono {m n : Nat} (h : m ≤ n) : Bd m ≤ Bd n := by
  induction h with
  | refl => exact Nat.le_refl _
  | step _ ih => exact Nat.le_trans ih (Bd_up _)
theorem evB {rs : List Row} {st : St1} (S : StOk rs st) : ∀ (e : Ex) (n : Nat) (v : Int), e.dep ≤ n → Fit rs e → (ev rs st e).1 = some v → v.natAbs ≤ Bd n
  | .int i, n, v, _, hf, h => by
    have h2 := Bd_ge n
    unfold ev at h
    cases h
    unfold Fit at hf
    omega
  | .nm s, n, v, _, hf, h => by
    have h2 := Bd_ge n
    unfold ev at h
    cases h
    have := gt_val S (ix rs s)
    omega
  | .at t e, n, v, hn, hf, h => by
    have h2 := Bd_ge n
    unfold ev at h
    obtain ⟨j, _, h3⟩ := thn1_some h
    cases h3
    have := gt_val S j
    omega
  | .un op e, n, v, hn, hf, h => by
    unfold Ex.dep at hn
    obtain ⟨m, rfl⟩ : ∃ m, n = m + 1 := ⟨n - 1, by omega⟩
    unfold ev at h
    obtain ⟨w, h3, h4⟩ := thn1_some h
    cases h4
    exact un1_b (evB S e m w (by omega) hf.2 h3)
  | .bin op a b, n, v, hn, hf, h => by
    unfold Ex.dep at hn
    obtain ⟨m, rfl⟩ : ∃ m, n = m + 1 := ⟨n - 1, by omega⟩
    unfold ev at h
    split at h
    · obtain ⟨w, h3, h4⟩ := thn1_some h
      split at h4
      · cases h4; exact b2_b _ _
      · obtain ⟨w2, h5, h6⟩ := thn1_some h4
        cases h6; exact b2_b _ _
    · obtain ⟨w, h3, h4⟩ := thn1_some h
      obtain ⟨w2, h5, h6⟩ := thn1_some h4
      cases h6
      exact bin2_b (evB S a m w (by omega) hf.2.1 h3) (evB S b m w2 (by omega) hf.2.2 h5) (fun z => z.elim (fun z => absurd z (kind_bin hf.1).1) (fun z => absurd z (kind_bin hf.1).2))
  | .kk op e k, n, v, hn, hf, h => by
    unfold Ex.dep at hn
    obtain ⟨m, rfl⟩ : ∃ m, n = m + 1 := ⟨n - 1, by omega⟩
    unfold ev at h
    obtain ⟨w, h3, h4⟩ := thn1_some h
    cases h4
    have h2 := Bd_ge m
    have h5 := hf.2.2
    exact bin2_b (evB S e m w (by omega) hf.2.1 h3) (by omega) (fun _ => h5.1)
  | .ite a b e, n, v, hn, hf, h => by
    unfold Ex.dep at hn
    obtain ⟨m, rfl⟩ : ∃ m, n = m + 1 := ⟨n - 1, by omega⟩
    unfold ev at h
    obtain ⟨w, h3, h4⟩ := thn1_some h
    have h2 := Bd_up m
    split at h4
    · exact Nat.le_trans (evB S b m v (by omega) hf.2.1 h4) h2
    · exact Nat.le_trans (evB S e m v (by omega) hf.2.2 h4) h2
theorem keyed_snd (rs : List Row) (t : Str) (r : Res) : (keyed rs t r).2 = r.2 := by
  unfold keyed
  split <;> rfl
theorem evL {rs : List Row} {st : St1} : ∀ (e : Ex) (n : Nat), e.dep ≤ n → (ev rs st e).2.length ≤ 2 ^ (n + 1)
  | .int i, n, _ => by unfold ev; exact Nat.zero_le _
  | .nm s, n, _ => by unfold ev; exact Nat.pos_of_ne_zero (by simp)
  | .at t e, n, hn => by
    unfold Ex.dep at hn
    obtain ⟨m, rfl⟩ : ∃ m, n = m + 1 := ⟨n - 1, by omega⟩
    have h1 := evL (rs := rs) (st := st) e m (by omega)
    have h2 : 0 < 2 ^ (m + 1) := Nat.pos_of_ne_zero (by simp)
    unfold ev
    rw [Nat.pow_succ, Nat.mul_two]
    exact thn1_len (by rw [keyed_snd]; exact h1) (fun v _ => h2)
  | .un op e, n, hn => by
    unfold Ex.dep at hn
    obtain ⟨m, rfl⟩ : ∃ m, n = m + 1 := ⟨n - 1, by omega⟩
    have h1 := evL (rs := rs) (st := st) e m (by omega)
    unfold ev
    rw [Nat.pow_succ, Nat.mul_two]
    exact thn1_len h1 (fun v _ => Nat.zero_le _)
  | .bin op a b, n, hn => by
    unfold Ex.dep at hn
    obtain ⟨m, rfl⟩ : ∃ m, n = m + 1 := ⟨n - 1, by omega⟩
    have h1 := evL (rs := rs) (st := st) a m (by omega)
    have h2 := evL (rs := rs) (st := st) b m (by omega)
    unfold ev
    rw [Nat.pow_succ, Nat.mul_two]
    split
    · refine thn1_len h1 fun v _ => ?_
      split
      · exact Nat.zero_le _
      · exact thn1_len (b := 0) h2 fun _ _ => Nat.le_refl _
    · refine thn1_len h1 fun v _ => ?_
      exact thn1_len (b := 0) h2 fun _ _ => Nat.le_refl _
  | .kk op e k, n, hn => by
    unfold Ex.dep at hn
    obtain ⟨m, rfl⟩ : ∃ m, n = m + 1 := ⟨n - 1, by omega⟩
    have h1 := evL (rs := rs) (st := st) e m (by omega)
    unfold ev
    rw [Nat.pow_succ, Nat.mul_two]
    exact thn1_len h1 (fun v _ => Nat.zero_le _)
  | .ite a b e, n, hn => by
    unfold Ex.dep at hn
    obtain ⟨m, rfl⟩ : ∃ m, n = m + 1 := ⟨n - 1, by omega⟩
    have h1 := evL (rs := rs) (st := st) a m (by omega)
    have h2 := evL (rs := rs) (st := st) b m (by omega)
    have h3 := evL (rs := rs) (st := st) e m (by omega)
    unfold ev
    rw [Nat.pow_succ, Nat.mul_two]
    refine thn1_len h1 fun v _ => ?_
    split
    · exact h2
    · exact h3
end K

namespace K
open PySem L2 G
variable {M : Md}
theorem dib {p : Prop} [Decidable p] : (if decide p = true then (1 : Int) else 0) = b2 p := by
  unfold b2
  by_cases h : p
  · rw [if_pos (decide_eq_true h), if_pos h]
  · rw [if_neg (by simp [h]), if_neg h]
def rIndex : List PyData → PyData → Prop := fun ds d => ∃ (rs : List Row) (s : Str) (j : Int), ds = [cellsD rs, .str s, .none] ∧ fIdx rs s none 0 = some j ∧ d = .int j
theorem ok_index {f fd} (F : Fun M.K "cell_index" "cell_index" s_cell_index f fd) (b : Bl M) (df : Dc M "found_index" ["cells", "name", "key"] 2 (spF rFound M.K)) : FnG M.prog M.w M.K M.mg M.base CX0 3 f fd ["cells", "name", "key"] (spF rIndex M.K) := by
  refine fn_ok F sc_cell_index (fun vs H Q E h => ?_) (fun H vs Q E h => ?_)
  · obtain ⟨ds, d, h, ⟨rs, s, j, rfl, _⟩, _⟩ := h
    exact h.len
  obtain ⟨ds, d, h, ⟨rs, s, j, rfl, hj, rfl⟩, k⟩ := h
  obtain _ | ⟨hc, h⟩ := h
  obtain _ | ⟨hs, h⟩ := h
  obtain _ | ⟨hn, h⟩ := h
  cases h
  cases hs
  cases hn
  tm_at "go"
  refine e_callF df ?_
  tm_at "go"
  refine ⟨_, _, .cons hc (.cons (.str _) (.cons .non .nil)), ⟨rs, s, none, rfl, rfl⟩, fun v H1 s1 hv => ?_⟩
  rw [hj] at hv
  cases hv
  tm_at "go"
  exact k _ _ s1 (.int _)
def isIntD : PyData → Bool
  | .int _ => true
  | _ => false
def plainD : PyData → Prop
  | .int _ | .str _ | .tuple _ => True
  | _ => False
theorem rc_isiD {c : Cd} {H : Hp} {Q : VK} {v : V} {x : PyData} (hp : plainD x) (hx : Dt c.K H v x) (q : Q (.bl (isIntD x)) H) : RC c (.builtin "isinstance") [v, .ty "int"] H Q := by
  cases x with
  | int i =>
    cases hx
    exact rc_isi (.base (.int i)) rfl q
  | str s =>
    cases hx
    exact rc_isi (.base (.str s)) rfl q
  | tuple ds =>
    obtain ⟨a, xs, rfl, ht, _⟩ := hx.tupE
    exact rc_isi (ty_tup ht) rfl q
  | none => exact hp.elim
  | bool => exact hp.elim
  | list => exact hp.elim
  | dict => exact hp.elim
def rOne : List PyData → PyData → Prop := fun ds d => ∃ (op : Str) (v : Int), ds = [.str op, .int v] ∧ d = .int (un1 op v)
theorem ok_one {f fd} (F : Fun M.K "_of_one" "_of_one" s__of_one f fd) (b : Bl M) : FnG M.prog M.w M.K M.mg M.base CX0 1 f fd ["op", "value"] (spF rOne M.K) := by
  refine fn_ok F sc__of_one (fun vs H Q E h => ?_) (fun H vs Q E h => ?_)
  · obtain ⟨ds, d, h, ⟨op, v, rfl, _⟩, _⟩ := h
    exact h.len
  obtain ⟨ds, d, h, ⟨op, v, rfl, rfl⟩, k⟩ := h
  obtain _ | ⟨h1, h⟩ := h
  obtain _ | ⟨h2, h⟩ := h
  cases h
  cases h1
  cases h2
  tm_at "go"
  refine ifd (fun c1 => ?_) (fun c1 => ?_)
  · tm_at "go"
    refine k _ _ (Same.refl _) ?_
    rw [un1, if_pos c1, dib]
    exact .int _
  · tm_at "go"
    refine k _ _ (Same.refl _) ?_
    rw [un1, if_neg c1]
    exact .int _
def rCmp : List PyData → PyData → Prop := fun ds d => ∃ (op : Str) (a b : Int), ds = [.str op, .int a, .int b] ∧ d = .bool (cmp2 op a b)
theorem ok_cmp {f fd} (F : Fun M.K "_compared" "_compared" s__compared f fd) (b : Bl M) : FnG M.prog M.w M.K M.mg M.base CX0 1 f fd ["op", "one", "other"] (spF rCmp M.K) := by
  refine fn_ok F sc__compared (fun vs H Q E h => ?_) (fun H vs Q E h => ?_)
  · obtain ⟨ds, d, h, ⟨op, v, w, rfl, _⟩, _⟩ := h
    exact h.len
  obtain ⟨ds, d, h, ⟨op, v, w, rfl, rfl⟩, k⟩ := h
  obtain _ | ⟨h1, h⟩ := h
  obtain _ | ⟨h2, h⟩ := h
  obtain _ | ⟨h3, h⟩ := h
  cases h
  cases h1
  cases h2
  cases h3
  tm_at "go"
  refine ifd (fun c1 => ?_) (fun c1 => ?_)
  · tm_at "go"
    refine k _ _ (Same.refl _) ?_
    rw [cmp2, if_pos c1]
    exact .bl _
  · tm_at "go"
    refine ifd (fun c2 => ?_) (fun c2 => ?_)
    · tm_at "go"
      refine k _ _ (Same.refl _) ?_
      rw [cmp2, if_neg c1, if_pos c2]
      exact .bl _
    · tm_at "go"
      refine k _ _ (Same.refl _) ?_
      rw [cmp2, if_neg c1, if_neg c2]
      exact .bl _
theorem ro_mulW {c : Cd} {H : Hp} {Q : VK} {i j : Int} (hc : CMulW i j) (q : Q (.int (i * j)) H) : RO c .Mult (.int i) (.int j) H Q := ro_of (fun _ _ => op_mulW) ⟨i, j, rfl, rfl, hc, q⟩
def rTwo : List PyData → PyData → Prop := fun ds d => ∃ (op : Str) (a b : Int), ds = [.str op, .int a, .int b] ∧ (a.natAbs < 2 ^ 400 ∧ b.natAbs < 2 ^ 400) ∧ (op = "div" ∨ op = "mod" → 1 ≤ b ∧ b < 1000) ∧ d = .int (bin2 op a b)
set_option maxHeartbeats 1000000 in
theorem ok_two {f fd} (F : Fun M.K "value_of_two" "value_of_two" s_value_of_two f fd) (b : Bl M) (dc : Dc M "_compared" ["op", "one", "other"] 1 (spF rCmp M.K)) : FnG M.prog M.w M.K M.mg M.base CX0 2 f fd ["op", "one", "other"] (spF rTwo M.K) := by
  refine fn_ok F sc_value_of_two (fun vs H Q E h => ?_) (fun H vs Q E h => ?_)
  · obtain ⟨ds, d, h, ⟨op, v, w, rfl, _⟩, _⟩ := h
    exact h.len
  obtain ⟨ds, d, h, ⟨op, x, y, rfl, hb, hdm, rfl⟩, k⟩ := h
  obtain _ | ⟨h1, h⟩ := h
  obtain _ | ⟨h2, h⟩ := h
  obtain _ | ⟨h3, h⟩ := h
  cases h
  cases h1
  cases h2
  cases h3
  tm_at "go"
  refine ifd (fun c1 => ?_) (fun c1 => ?_)
  · tm_at "go"
    refine k _ _ (Same.refl _) ?_
    rw [bin2, if_pos c1]
    exact .int _
  tm_at "go"
  refine ifd (fun c2 => ?_) (fun c2 => ?_)
  · tm_at "go"
    refine k _ _ (Same.refl _) ?_
    rw [bin2, if_neg c1, if_pos c2]
    exact .int _
  tm_at "go"
  refine ifd (fun c3 => ?_) (fun c3 => ?_)
  · tm_at "go"
    refine ro_mulW (wide_mul hb.1 hb.2 (by decide) (by decide) (by decide)) ?_
    refine k _ _ (Same.refl _) ?_
    rw [bin2, if_neg c1, if_neg c2, if_pos c3]
    exact .int _
  tm_at "go"
  refine ifd (fun c4 => ?_) (fun c4 => ?_)
  · tm_at "go"
    have := hdm (.inl c4)
    refine ro_div (by omega) (by omega) ?_
    refine k _ _ (Same.refl _) ?_
    rw [bin2, if_neg c1, if_neg c2, if_neg c3, if_pos c4]
    exact .int _
  tm_at "go"
  refine ifd (fun c5 => ?_) (fun c5 => ?_)
  · tm_at "go"
    have := hdm (.inr c5)
    refine ro_mod (by omega) ?_
    refine k _ _ (Same.refl _) ?_
    rw [bin2, if_neg c1, if_neg c2, if_neg c3, if_neg c4, if_pos c5]
    exact .int _
  tm_at "go"
  refine ifd (fun c6 => ?_) (fun c6 => ?_)
  · tm_at "go"
    refine k _ _ (Same.refl _) ?_
    rw [bin2, if_neg c1, if_neg c2, if_neg c3, if_neg c4, if_neg c5, if_pos c6]
    exact .int _
  tm_at "go"
  refine ifd (fun c7 => ?_) (fun c7 => ?_)
  · tm_at "go"
    refine k _ _ (Same.refl _) ?_
    rw [bin2, if_neg c1, if_neg c2, if_neg c3, if_neg c4, if_neg c5, if_neg c6, if_pos c7]
    exact .int _
  tm_at "go"
  refine e_callF dc ?_
  tm_at "go"
  refine ⟨_, _, .cons (.str _) (.cons (.int _) (.cons (.int _) .nil)), ⟨op, x, y, rfl, rfl⟩, fun v H1 s1 hv => ?_⟩
  cases hv
  tm_at "go"
  refine k _ _ s1 ?_
  rw [bin2, if_neg c1, if_neg c2, if_neg c3, if_neg c4, if_neg c5, if_neg c6, if_neg c7]
  exact .int _
end K

namespace K
open PySem L2 G
variable {M : Md}
/-- what evaluated is given, and what it answers, to the depth n -/
structure EvIn (rs : List Row) (st : St1) (e : Ex) (n : Nat) : Prop where
  S : StOk rs st
  fit : Fit rs e
  dep : e.dep ≤ n
  n4 : n ≤ 4
def rEv (n : Nat) : List PyData → PyData → Prop := fun ds d => ∃ (rs : List Row) (st : St1) (e : Ex), ds = [cellsD rs, stD st, e.d] ∧ EvIn rs st e n ∧ d = resD (ev rs st e)
abbrev dcEv (M : Md) (n : Nat) : Prop := Dc M "evaluated" ["cells", "state", "expression"] (2 * n + 4) (spF (rEv n) M.K)
def rKey (n : Nat) : List PyData → PyData → Prop := fun ds d => ∃ (rs : List Row) (st : St1) (t : Str) (e : Ex), ds = [cellsD rs, stD st, .str t, e.d] ∧ EvIn rs st e n ∧ d = resD (keyed rs t (ev rs st e))
theorem Ex.plain (e : Ex) : plainD e.d := by cases e <;> trivial
theorem optN {K : PySem.W.Frag} {H : Hp} {v : V} {o : Option Int} (h : Dt K H v (optD o)) : (o = none ∧ v = .non) ∨ ∃ i, o = some i ∧ v = .int i := by
  cases o with
  | none => cases h; exact .inl ⟨rfl, rfl⟩
  | some i => cases h; exact .inr ⟨i, rfl, rfl⟩
theorem ok_keyed (n : Nat) {f fd} (F : Fun M.K "keyed_index" "keyed_index" s_keyed_index f fd) (b : Bl M) (df : Dc M "found_index" ["cells", "name", "key"] 2 (spF rFound M.K)) (de : dcEv M n) : FnG M.prog M.w M.K M.mg M.base CX0 (2 * n + 5) f fd ["cells", "state", "table", "key"] (spF (rKey n) M.K) := by
  refine fn_ok F sc_keyed_index (fun vs H Q E h => ?_) (fun H vs Q E h => ?_)
  · obtain ⟨ds, d, h, ⟨rs, st, t, e, rfl, _⟩, _⟩ := h
    exact h.len
  obtain ⟨ds, d, h, ⟨rs, st, t, e, rfl, hi, rfl⟩, k⟩ := h
  obtain _ | ⟨hc, h⟩ := h
  obtain _ | ⟨hst, h⟩ := h
  obtain _ | ⟨ht, h⟩ := h
  obtain _ | ⟨he, h⟩ := h
  cases h
  cases ht
  refine b_cons (s_asg ?_)
  refine e_callF de ?_ (Nat.le_refl _)
  tm_at "go"
  refine ⟨_, _, .cons hc (.cons hst (.cons he .nil)), ⟨rs, st, e, rfl, hi, rfl⟩, fun v H1 s1 hv => ?_⟩
  refine g_unp2 (by tm_at "at") (by tm_at "at") hv fun v1 v2 h1 h2 => ?_
  rcases optN h1 with ⟨eo, rfl⟩ | ⟨i, eo, rfl⟩
  · tm_at "go"
    refine e_tupD ?_
    tm_at "go"
    refine tupend (ds := [.none, .tuple ((ev rs st e).2.map .int)]) (.cons .non (.cons h2 .nil)) (Nat.le_of_ble_eq_true rfl) fun v9 H9 s9 h9 => ?_
    refine k _ _ (s1.trans s9) ?_
    unfold keyed resD
    rw [eo]
    exact h9
  · tm_at "go"
    refine e_tupD ?_
    tm_at "go"
    refine e_callF df ?_
    tm_at "go"
    refine ⟨_, _, .cons (hc.mono (tp_same s1)) (.cons (.str _) (.cons (.int _) .nil)), ⟨rs, t, some i, rfl, rfl⟩, fun v3 H3 s3 hv3 => ?_⟩
    tm_at "go"
    refine tupend (ds := [optD (fIdx rs t (some i) 0), .tuple ((ev rs st e).2.map .int)]) (.cons hv3 (.cons (h2.mono (tp_same s3)) .nil)) (Nat.le_of_ble_eq_true rfl) fun v9 H9 s9 h9 => ?_
    refine k _ _ (s1.trans (s3.trans s9)) ?_
    unfold keyed resD
    rw [eo]
    exact h9
end K

namespace K
open PySem L2 G
variable {M : Md}
def lazyE : Ex → Prop
  | .bin op _ _ => isLazy op = true
  | .ite _ _ _ => True
  | _ => False
def rLazy (n : Nat) : List PyData → PyData → Prop := fun ds d => ∃ (rs : List Row) (st : St1) (e : Ex), ds = [cellsD rs, stD st, e.d] ∧ lazyE e ∧ EvIn rs st e (n + 1) ∧ d = resD (ev rs st e)
theorem thn1_none {r : Res} {g : Int → Res} (h : r.1 = none) : thn1 r g = (none, r.2) := by
  unfold thn1
  rw [h]
theorem thn1_val {r : Res} {g : Int → Res} {v : Int} (h : r.1 = some v) : thn1 r g = ((g v).1, r.2 ++ (g v).2) := by
  unfold thn1
  rw [h]
theorem thn1_map {r : Res} {f : Int → Int} : thn1 r (fun w => (some (f w), [])) = (r.1.map f, r.2) := by
  unfold thn1
  cases r.1 with
  | none => rfl
  | some w => simp
theorem nb2 (v : Int) : (!decide (v = 0)) = decide (v ≠ 0) := by simp
theorem intb {p : Bool} : (if p = true then (1 : Int) else 0) = b2 (p = true) := rfl
theorem b2e {p q : Prop} [Decidable p] [Decidable q] (h : p ↔ q) : b2 p = b2 q := by
  unfold b2
  by_cases hp : p
  · rw [if_pos hp, if_pos (h.mp hp)]
  · rw [if_neg hp, if_neg (fun z => hp (h.mpr z))]
theorem lenLooks {rs : List Row} {st : St1} {e : Ex} {n : Nat} (h : e.dep ≤ n) (h4 : n ≤ 4) : ((ev rs st e).2.map PyData.int).length ≤ 32 := by
  rw [List.length_map]
  exact Nat.le_trans (evL e n h) (Nat.pow_le_pow_right (n := 2) (by decide) (show n + 1 ≤ 5 by omega))
set_option maxHeartbeats 2000000 in
theorem ok_lazy (n : Nat) {f fd} (F : Fun M.K "_lazy_value" "_lazy_value" s__lazy_value f fd) (b : Bl M) (de : dcEv M n) : FnG M.prog M.w M.K M.mg M.base CX0 (2 * n + 5) f fd ["cells", "state", "expression"] (spF (rLazy n) M.K) := by
  refine fn_ok F sc__lazy_value (fun vs H Q E h => ?_) (fun H vs Q E h => ?_)
  · obtain ⟨ds, d, h, ⟨rs, st, e, rfl, _⟩, _⟩ := h
    exact h.len
  obtain ⟨ds, d, h, ⟨rs, st, e, rfl, hl, hi, rfl⟩, k⟩ := h
  obtain _ | ⟨hc, h⟩ := h
  obtain _ | ⟨hst, h⟩ := h
  obtain _ | ⟨he, h⟩ := h
  cases h
  obtain ⟨S, fit, dep, n4⟩ := hi
  cases e with
  | int => exact hl.elim
  | nm => exact hl.elim
  | «at» => exact hl.elim
  | un => exact hl.elim
  | kk => exact hl.elim
  | bin op ea eb =>
    unfold Ex.d at he
    unfold Fit at fit
    unfold Ex.dep at dep
    have hlz : isLazy op = true := hl
    have hop : op ≠ "if" := by
      rintro rfl
      exact absurd (show isLazy "if" = true from hl) (by decide)
    tm_at "go"
    refine s_asg ?_
    refine e_callF de ?_ (Nat.le_refl _)
    tm_at "go"
    refine rx_tup he (d := ea.d) rfl fun va hva => ?_
    tm_at "go"
    refine ⟨_, _, .cons hc (.cons hst (.cons hva .nil)), ⟨rs, st, ea, rfl, ⟨S, fit.2.1, by omega, by omega⟩, rfl⟩, fun v H1 s1 hv => ?_⟩
    refine g_unp2 (by tm_at "at") (by tm_at "at") hv fun v1 v2 h1 h2 => ?_
    rcases optN h1 with ⟨eo, rfl⟩ | ⟨i, eo, rfl⟩
    · tm_at "go"
      refine e_tupD ?_
      tm_at "go"
      refine tupend (ds := [.none, .tuple ((ev rs st ea).2.map .int)]) (.cons .non (.cons h2 .nil)) (Nat.le_of_ble_eq_true rfl) fun v9 H9 s9 h9 => ?_
      refine k _ _ (s1.trans s9) ?_
      have e1 : ev rs st (.bin op ea eb) = (none, (ev rs st ea).2) := by
        rw [ev, if_pos hlz, thn1_none eo]
      rw [e1]
      exact h9
    · tm_at "go"
      refine ifd (fun c1 => absurd c1 hop) (fun c1 => ?_)
      tm_at "go"
      rw [nb2]
      refine ifd (fun c2 => ?_) (fun c2 => ?_)
      · tm_at "go"
        refine e_tupD ?_
        tm_at "go"
        refine tupend (ds := [.int (b2 (i ≠ 0)), .tuple ((ev rs st ea).2.map .int)]) (.cons (by rw [intb, b2e (q := i ≠ 0) (by simp)]; exact .int _) (.cons h2 .nil)) (Nat.le_of_ble_eq_true rfl) fun v9 H9 s9 h9 => ?_
        refine k _ _ (s1.trans s9) ?_
        have e1 : ev rs st (.bin op ea eb) = (some (b2 (i ≠ 0)), (ev rs st ea).2 ++ []) := by
          rw [ev, if_pos hlz, thn1_val eo, if_pos c2]
        rw [e1, List.append_nil]
        exact h9
      · tm_at "go"
        refine s_asg ?_
        refine e_callF de ?_ (Nat.le_refl _)
        tm_at "go"
        refine rx_tup (he.mono (tp_same s1)) (d := eb.d) rfl fun vb hvb => ?_
        tm_at "go"
        refine ⟨_, _, .cons (hc.mono (tp_same s1)) (.cons (hst.mono (tp_same s1)) (.cons hvb .nil)), ⟨rs, st, eb, rfl, ⟨S, fit.2.2, by omega, by omega⟩, rfl⟩, fun v H2 s2 hv => ?_⟩
        refine g_unp2 (by tm_at "at") (by tm_at "at") hv fun v3 v4 h3 h4 => ?_
        have e1 : ev rs st (.bin op ea eb) = ((ev rs st eb).1.map (fun w => b2 (w ≠ 0)), (ev rs st ea).2 ++ (ev rs st eb).2) := by
          rw [ev, if_pos hlz, thn1_val eo, if_neg c2, thn1_map]
        refine b_one (s_ret (e_tupD ?_))
        refine a_cons (e_if (t_cmp ?_))
        rcases optN h3 with ⟨eo2, rfl⟩ | ⟨i2, eo2, rfl⟩
        · tm_at "go"
          refine ro_catT (h2.mono (tp_same s2)) h4 (by have := lenLooks (rs := rs) (st := st) (e := ea) (n := n) (by omega) (by omega); have := lenLooks (rs := rs) (st := st) (e := eb) (n := n) (by omega) (by omega); omega) fun v8 H8 s8 h8 => ?_
          tm_at "go"
          refine tupend (ds := [.none, .tuple ((ev rs st ea).2.map .int ++ (ev rs st eb).2.map .int)]) (.cons .non (.cons h8 .nil)) (Nat.le_of_ble_eq_true rfl) fun v9 H9 s9 h9 => ?_
          refine k _ _ (s1.trans (s2.trans (s8.trans s9))) ?_
          rw [e1, eo2, resD, List.map_append]
          exact h9
        · tm_at "go"
          refine ro_catT (h2.mono (tp_same s2)) h4 (by have := lenLooks (rs := rs) (st := st) (e := ea) (n := n) (by omega) (by omega); have := lenLooks (rs := rs) (st := st) (e := eb) (n := n) (by omega) (by omega); omega) fun v8 H8 s8 h8 => ?_
          tm_at "go"
          refine tupend (ds := [.int (b2 (i2 ≠ 0)), .tuple ((ev rs st ea).2.map .int ++ (ev rs st eb).2.map .int)]) (.cons (by rw [intb, b2e (q := i2 ≠ 0) (by simp)]; exact .int _) (.cons h8 .nil)) (Nat.le_of_ble_eq_true rfl) fun v9 H9 s9 h9 => ?_
          refine k _ _ (s1.trans (s2.trans (s8.trans s9))) ?_
          rw [e1, eo2, resD, List.map_append]
          exact h9
  | ite ea eb ed =>
    unfold Ex.d at he
    unfold Fit at fit
    unfold Ex.dep at dep
    tm_at "go"
    refine s_asg ?_
    refine e_callF de ?_ (Nat.le_refl _)
    tm_at "go"
    refine rx_tup he (d := ea.d) rfl fun va hva => ?_
    tm_at "go"
    refine ⟨_, _, .cons hc (.cons hst (.cons hva .nil)), ⟨rs, st, ea, rfl, ⟨S, fit.1, by omega, by omega⟩, rfl⟩, fun v H1 s1 hv => ?_⟩
    refine g_unp2 (by tm_at "at") (by tm_at "at") hv fun v1 v2 h1 h2 => ?_
    rcases optN h1 with ⟨eo, rfl⟩ | ⟨i, eo, rfl⟩
    · tm_at "go"
      refine e_tupD ?_
      tm_at "go"
      refine tupend (ds := [.none, .tuple ((ev rs st ea).2.map .int)]) (.cons .non (.cons h2 .nil)) (Nat.le_of_ble_eq_true rfl) fun v9 H9 s9 h9 => ?_
      refine k _ _ (s1.trans s9) ?_
      have e1 : ev rs st (.ite ea eb ed) = (none, (ev rs st ea).2) := by rw [ev, thn1_none eo]
      rw [e1]
      exact h9
    · tm_at "go"
      refine s_asg ?_
      refine e_callF de ?_ (Nat.le_refl _)
      tm_at "go"
      refine t_val ?_
      tm_at "go"
      rw [nb2]
      refine ifd (fun c2 => ?_) (fun c2 => ?_)
      · tm_at "go"
        refine rx_tup (he.mono (tp_same s1)) (d := eb.d) rfl fun vb hvb => ?_
        tm_at "go"
        refine ⟨_, _, .cons (hc.mono (tp_same s1)) (.cons (hst.mono (tp_same s1)) (.cons hvb .nil)), ⟨rs, st, eb, rfl, ⟨S, fit.2.1, by omega, by omega⟩, rfl⟩, fun v H2 s2 hv => ?_⟩
        refine g_unp2 (by tm_at "at") (by tm_at "at") hv fun v3 v4 h3 h4 => ?_
        have e1 : ev rs st (.ite ea eb ed) = ((ev rs st eb).1, (ev rs st ea).2 ++ (ev rs st eb).2) := by rw [ev, thn1_val eo, if_pos c2]
        tm_at "go"
        refine e_tupD ?_
        tm_at "go"
        refine ro_catT (h2.mono (tp_same s2)) h4 (by have := lenLooks (rs := rs) (st := st) (e := ea) (n := n) (by omega) (by omega); have := lenLooks (rs := rs) (st := st) (e := eb) (n := n) (by omega) (by omega); omega) fun v8 H8 s8 h8 => ?_
        tm_at "go"
        refine tupend (ds := [optD (ev rs st eb).1, .tuple ((ev rs st ea).2.map .int ++ (ev rs st eb).2.map .int)]) (.cons (h3.mono (tp_same s8)) (.cons h8 .nil)) (Nat.le_of_ble_eq_true rfl) fun v9 H9 s9 h9 => ?_
        refine k _ _ (s1.trans (s2.trans (s8.trans s9))) ?_
        rw [e1, resD, List.map_append]
        exact h9
      · tm_at "go"
        refine rx_tup (he.mono (tp_same s1)) (d := ed.d) rfl fun vb hvb => ?_
        tm_at "go"
        refine ⟨_, _, .cons (hc.mono (tp_same s1)) (.cons (hst.mono (tp_same s1)) (.cons hvb .nil)), ⟨rs, st, ed, rfl, ⟨S, fit.2.2, by omega, by omega⟩, rfl⟩, fun v H2 s2 hv => ?_⟩
        refine g_unp2 (by tm_at "at") (by tm_at "at") hv fun v3 v4 h3 h4 => ?_
        have e1 : ev rs st (.ite ea eb ed) = ((ev rs st ed).1, (ev rs st ea).2 ++ (ev rs st ed).2) := by rw [ev, thn1_val eo, if_neg c2]
        tm_at "go"
        refine e_tupD ?_
        tm_at "go"
        refine ro_catT (h2.mono (tp_same s2)) h4 (by have := lenLooks (rs := rs) (st := st) (e := ea) (n := n) (by omega) (by omega); have := lenLooks (rs := rs) (st := st) (e := ed) (n := n) (by omega) (by omega); omega) fun v8 H8 s8 h8 => ?_
        tm_at "go"
        refine tupend (ds := [optD (ev rs st ed).1, .tuple ((ev rs st ea).2.map .int ++ (ev rs st ed).2.map .int)]) (.cons (h3.mono (tp_same s8)) (.cons h8 .nil)) (Nat.le_of_ble_eq_true rfl) fun v9 H9 s9 h9 => ?_
        refine k _ _ (s1.trans (s2.trans (s8.trans s9))) ?_
        rw [e1, resD, List.map_append]
        exact h9
end K

namespace K
open PySem L2 G
variable {M : Md}
def fullE : Ex → Prop
  | .bin op _ _ => isLazy op = false
  | .un _ _ => True
  | .kk _ _ _ => True
  | _ => False
def pts : Ex → List Ex
  | .bin _ a b => [a, b]
  | .un _ e => [e]
  | .kk _ e n => [e, .int n]
  | _ => []
def opOf : Ex → Str
  | .bin op _ _ => op
  | .un op _ => op
  | .kk op _ _ => op
  | _ => ""
theorem full_d {e : Ex} (h : fullE e) : e.d = .tuple (.str (opOf e) :: (pts e).map Ex.d) := by
  cases e with
  | bin => rfl
  | un => rfl
  | kk => rfl
  | int => exact h.elim
  | nm => exact h.elim
  | «at» => exact h.elim
  | ite => exact h.elim
abbrev Ress := Option (List Int) × List Int
def evs (rs : List Row) (st : St1) : List Ex → Ress
  | [] => (some [], [])
  | p :: ps => match (ev rs st p).1 with
    | none => (none, (ev rs st p).2)
    | some v => ((evs rs st ps).1.map (v :: ·), (ev rs st p).2 ++ (evs rs st ps).2)
def fullR (op : Str) (r : Ress) : Res := match r.1 with
  | none => (none, r.2)
  | some [] => (none, r.2)
  | some [v] => (some (un1 op v), r.2)
  | some (v :: w :: _) => (some (bin2 op v w), r.2)
theorem evs_none {rs : List Row} {st : St1} {p : Ex} {ps : List Ex} (h : (ev rs st p).1 = none) : evs rs st (p :: ps) = (none, (ev rs st p).2) := by
  rw [evs, h]
theorem evs_some {rs : List Row} {st : St1} {p : Ex} {ps : List Ex} {v : Int} (h : (ev rs st p).1 = some v) : evs rs st (p :: ps) = ((evs rs st ps).1.map (v :: ·), (ev rs st p).2 ++ (evs rs st ps).2) := by
  rw [evs, h]
theorem two_full (rs : List Row) (st : St1) (op : Str) (a b : Ex) : thn1 (ev rs st a) (fun v => thn1 (ev rs st b) fun w => (some (bin2 op v w), [])) = fullR op (evs rs st [a, b]) := by
  cases ea : (ev rs st a).1 with
  | none => rw [thn1_none ea, evs_none ea]; rfl
  | some v =>
    rw [thn1_val ea, evs_some ea]
    cases eb : (ev rs st b).1 with
    | none => rw [thn1_none eb, evs_none eb]; rfl
    | some w => rw [thn1_val eb, evs_some eb]; rfl
theorem ev_full {rs : List Row} {st : St1} {e : Ex} (h : fullE e) : ev rs st e = fullR (opOf e) (evs rs st (pts e)) := by
  cases e with
  | bin op a b =>
    have hf : isLazy op = false := h
    rw [ev, if_neg (by rw [hf]; decide), two_full]
    rfl
  | un op a =>
    rw [ev]
    show _ = fullR op (evs rs st [a])
    cases ea : (ev rs st a).1 with
    | none => rw [thn1_none ea, evs_none ea]; rfl
    | some v => rw [thn1_val ea, evs_some ea]; rfl
  | kk op a n =>
    rw [ev]
    show _ = fullR op (evs rs st [a, .int n])
    rw [← two_full]
    cases ea : (ev rs st a).1 with
    | none => rw [thn1_none ea, thn1_none ea]
    | some v => rw [thn1_val ea, thn1_val ea]; rfl
  | int => exact h.elim
  | nm => exact h.elim
  | «at» => exact h.elim
  | ite => exact h.elim
theorem cut1 {α : Type} (x : α) (l : List α) (h : l.length = 1 ∨ l.length = 2) : cutD (x :: l) (some 1) none = l := by
  match l, h with
  | [a], _ => rfl
  | [a, b], _ => rfl
theorem pts_len {e : Ex} (h : fullE e) : (pts e).length = 1 ∨ (pts e).length = 2 := by
  cases e with
  | bin => exact .inr rfl
  | un => exact .inl rfl
  | kk => exact .inr rfl
  | int => exact h.elim
  | nm => exact h.elim
  | «at» => exact h.elim
  | ite => exact h.elim
def rFull (n : Nat) : List PyData → PyData → Prop := fun ds d => ∃ (rs : List Row) (st : St1) (e : Ex), ds = [cellsD rs, stD st, e.d] ∧ fullE e ∧ EvIn rs st e (n + 1) ∧ d = resD (ev rs st e)
theorem pts_in {rs : List Row} {st : St1} {e : Ex} {n : Nat} (h : EvIn rs st e (n + 1)) : ∀ p ∈ pts e, EvIn rs st p n := by
  obtain ⟨S, fit, dep, n4⟩ := h
  have h4 : n ≤ 4 := by omega
  cases e with
  | bin op a b =>
    unfold Fit at fit
    unfold Ex.dep at dep
    intro p hp
    rcases List.mem_cons.mp hp with rfl | hp
    · exact ⟨S, fit.2.1, by omega, h4⟩
    rcases List.mem_cons.mp hp with rfl | hp
    · exact ⟨S, fit.2.2, by omega, h4⟩
    cases hp
  | un op a =>
    unfold Fit at fit
    unfold Ex.dep at dep
    intro p hp
    rcases List.mem_cons.mp hp with rfl | hp
    · exact ⟨S, fit.2, by omega, h4⟩
    cases hp
  | kk op a k =>
    unfold Fit at fit
    unfold Ex.dep at dep
    intro p hp
    rcases List.mem_cons.mp hp with rfl | hp
    · exact ⟨S, fit.2.1, by omega, h4⟩
    rcases List.mem_cons.mp hp with rfl | hp
    · exact ⟨S, by unfold Fit; omega, Nat.zero_le _, h4⟩
    cases hp
  | int => exact fun _ h => nomatch h
  | nm => exact fun _ h => nomatch h
  | «at» => exact fun _ h => nomatch h
  | ite => exact fun _ h => nomatch h
theorem evs_bd {rs : List Row} {st : St1} {n : Nat} : ∀ {ps : List Ex} {vs : List Int}, (∀ p ∈ ps, EvIn rs st p n) → (evs rs st ps).1 = some vs → (∀ v ∈ vs, v.natAbs ≤ Bd n) ∧ vs.length = ps.length
  | [], vs, _, h => by
    rw [evs] at h
    cases h
    exact ⟨(fun _ h => nomatch h), rfl⟩
  | p :: ps, vs, hp, h => by
    have h1 := hp p (List.mem_cons_self ..)
    cases e : (ev rs st p).1 with
    | none => rw [evs_none e] at h; cases h
    | some v =>
      rw [evs_some e] at h
      obtain ⟨ws, hw, rfl⟩ := Option.map_eq_some_iff.mp h
      obtain ⟨h2, h3⟩ := evs_bd (fun q hq => hp q (List.mem_cons_of_mem _ hq)) hw
      refine ⟨fun w hw => ?_, by rw [List.length_cons, List.length_cons, h3]⟩
      rcases List.mem_cons.mp hw with rfl | hw
      · exact evB h1.S p n _ h1.dep h1.fit e
      · exact h2 w hw
set_option maxHeartbeats 2000000 in
theorem ok_full (n : Nat) {f fd} (F : Fun M.K "_full_value" "_full_value" s__full_value f fd) (b : Bl M) (de : dcEv M n) (d1 : Dc M "_of_one" ["op", "value"] 1 (spF rOne M.K)) (d2 : Dc M "value_of_two" ["op", "one", "other"] 2 (spF rTwo M.K)) : FnG M.prog M.w M.K M.mg M.base CX0 (2 * n + 5) f fd ["cells", "state", "expression"] (spF (rFull n) M.K) := by
  refine fn_ok F sc__full_value (fun vs H Q E h => ?_) (fun H vs Q E h => ?_)
  · obtain ⟨ds, d, h, ⟨rs, st, e, rfl, _⟩, _⟩ := h
    exact h.len
  obtain ⟨ds, d, h, ⟨rs, st, e, rfl, hl, hi, rfl⟩, k⟩ := h
  obtain _ | ⟨hc, h⟩ := h
  obtain _ | ⟨hst, h⟩ := h
  obtain _ | ⟨he, h⟩ := h
  cases h
  rename_i vc vst ve
  rw [full_d hl] at he
  have hpi := pts_in hi
  have hpl := pts_len hl
  have n3 : n ≤ 3 := by have := hi.n4; omega
  tm_at "go"
  refine e_lstD ?_
  tm_at "go"
  refine ⟨by decide, fun l H1 s1 n1 g1 => ?_⟩
  tm_at "go"
  refine e_tupD ?_
  tm_at "go"
  refine tupend (ds := []) .nil (Nat.le_of_ble_eq_true rfl) fun vk0 H2 s2 h2 => ?_
  tm_at "go"
  refine s_forT ?_
  tm_at "go"
  refine rsl_tup (he.mono (tp_same (s1.trans s2))) fun vp H3 s3 hvp => ?_
  rw [cut1 _ _ (by rw [List.length_map]; exact hpl)] at hvp
  obtain ⟨a, xs, rfl, hxs, hns⟩ := hvp.tupE
  have hle := hns.len
  rw [List.length_map] at hle
  have s13 := s1.trans (s2.trans s3)
  refine ⟨a, xs, rfl, hxs, fun i σ1 H' => ∃ (vs lk : List Int) (vlk : V) (v5 v6 v7 : Option V), σ1 = [some vc, some vst, some ve, some (.ref l), some vlk, v5, v6, v7] ∧ Same H H' ∧ Tp H3 H' ∧ H' l = some (.lst (vs.map V.int)) ∧ Dt M.K H' vlk (.tuple (lk.map .int)) ∧
    evs rs st (pts e) = ((evs rs st ((pts e).drop i)).1.map (vs ++ ·), lk ++ (evs rs st ((pts e).drop i)).2) ∧ vs.length ≤ i ∧ lk.length ≤ 32 * i, ⟨[], [], vk0, _, _, _, rfl, s13, Tp.refl _, (s2.trans s3) _ _ g1, h2.mono (tp_same s3), ?_, Nat.le_refl _, Nat.le_refl _⟩, ?_, ?_, ?_⟩
  · simp
  · rintro i σ' H' _ ⟨vs, lk, vlk, v5, v6, v7, rfl, s, t, _⟩
    exact t.sqt hxs
  · rintro i x σ' H4 hx ⟨vs, lk, vlk, v5, v6, v7, rfl, s4, t4, g4, hlk, hev, lv, llk⟩
    obtain ⟨d, hd, hx'⟩ := hns.getV hx
    rw [List.getElem?_map] at hd
    obtain ⟨p, hp, rfl⟩ := Option.map_eq_some_iff.mp hd
    have hpin := hpi p (List.mem_of_getElem? hp)
    have ed : (pts e).drop i = p :: (pts e).drop (i + 1) := by
      obtain ⟨h1, h2⟩ := List.getElem?_eq_some_iff.mp hp
      rw [← h2]; exact List.drop_eq_getElem_cons h1
    have hi2 : i < 2 := by
      have := (List.getElem?_eq_some_iff.mp hx).1
      omega
    rw [ed] at hev
    refine g_name (by tm_at "at") ?_
    refine b_cons (s_asg ?_)
    refine e_callF de ?_ (Nat.le_refl _)
    tm_at "go"
    refine ⟨_, _, .cons (hc.mono (tp_same s4)) (.cons (hst.mono (tp_same s4)) (.cons (hx'.mono t4) .nil)), ⟨rs, st, p, rfl, hpin, rfl⟩, fun v H5 s5 hv => ?_⟩
    refine g_unp2 (by tm_at "at") (by tm_at "at") hv fun v1 v2 h1 h2 => ?_
    have llp := lenLooks (rs := rs) (st := st) (e := p) hpin.dep hpin.n4
    tm_at "go"
    refine ro_catT (hlk.mono (tp_same s5)) h2 (by rw [List.length_map (as := lk)]; omega) fun v8 H8 s8 h8 => ?_
    rw [List.length_map] at llp
    rcases optN h1 with ⟨eo, rfl⟩ | ⟨w, eo, rfl⟩
    · tm_at "go"
      refine e_tupD ?_
      tm_at "go"
      refine tupend (ds := [.none, .tuple (lk.map .int ++ (ev rs st p).2.map .int)]) (.cons .non (.cons h8 .nil)) (Nat.le_of_ble_eq_true rfl) fun v9 H9 s9 h9 => ?_
      refine k _ _ (s4.trans (s5.trans (s8.trans s9))) ?_
      rw [ev_full hl, hev, evs_none eo, resD]
      show Dt _ _ _ (.tuple [.none, .tuple ((lk ++ (ev rs st p).2).map .int)])
      rw [List.map_append]
      exact h9
    · tm_at "go"
      refine s_expr ?_
      refine e_app ?_
      tm_at "go"
      have g8 := (s5.trans s8) _ _ g4
      have ku := kp_upd (o' := .lst (vs.map V.int ++ [.int w])) g8 (fun _ e => nomatch e) (fun _ _ e => nomatch e)
      refine ⟨l, _, rfl, g8, ?_⟩
      tm_at "go"
      refine ⟨_, g8, by rw [List.length_map]; omega, ?_⟩
      refine ⟨vs ++ [w], lk ++ (ev rs st p).2, v8, _, _, _, rfl, same_mut (s4.trans (s5.trans s8)) n1, t4.trans ((tp_same (s5.trans s8)).trans ku.t), ?_, ?_, ?_, ?_, ?_⟩
      · rw [List.map_append]; exact upd_same
      · rw [List.map_append]; exact h8.mono ku.t
      · rw [hev, evs_some eo]
        simp [Function.comp_def]
      · rw [List.length_append]; exact Nat.succ_le_succ lv
      · rw [List.length_append]; omega
  · rintro σ' H4 ⟨vs, lk, vlk, v5, v6, v7, rfl, s4, t4, g4, hlk, hev, lv, llk⟩
    rw [List.drop_eq_nil_of_le (by omega), evs] at hev
    have hev' : evs rs st (pts e) = (some vs, lk) := by rw [hev]; simp
    obtain ⟨hbd, hlen⟩ := evs_bd hpi (vs := vs) (by rw [hev'])
    have hB : Bd n < 2 ^ 400 := Nat.lt_of_le_of_lt (Bd_mono n3) (by decide)
    have hres : ev rs st e = fullR (opOf e) (some vs, lk) := by rw [ev_full hl, hev']
    tm_at "go"
    refine rc_lenL (.of g4) ?_
    tm_at "go"
    match vs, hlen with
    | [], h0 => exact absurd h0 (by simp; omega)
    | [v], h0 =>
      refine ifT rfl ?_
      tm_at "go"
      refine e_tupD ?_
      tm_at "go"
      refine e_callF d1 ?_
      tm_at "go"
      refine rx_str (he.mono (tp_same s4)) (n := opOf e) (pl_at (j := 0) rfl rfl) ?_
      tm_at "go"
      refine rx_list (.of g4) (v := .int v) (by rfl) ?_
      tm_at "go"
      refine ⟨_, _, .cons (.str _) (.cons (.int _) .nil), ⟨opOf e, v, rfl, rfl⟩, fun v3 H5 s5 hv3 => ?_⟩
      tm_at "go"
      refine tupend (ds := [.int (un1 (opOf e) v), .tuple (lk.map .int)]) (.cons hv3 (.cons (hlk.mono (tp_same s5)) .nil)) (Nat.le_of_ble_eq_true rfl) fun v9 H9 s9 h9 => ?_
      refine k _ _ (s4.trans (s5.trans s9)) ?_
      rw [hres]
      exact h9
    | [v, w], h0 =>
      refine ifF (by simp) ?_
      tm_at "go"
      refine e_tupD ?_
      tm_at "go"
      refine e_callF d2 ?_
      tm_at "go"
      refine rx_str (he.mono (tp_same s4)) (n := opOf e) (pl_at (j := 0) rfl rfl) ?_
      tm_at "go"
      refine rx_list (.of g4) (v := .int v) (by rfl) ?_
      tm_at "go"
      refine rx_list (.of g4) (v := .int w) (by rfl) ?_
      tm_at "go"
      have hv := Nat.lt_of_le_of_lt (hbd v (by simp)) hB
      have hw := Nat.lt_of_le_of_lt (hbd w (by simp)) hB
      have hdm : opOf e = "div" ∨ opOf e = "mod" → 1 ≤ w ∧ w < 1000 := by
        intro hop
        obtain ⟨_, fit, _, _⟩ := hi
        cases e with
        | bin op a b =>
          have := kind_bin fit.1
          exact hop.elim (fun z => absurd z this.1) (fun z => absurd z this.2)
        | un op a => exact absurd h0 (by show ¬ (2 = 1); decide)
        | kk op a kn =>
          have hk := fit.2.2
          have h2 : evs rs st [a, .int kn] = (some [v, w], lk) := hev'
          cases ea : (ev rs st a).1 with
          | none => rw [evs_none ea] at h2; cases (Prod.mk.inj h2).1
          | some x =>
            rw [evs_some ea] at h2
            have h3 := (Prod.mk.inj h2).1
            have h4 : (evs rs st [.int kn]).1 = some [kn] := rfl
            rw [h4] at h3
            simp at h3
            omega
        | int => exact hl.elim
        | nm => exact hl.elim
        | «at» => exact hl.elim
        | ite => exact hl.elim
      refine ⟨_, _, .cons (.str _) (.cons (.int _) (.cons (.int _) .nil)), ⟨opOf e, v, w, rfl, ⟨hv, hw⟩, hdm, rfl⟩, fun v3 H5 s5 hv3 => ?_⟩
      tm_at "go"
      refine tupend (ds := [.int (bin2 (opOf e) v w), .tuple (lk.map .int)]) (.cons hv3 (.cons (hlk.mono (tp_same s5)) .nil)) (Nat.le_of_ble_eq_true rfl) fun v9 H9 s9 h9 => ?_
      refine k _ _ (s4.trans (s5.trans s9)) ?_
      rw [hres]
      exact h9
    | _ :: _ :: _ :: _, h0 => exact absurd h0 (by simp; omega)
end K

namespace K
open PySem L2 G
variable {M : Md}
def lazyW : List Str := ["and", "or", "if"]
structure Lz (M : Md) : Prop where
  ex : ∃ aL, M.mg "LAZY" = some (.ref aL) ∧ ∀ H, SqT M.K H aL (lazyW.map V.str)
abbrev dcIx (M : Md) : Prop := DcV M "cell_index" ["cells", "name", "key"] [.non] 3 (spF rIndex M.K)
theorem thn1_keyed {rs : List Row} {st : St1} {t : Str} {e : Ex} : ev rs st (.at t e) = thn1 (keyed rs t (ev rs st e)) fun j => (some (gt st j), [j]) := by rw [ev]
theorem keyed_in {rs : List Row} {st : St1} {t : Str} {e : Ex} {j : Int} (h : (keyed rs t (ev rs st e)).1 = some j) : 0 ≤ j ∧ j < total rs := by
  unfold keyed at h
  split at h
  · cases h
  · have := fIdx_in h
    omega
theorem bins_at : ∀ op ∈ bins, op ≠ "at" ∧ (op ∈ lazyW → isLazy op = true) ∧ (op ∉ lazyW → isLazy op = false) := by decide +kernel
theorem uns_at : ∀ op ∈ uns, op ≠ "at" ∧ op ∉ lazyW := by decide +kernel
theorem kks_at : ∀ op ∈ kks, op ≠ "at" ∧ op ∉ lazyW := by decide +kernel
set_option maxHeartbeats 2000000 in
theorem ok_ev (n : Nat) {f fd} (F : Fun M.K "evaluated" "evaluated" s_evaluated f fd) (b : Bl M) (lz : Lz M) (dx : dcIx M)
    (rec : ∀ m, n = m + 1 → Dc M "keyed_index" ["cells", "state", "table", "key"] (2 * m + 5) (spF (rKey m) M.K) ∧ Dc M "_lazy_value" ["cells", "state", "expression"] (2 * m + 5) (spF (rLazy m) M.K) ∧ Dc M "_full_value" ["cells", "state", "expression"] (2 * m + 5) (spF (rFull m) M.K)) :
    FnG M.prog M.w M.K M.mg M.base CX0 (2 * n + 4) f fd ["cells", "state", "expression"] (spF (rEv n) M.K) := by
  refine fn_ok F sc_evaluated (fun vs H Q E h => ?_) (fun H vs Q E h => ?_)
  · obtain ⟨ds, d, h, ⟨rs, st, e, rfl, _⟩, _⟩ := h
    exact h.len
  obtain ⟨ds, d, h, ⟨rs, st, e, rfl, hi, rfl⟩, k⟩ := h
  obtain _ | ⟨hc, h⟩ := h
  obtain _ | ⟨hst, h⟩ := h
  obtain _ | ⟨he, h⟩ := h
  cases h
  rename_i vc vst ve
  have S := hi.S
  refine b_cut (fun σ1 H' => isIntD e.d = false ∧ Same H H' ∧ σ1 = [some vc, some vst, some ve, none, none]) ?_ ?_
  · tm_at "go"
    refine t_val ?_
    tm_at "go"
    refine rc_isiD e.plain he ?_
    have s1 := Same.refl H
    refine ⟨_, rfl, ifb (fun c1 => ?_) (fun c1 => ?_)⟩
    · tm_at "go"
      refine e_tupD ?_
      tm_at "go"
      refine e_tupD ?_
      tm_at "go"
      refine tupend (ds := []) .nil (Nat.le_of_ble_eq_true rfl) fun v2 H2 s2 h2 => ?_
      tm_at "go"
      refine tupend (ds := [e.d, .tuple []]) (.cons (he.mono (tp_same (s1.trans s2))) (.cons h2 .nil)) (Nat.le_of_ble_eq_true rfl) fun v9 H9 s9 h9 => ?_
      refine k _ _ (s1.trans (s2.trans s9)) ?_
      cases e with
      | int i => exact h9
      | nm => cases c1
      | «at» => cases c1
      | un => cases c1
      | bin => cases c1
      | kk => cases c1
      | ite => cases c1
    · tm_at "go"
      exact ⟨c1, s1, rfl⟩
  rintro _ H1 ⟨ci, s1, rfl⟩
  have he1 := he.mono (tp_same s1)
  cases e with
  | int => cases ci
  | nm s =>
    cases he1
    tm_at "go"
    refine t_val ?_
    tm_at "go"
    refine rc_isi (.base (.str s)) rfl ?_
    refine ⟨true, rfl, ift ?_⟩
    obtain ⟨hx, x0, x1⟩ := ix_ok S.nd hi.fit
    tm_at "go"
    refine e_callV dx ?_
    tm_at "go"
    refine ⟨_, _, .cons (hc.mono (tp_same s1)) (.cons (.str _) (.cons .non .nil)), ⟨rs, s, ix rs s, rfl, hx, rfl⟩, fun v H2 s2 hv => ?_⟩
    cases hv
    tm_at "go"
    refine e_tupD ?_
    tm_at "go"
    refine rx_int (hst.mono (tp_same (s1.trans s2))) (gt_at S x0 x1) ?_
    tm_at "go"
    refine e_tupD ?_
    tm_at "go"
    refine tupend (ds := [.int (ix rs s)]) (by tm_at "dts") (Nat.le_of_ble_eq_true rfl) fun v3 H3 s3 h3 => ?_
    tm_at "go"
    refine tupend (ds := [.int (gt st (ix rs s)), .tuple [.int (ix rs s)]]) (.cons (.int _) (.cons h3 .nil)) (Nat.le_of_ble_eq_true rfl) fun v9 H9 s9 h9 => ?_
    refine k _ _ (s1.trans (s2.trans (s3.trans s9))) ?_
    rw [ev]
    exact h9
  | «at» t e =>
    obtain ⟨m, rfl⟩ : ∃ m, n = m + 1 := ⟨n - 1, by have := hi.dep; unfold Ex.dep at this; omega⟩
    obtain ⟨dk, dl, df⟩ := rec m rfl
    have hi' : EvIn rs st e m := ⟨S, hi.fit.2, by have := hi.dep; unfold Ex.dep at this; omega, by have := hi.n4; omega⟩
    obtain ⟨ae, xe, rfl, hte, hde⟩ := he1.tupE
    tm_at "go"
    refine t_val ?_
    tm_at "go"
    refine rc_isi (ty_tup hte) rfl ?_
    refine ⟨false, rfl, iff0 ?_⟩
    tm_at "go"
    refine s_asg ?_
    refine e_callF dk ?_ (by show 2 * m + 5 ≤ 2 * (m + 1) + 3; omega)
    tm_at "go"
    refine rx_tup he1 (d := e.d) rfl fun v2 h2 => ?_
    tm_at "go"
    refine ⟨_, _, .cons (hc.mono (tp_same s1)) (.cons (hst.mono (tp_same s1)) (.cons (.str _) (.cons h2 .nil))), ⟨rs, st, t, e, rfl, hi', rfl⟩, fun v H2 s2 hv => ?_⟩
    refine g_unp2 (by tm_at "at") (by tm_at "at") hv fun v3 v4 h3 h4 => ?_
    rcases optN h3 with ⟨eo, rfl⟩ | ⟨j, eo, rfl⟩
    · tm_at "go"
      refine e_tupD ?_
      tm_at "go"
      refine tupend (ds := [.none, .tuple ((keyed rs t (ev rs st e)).2.map .int)]) (.cons .non (.cons h4 .nil)) (Nat.le_of_ble_eq_true rfl) fun v9 H9 s9 h9 => ?_
      refine k _ _ (s1.trans (s2.trans s9)) ?_
      rw [thn1_keyed, thn1_none eo]
      exact h9
    · obtain ⟨j0, j1⟩ := keyed_in eo
      tm_at "go"
      refine e_tupD ?_
      tm_at "go"
      refine rx_int (hst.mono (tp_same (s1.trans s2))) (gt_at S j0 j1) ?_
      tm_at "go"
      refine e_tupD ?_
      tm_at "go"
      refine tupend (ds := [.int j]) (by tm_at "dts") (Nat.le_of_ble_eq_true rfl) fun v5 H5 s5 h5 => ?_
      refine ro_catT (h4.mono (tp_same s5)) h5 (by have := lenLooks (rs := rs) (st := st) (e := e) hi'.dep hi'.n4; rw [keyed_snd, List.length_singleton]; omega) fun v8 H8 s8 h8 => ?_
      tm_at "go"
      refine tupend (ds := [.int (gt st j), .tuple ((keyed rs t (ev rs st e)).2.map .int ++ [.int j])]) (.cons (.int _) (.cons h8 .nil)) (Nat.le_of_ble_eq_true rfl) fun v9 H9 s9 h9 => ?_
      refine k _ _ (s1.trans (s2.trans (s5.trans (s8.trans s9)))) ?_
      rw [thn1_keyed, thn1_val eo, resD, List.map_append]
      exact h9
  | ite ea eb ed =>
    obtain ⟨m, rfl⟩ : ∃ m, n = m + 1 := ⟨n - 1, by have := hi.dep; unfold Ex.dep at this; omega⟩
    obtain ⟨dk, dl, df⟩ := rec m rfl
    obtain ⟨aL, hL, hS⟩ := lz.ex
    obtain ⟨ae, xe, rfl, hte, hde⟩ := he1.tupE
    tm_at "go"
    refine t_val ?_
    tm_at "go"
    refine rc_isi (ty_tup hte) rfl ?_
    refine ⟨false, rfl, iff0 ?_⟩
    tm_at "go"
    refine e_glob (v := .ref aL) hL rfl ?_
    refine ro_inST (ws := lazyW) (.tup (hS _) (dtStrs lazyW)) ?_
    refine ⟨_, rfl, ifT (by decide +kernel) ?_⟩
    tm_at "go"
    refine e_callF dl ?_ (by show 2 * m + 5 ≤ 2 * (m + 1) + 3; omega)
    tm_at "go"
    exact ⟨_, _, .cons (hc.mono (tp_same s1)) (.cons (hst.mono (tp_same s1)) (.cons he1 .nil)), ⟨rs, st, _, rfl, trivial, hi, rfl⟩, fun v H2 s2 hv => k _ _ (s1.trans s2) hv⟩
  | bin op ea eb =>
    obtain ⟨m, rfl⟩ : ∃ m, n = m + 1 := ⟨n - 1, by have := hi.dep; unfold Ex.dep at this; omega⟩
    obtain ⟨dk, dl, df⟩ := rec m rfl
    obtain ⟨aL, hL, hS⟩ := lz.ex
    obtain ⟨ae, xe, rfl, hte, hde⟩ := he1.tupE
    have hop := bins_at op hi.fit.1
    tm_at "go"
    refine t_val ?_
    tm_at "go"
    refine rc_isi (ty_tup hte) rfl ?_
    refine ⟨false, rfl, iff0 ?_⟩
    tm_at "go"
    refine ifd (fun c => absurd c hop.1) (fun _ => ?_)
    tm_at "go"
    refine e_glob (v := .ref aL) hL rfl ?_
    refine ro_inST (ws := lazyW) (.tup (hS _) (dtStrs lazyW)) ?_
    refine ⟨_, rfl, ifd (fun c2 => ?_) (fun c2 => ?_)⟩
    · tm_at "go"
      refine e_callF dl ?_ (by show 2 * m + 5 ≤ 2 * (m + 1) + 3; omega)
      tm_at "go"
      exact ⟨_, _, .cons (hc.mono (tp_same s1)) (.cons (hst.mono (tp_same s1)) (.cons he1 .nil)), ⟨rs, st, _, rfl, hop.2.1 c2, hi, rfl⟩, fun v H2 s2 hv => k _ _ (s1.trans s2) hv⟩
    · tm_at "go"
      refine e_callF df ?_ (by show 2 * m + 5 ≤ 2 * (m + 1) + 3; omega)
      tm_at "go"
      exact ⟨_, _, .cons (hc.mono (tp_same s1)) (.cons (hst.mono (tp_same s1)) (.cons he1 .nil)), ⟨rs, st, _, rfl, hop.2.2 c2, hi, rfl⟩, fun v H2 s2 hv => k _ _ (s1.trans s2) hv⟩
  | un op ea =>
    obtain ⟨m, rfl⟩ : ∃ m, n = m + 1 := ⟨n - 1, by have := hi.dep; unfold Ex.dep at this; omega⟩
    obtain ⟨dk, dl, df⟩ := rec m rfl
    obtain ⟨aL, hL, hS⟩ := lz.ex
    obtain ⟨ae, xe, rfl, hte, hde⟩ := he1.tupE
    have hop := uns_at op hi.fit.1
    tm_at "go"
    refine t_val ?_
    tm_at "go"
    refine rc_isi (ty_tup hte) rfl ?_
    refine ⟨false, rfl, iff0 ?_⟩
    tm_at "go"
    refine ifd (fun c => absurd c hop.1) (fun _ => ?_)
    tm_at "go"
    refine e_glob (v := .ref aL) hL rfl ?_
    refine ro_inST (ws := lazyW) (.tup (hS _) (dtStrs lazyW)) ?_
    refine ⟨_, rfl, ifd (fun c2 => absurd c2 hop.2) (fun c2 => ?_)⟩
    · tm_at "go"
      refine e_callF df ?_ (by show 2 * m + 5 ≤ 2 * (m + 1) + 3; omega)
      tm_at "go"
      exact ⟨_, _, .cons (hc.mono (tp_same s1)) (.cons (hst.mono (tp_same s1)) (.cons he1 .nil)), ⟨rs, st, _, rfl, trivial, hi, rfl⟩, fun v H2 s2 hv => k _ _ (s1.trans s2) hv⟩
  | kk op ea kn =>
    obtain ⟨m, rfl⟩ : ∃ m, n = m + 1 := ⟨n - 1, by have := hi.dep; unfold Ex.dep at this; omega⟩
    obtain ⟨dk, dl, df⟩ := rec m rfl
    obtain ⟨aL, hL, hS⟩ := lz.ex
    obtain ⟨ae, xe, rfl, hte, hde⟩ := he1.tupE
    have hop := kks_at op hi.fit.1
    tm_at "go"
    refine t_val ?_
    tm_at "go"
    refine rc_isi (ty_tup hte) rfl ?_
    refine ⟨false, rfl, iff0 ?_⟩
    tm_at "go"
    refine ifd (fun c => absurd c hop.1) (fun _ => ?_)
    tm_at "go"
    refine e_glob (v := .ref aL) hL rfl ?_
    refine ro_inST (ws := lazyW) (.tup (hS _) (dtStrs lazyW)) ?_
    refine ⟨_, rfl, ifd (fun c2 => absurd c2 hop.2) (fun c2 => ?_)⟩
    · tm_at "go"
      refine e_callF df ?_ (by show 2 * m + 5 ≤ 2 * (m + 1) + 3; omega)
      tm_at "go"
      exact ⟨_, _, .cons (hc.mono (tp_same s1)) (.cons (hst.mono (tp_same s1)) (.cons he1 .nil)), ⟨rs, st, _, rfl, trivial, hi, rfl⟩, fun v H2 s2 hv => k _ _ (s1.trans s2) hv⟩
end K

namespace K
open PySem L2 G
variable {M : Md}
def rVal (n : Nat) : List PyData → PyData → Prop := fun ds d => ∃ (rs : List Row) (st : St1) (e : Ex), ds = [cellsD rs, stD st, e.d] ∧ EvIn rs st e n ∧ d = optD (ev rs st e).1
def firsts (lk : List Int) : List Int := lk.foldl (fun seen j => if j ∈ seen then seen else seen ++ [j]) []
def lookD (st : St1) (j : Int) : PyData := .tuple [.int j, .int (gt st j)]
def looksD (st : St1) (lk : List Int) : PyData := .tuple ((firsts lk).map (lookD st))
theorem firsts_snoc {lk : List Int} {i : Nat} {j : Int} (h : lk[i]? = some j) : firsts (lk.take (i + 1)) = if j ∈ firsts (lk.take i) then firsts (lk.take i) else firsts (lk.take i) ++ [j] := by
  obtain ⟨h1, rfl⟩ := List.getElem?_eq_some_iff.mp h
  rw [List.take_succ_eq_append_getElem h1, firsts, List.foldl_append]
  rfl
theorem firsts_len (lk : List Int) : (firsts lk).length ≤ lk.length := by
  have : ∀ (l seen : List Int), (l.foldl (fun seen j => if j ∈ seen then seen else seen ++ [j]) seen).length ≤ seen.length + l.length := by
    intro l
    induction l with
    | nil => intro seen; exact Nat.le_refl _
    | cons j l ih =>
      intro seen
      have h := ih (if j ∈ seen then seen else seen ++ [j])
      rw [List.foldl_cons, List.length_cons]
      split at h
      · rename_i hj; rw [if_pos hj]; omega
      · rename_i hj; rw [if_neg hj]; rw [List.length_append, List.length_singleton] at h; omega
  have h := this lk []
  simpa [firsts] using h
theorem firsts_mem {lk : List Int} {j : Int} : j ∈ firsts lk ↔ j ∈ lk := by
  have : ∀ (l seen : List Int), j ∈ (l.foldl (fun seen j => if j ∈ seen then seen else seen ++ [j]) seen) ↔ j ∈ seen ∨ j ∈ l := by
    intro l
    induction l with
    | nil => intro seen; simp
    | cons x l ih =>
      intro seen
      rw [List.foldl_cons, ih, List.mem_cons]
      split
      · rename_i hx
        constructor
        · rintro (h | h)
          · exact .inl h
          · exact .inr (.inr h)
        · rintro (h | rfl | h)
          · exact .inl h
          · exact .inl hx
          · exact .inr h
      · rw [List.mem_append, List.mem_singleton, or_assoc]
  rw [firsts, this]
  simp
theorem firsts_nodup (lk : List Int) : (firsts lk).Nodup := by
  have : ∀ (l seen : List Int), seen.Nodup → (l.foldl (fun seen j => if j ∈ seen then seen else seen ++ [j]) seen).Nodup := by
    intro l
    induction l with
    | nil => intro seen h; exact h
    | cons x l ih =>
      intro seen h
      rw [List.foldl_cons]
      refine ih _ ?_
      split
      · exact h
      · rename_i hx
        rw [List.nodup_append]
        refine ⟨h, by simp, ?_⟩
        intro a ha b hb
        rw [List.mem_singleton.mp hb]
        rintro rfl
        exact hx ha
  exact this lk [] List.nodup_nil
theorem inI (j : Int) (l : List Int) : inV (.int j) (l.map .int) = decide (j ∈ l) := by
  unfold inV
  rw [Bool.eq_iff_iff, List.any_eq_true, decide_eq_true_iff]
  constructor
  · rintro ⟨y, hy, h⟩
    obtain ⟨z, hz, rfl⟩ := List.mem_map.mp hy
    have : z = j := by simpa [eqV] using h
    rw [← this]; exact hz
  · intro h
    exact ⟨.int j, List.mem_map.mpr ⟨j, h, rfl⟩, by simp [eqV]⟩
theorem ro_notInI {c : Cd} {H : Hp} {Q : VK} {l : Addr} {j : Int} {js : List Int} (hl : H l = some (.lst (js.map V.int))) (q : Q (.bl (!decide (j ∈ js))) H) : RQ c .NotIn (.int j) (.ref l) H Q := by
  refine rq_of (r := rIn c.K true) (fun X h => by rw [← h.K]; exact op_notIn_seq) ⟨l, _, rfl, .inl (.of hl), rfl, by simp [flatV], ?_⟩
  show Q (.bl (!inV (.int j) (js.map .int))) H
  rw [inI]
  exact q
def rFirst : List PyData → PyData → Prop := fun ds d => ∃ (rs : List Row) (st : St1) (lk : List Int), ds = [stD st, .tuple (lk.map .int)] ∧ StOk rs st ∧ (∀ j ∈ lk, 0 ≤ j ∧ j < total rs) ∧ lk.length ≤ 900 ∧ d = looksD st lk
theorem ev_in {rs : List Row} {st : St1} (S : StOk rs st) : ∀ (e : Ex), Fit rs e → ∀ j ∈ (ev rs st e).2, 0 ≤ j ∧ j < total rs := by
  have th : ∀ (r : Res) (g : Int → Res), (∀ j ∈ r.2, 0 ≤ j ∧ j < total rs) → (∀ v, r.1 = some v → ∀ j ∈ (g v).2, 0 ≤ j ∧ j < total rs) → ∀ j ∈ (thn1 r g).2, 0 ≤ j ∧ j < total rs := by
    intro r g h1 h2 j hj
    cases e : r.1 with
    | none => rw [thn1_none e] at hj; exact h1 j hj
    | some v =>
      rw [thn1_val e] at hj
      rcases List.mem_append.mp hj with hj | hj
      · exact h1 j hj
      · exact h2 v e j hj
  intro e
  induction e with
  | int => intro _ j hj; rw [ev] at hj; cases hj
  | nm s =>
    intro hf j hj
    rw [ev] at hj
    rw [List.mem_singleton.mp hj]
    exact (ix_ok S.nd hf).2
  | «at» t e ih =>
    intro hf j hj
    rw [thn1_keyed] at hj
    refine th _ _ (by rw [keyed_snd]; exact ih hf.2) (fun v hv j hj => ?_) j hj
    rw [List.mem_singleton.mp hj]
    exact keyed_in hv
  | un op e ih =>
    intro hf j hj
    rw [ev] at hj
    exact th _ _ (ih hf.2) (fun v hv j hj => by cases hj) j hj
  | bin op a b iha ihb =>
    intro hf j hj
    rw [ev] at hj
    split at hj
    · refine th _ _ (iha hf.2.1) (fun v hv j hj => ?_) j hj
      split at hj
      · cases hj
      · exact th _ _ (ihb hf.2.2) (fun v hv j hj => by cases hj) j hj
    · refine th _ _ (iha hf.2.1) (fun v hv j hj => ?_) j hj
      exact th _ _ (ihb hf.2.2) (fun v hv j hj => by cases hj) j hj
  | kk op e n ih =>
    intro hf j hj
    rw [ev] at hj
    exact th _ _ (ih hf.2.1) (fun v hv j hj => by cases hj) j hj
  | ite a b d iha ihb ihd =>
    intro hf j hj
    rw [ev] at hj
    refine th _ _ (iha hf.1) (fun v hv j hj => ?_) j hj
    split at hj
    · exact ihb hf.2.1 j hj
    · exact ihd hf.2.2 j hj
def rLooked (n : Nat) : List PyData → PyData → Prop := fun ds d => ∃ (rs : List Row) (st : St1) (e : Ex), ds = [cellsD rs, stD st, e.d] ∧ EvIn rs st e n ∧ d = looksD st (ev rs st e).2
end K

/-! for in a generator's body -/
namespace GF
open PySem
section
variable {M : Model} {A : Around} {R : GenEnd} {Y : Protocol} {n : Nat} {s₀ : Shared} {c : Code} {fs : List Frame} {s : Shared} {env : Env}
  {K : Flow → Sem PySem.Fin} {H : Value → Sem PySem.Fin} {gd : Bool → Bool} {lv : List Value → List Value}
theorem seg_For {target iter : Expr} {body orelse : List Stmt} {pos : Pos}
    (h : wpAny M (A.over c fs) (eval iter env) (fun x s₁ => wpAny M (A.over c fs) (pyIter x) (fun it s₂ => ∀ p,
      Seg M A R Y n s₀ (.forLoop target it body orelse env) (M.den (.forLoop target it body orelse env))
      (.ret (fun r => ((match r with | .ok f => (.pure f : Sem Flow) | .error e => .raise e).onRaise fun (x : Value) => do
        if (← field x 1) == Value.none then unsupported "frame.own-activation:exception-without-traceback"
        setFlight x env.frame).wrap K H gd lv) none (gd false) (lv []) c p [] :: fs) s₂) (fun x s' => Seg M A R Y n s₀ c (H x) fs s') s₁) (fun x s' => Seg M A R Y n s₀ c (H x) fs s') s)
    (hs : ∀ x, foldedSetIterable iter env x = pure x) :
    Seg M A R Y n s₀ c ((exec (.For target iter body orelse pos) env).wrap K H gd lv) fs s := by
  rw [exec_For]
  refine seg_at ?_
  show Seg M A R Y n s₀ c ((eval iter env >>= fun v => (foldedSetIterable iter env v >>= fun x => (standAt iter.pos >>= fun _ => (holding [x] (pyIter x) >>= fun it => runOwn (.forLoop target it body orelse env) env)))).wrap K H gd lv) fs s
  rw [Sem.bind_eq_wrap', Sem.wrap_wrap]
  refine seg_wrap (wpAny_mono h (fun x s1 h1 => ?_) fun _ _ z => z)
  rw [hs x]
  refine seg_at ?_
  show Seg M A R Y n s₀ c ((holding [x] (pyIter x) >>= fun it => runOwn (.forLoop target it body orelse env) env).wrap K H gd lv) fs s1
  rw [Sem.bind_eq_wrap', Sem.wrap_wrap]
  refine seg_wrap (wpAny_holding (wpAny_mono h1 (fun it s2 h2 => ?_) fun _ _ z => z))
  exact seg_call h2
end
section
variable {prog : Program} {w : World} {A : Around} {R : GenEnd} {Y : Protocol} {n : Nat} {s₀ : Shared} {fs : List Frame} {s : Shared} {env : Env}
/-- an exception within the loop's code -/
abbrev Out (prog : Program) (w : World) (A : Around) (R : GenEnd) (Y : Protocol) (n : Nat) (s₀ : Shared) (c : Code) (fs : List Frame) (env : Env) (x : Value) (s' : Shared) : Prop :=
  Seg (model prog w) A R Y n s₀ c ((do noteFrame x env; theTreesLotGoes x : Sem Unit).wrap (fun _ => .raise x) .raise id id) fs s'
theorem seg_forLoop {target : Expr} {it : Value} {body : List Stmt}
    (h : wpAny (model prog w) (A.over (.forLoop target it body [] env) fs) (pyNext it) (fun r s₁ => match r with
      | none => Seg (model prog w) A R Y n s₀ (.block [] env) ((model prog w).den (.block [] env)) fs s₁
      | some v => wpAny (model prog w) (A.over (.forLoop target it body [] env) fs) (letOwnedTupleGo target it v) (fun _ s₁' => wpAny (model prog w) (A.over (.forLoop target it body [] env) fs) (assign target env v) (fun _ s₂ =>
          Seg (model prog w) A R Y n s₀ (.forLoop target it body [] env) ((execs body env).wrap (fun f => match f with
            | .next | .cont => .pure (.again (.forLoop target it body [] env))
            | .brk => .pure (.done .next)
            | .ret v => .pure (.done (.ret v))) (fun e => (do noteFrame e env; theTreesLotGoes e : Sem Unit).wrap (fun _ => .raise e) .raise id id) id id) fs s₂)
          (Out prog w A R Y n s₀ (.forLoop target it body [] env) fs env) s₁') (Out prog w A R Y n s₀ (.forLoop target it body [] env) fs env) s₁)
      (Out prog w A R Y n s₀ (.forLoop target it body [] env) fs env) s) :
    Seg (model prog w) A R Y n s₀ (.forLoop target it body [] env) ((model prog w).den (.forLoop target it body [] env)) fs s := by
  show Seg _ A R Y n s₀ _ ((forTurn target it body [] env).onRaise (fun x => do noteFrame x env; theTreesLotGoes x)) fs s
  unfold forTurn
  rw [Sem.onRaise_eq_wrap]
  refine seg_at ?_
  have out : ∀ {x : Value} {s' : Shared}, Out prog w A R Y n s₀ (.forLoop target it body [] env) fs env x s' → Seg (model prog w) A R Y n s₀ (.forLoop target it body [] env) ((do noteFrame x env; theTreesLotGoes x : Sem Unit).bind fun _ => .raise x) fs s' := fun {x s'} hx => by
    rw [Sem.bind_eq_wrap]
    exact hx
  show Seg _ A R Y n s₀ _ (((pyNext it).onRaise (fun _ => standAt { target.pos with line := 0 }) >>= fun r => (match r with
    | none => again (.block [] env)
    | some v => (letOwnedTupleGo target it v >>= fun _ => (assign target env v >>= fun _ => (execs body env >>= fun f => (match f with
      | .next => again (.forLoop target it body [] env)
      | .cont => again (.forLoop target it body [] env)
      | .brk => pure (.done .next)
      | .ret v => pure (.done (.ret v)) : Sem PySem.Fin)))) : Sem PySem.Fin)).wrap .pure (fun e => (do noteFrame e env; theTreesLotGoes e : Sem Unit).bind fun _ => .raise e) id id) fs s
  rw [Sem.bind_eq_wrap', Sem.wrap_wrap]
  refine seg_wrap (wpAny_onRaise (wpAny_mono h (fun r s1 h1 => ?_) fun x s' hx => wpAny_standAt (out hx)))
  cases r with
  | none => exact seg_again rfl h1
  | some v =>
    show Seg _ A R Y n s₀ _ ((letOwnedTupleGo target it v >>= fun _ => (assign target env v >>= fun _ => (execs body env >>= fun f => (match f with
      | .next => again (.forLoop target it body [] env)
      | .cont => again (.forLoop target it body [] env)
      | .brk => pure (.done .next)
      | .ret v => pure (.done (.ret v)) : Sem PySem.Fin)))).wrap .pure (fun e => (do noteFrame e env; theTreesLotGoes e : Sem Unit).bind fun _ => .raise e) id id) fs s1
    rw [Sem.bind_eq_wrap', Sem.wrap_wrap]
    refine seg_wrap (wpAny_mono h1 (fun _ s2 h2 => ?_) fun x s' hx => out hx)
    rw [Sem.bind_eq_wrap', Sem.wrap_wrap]
    refine seg_wrap (wpAny_mono h2 (fun _ s3 h3 => ?_) fun x s' hx => out hx)
    rw [Sem.bind_eq_wrap', Sem.wrap_wrap]
    rw [Sem.wrap_congr (execs body env) _ _ (K' := fun f => match f with
          | .next | .cont => .pure (.again (.forLoop target it body [] env))
          | .brk => .pure (.done .next)
          | .ret v => .pure (.done (.ret v))) (H' := (fun e => (do noteFrame e env; theTreesLotGoes e : Sem Unit).wrap (fun _ => .raise e) .raise id id))
      (fun f => by cases f <;> rfl)
      (fun e => by first | exact Sem.bind_eq_wrap _ _ | (show (do noteFrame e env; theTreesLotGoes e : Sem Unit).bind (fun _ => .raise e) = _; rw [Sem.bind_eq_wrap]))]
    exact h3
end
end GF

namespace L2
open PySem PySem.Spec PyProof.Rows GenW
section
variable {X : Cx} {tg : Expr}
def tGFor (wi : TI) (g : TG) (tb : TGn) : TGn := fun D ys σ H => wi σ H fun J H1 => ∃ W : Nat → Nat → List V → St → Hp → Prop, (∃ m, W 0 m ys σ H1) ∧ ∀ i m ys σ H, W i m ys σ H →
  (J.stop i H ∧ D.nx ys σ H) ∨ (J.go i H ∧ ∃ N : List V → St → Hp → Prop, (∀ ys' σ' H', N ys' σ' H' → ∃ m', m' < m ∧ W (i + 1) m' ys' σ' H') ∧ ∀ x H', J.yld i H x H' → g x σ H' fun σ2 H2 => tb { D with nx := N, ct := N, bk := D.nx } ys σ2 H2)
theorem gs_for {iter : Expr} {body : List Stmt} {wi : TI} {g : TG} {tb : TGn} {pos : Pos} (hp : PassesOwn (model X.prog X.w) X.A X.env X.xe) (hc : X.calm = true) (hi : PI X tg iter wi) (hg : PG X tg g) (hb : GSs X body tb)
    (hs : ∀ x, foldedSetIterable iter X.env x = pure x := by intro _; rfl) : GS X (.For tg iter body [] pos) (tGFor wi g tb) := by
  refine ⟨fun A S ip R n ys s₀ c fs K J gd lv s σ H D g0 hn k hI ht => ?_⟩
  obtain ⟨acc0, cc0, r0, I0⟩ := hI
  refine GF.seg_For ?_ hs
  rw [g0.over]
  refine wpAny_mono (hi.run _ s σ H _ I0 ht) (fun v s1 h1 => wpAny_mono h1 (fun itv s2 h2 => ?_) fun x s' hx => k.exc n s₀ x s' hx) fun x s' hx => k.exc n s₀ x s' hx
  obtain ⟨it, fp, tn, Jt, H2, e, I2, T, st2, f2, W, ⟨m0, w0⟩, turn⟩ := h2
  subst e
  intro p
  have gl := fun (kk : Result → Sem PySem.Fin) => gc_loop (k := kk) (c' := .forLoop tg (.ref it) body [] X.env) (l := lv []) (kp := []) (p := p) g0 rfl rfl
  have stat : ∀ {acc : Array Value} {cc : Nat} {H' : Hp}, (∀ b ∈ fp, H' b = none) → ∀ b ∈ fp, FpOk X ((S, lstObj acc cc) :: ip) H' b := fun {acc cc H'} hn b hb => by
    obtain ⟨_, f3, f4, f5, f6, f7⟩ := f2 b hb
    refine ⟨hn b hb, f3, f4, f5, f6, fun q hq => ?_⟩
    rcases List.mem_append.mp hq with z | z
    · exact f7 q (List.mem_append_left _ z)
    · rcases List.mem_cons.mp z with z | z
      · subst z
        exact f7 (S, lstObj acc0 cc0) (List.mem_append_right _ (List.mem_cons_self ..))
      · exact f7 q (List.mem_append_right _ (List.mem_cons_of_mem _ z))
  have apartS : ∀ b ∈ fp, b ≠ S := fun b hb z => by
    obtain ⟨_, _, _, _, _, f7⟩ := f2 b hb
    exact f7 (S, lstObj acc0 cc0) (List.mem_append_right _ (List.mem_cons_self ..)) z.symm
  have loop : ∀ (m i n : Nat) (ys : List V) (s₀ s : Shared) (σ : St) (H : Hp), n + ys.length = sizeLine → W i m ys σ H → GI X S ip ys σ H s → tn i s.heap → (∀ b ∈ fp, H b = none) →
      Seg (model X.prog X.w) A R (GY X S) n s₀ (.forLoop tg (.ref it) body [] X.env) ((model X.prog X.w).den (.forLoop tg (.ref it) body [] X.env))
        (.ret (fun r => ((match r with | .ok f => (.pure f : Sem Flow) | .error e => .raise e).onRaise (cameBack X.env)).wrap K J gd lv) none (gd false) (lv []) c p [] :: fs) s := by
    intro m
    induction m using Nat.strongRecOn with
    | ind m ih =>
      intro i n ys s₀ s σ H hn w hI st fr
      have ee : ∀ (n : Nat) (s₀ : Shared) (x : Value) (s' : Shared), X.xe x s' → GF.Out X.prog X.w A R (GY X S) n s₀ (.forLoop tg (.ref it) body [] X.env)
          (.ret (fun r => ((match r with | .ok f => (.pure f : Sem Flow) | .error e => .raise e).onRaise (cameBack X.env)).wrap K J gd lv) none (gd false) (lv []) c p [] :: fs) X.env x s' := fun n s₀ x s' hx => by
        refine seg_wrap ?_
        rw [(gl _).over]
        refine wpAny_bind (wpAny_mono (hp x s' hx) (fun _ s'' hcb => wpAny_theTreesLotGoes ?_) fun y s'' hcb => ?_)
        · exact seg_leaf (.error x) (seg_cameBack g0 k hcb)
        · exact seg_leaf (.error y) (seg_cameBack g0 k hcb)
      refine GF.seg_forLoop ?_
      rw [(gl _).over]
      obtain ⟨acc, cc, r, I⟩ := hI
      rcases turn i m ys σ H w with ⟨stop, qn⟩ | ⟨go, N, hN, step⟩
      · refine wpAny_mono (T.done X rfl rfl rfl hc i _ s σ H X.xe I (stat fr) st stop) (fun r1 s4 hr4 => ?_) fun x s' hx => ee n s₀ x s' hx
        obtain ⟨hr, I4⟩ := hr4
        subst hr
        exact seg_leaf (.ok .next) (k.ok n ys s₀ s4 .next hn ⟨σ, H, ⟨acc, cc, r, I4⟩, qn⟩)
      · refine wpAny_mono (T.item X rfl rfl rfl hc i _ s σ H X.xe I (stat fr) st go) (fun r1 s4 hr4 => ?_) fun x s' hx => ee n s₀ x s' hx
        obtain ⟨u, hr, h4⟩ := hr4
        subst hr
        refine wpAny_mono h4 (fun _ s5 h5 => ?_) fun x s' hx => ee n s₀ x s' hx
        obtain ⟨x, H5, I5, r5, y5, st5, fr5⟩ := h5
        have I5' := I5.pinned (stat fr5) (T.obj _ _ st5)
        refine wpAny_mono (hg.run _ s5 σ H5 x u _ I5' r5 (step x H5 y5)) (fun _ s6 h6 => ?_) fun x s' hx => ee n s₀ x s' hx
        obtain ⟨σ6, H6, I6, q6⟩ := h6
        have gl2 := fun (kk : Result → Sem PySem.Fin) => gl kk
        refine hb.run A S (ip ++ pinsAt fp s5.heap) R n ys s₀ _ _ _ _ id id s6 σ6 H6 { D with nx := N, ct := N, bk := D.nx } ⟨g0.pn, fun q hq => ?_, g0.apart, (gl _).over, (gl _).split, (gl _).guard, rfl⟩ hn ⟨fun n' ys' s₀' s7 f hn' hs => ?_, fun n' s₀' x s7 hx => ee n' s₀' x s7 hx⟩ ⟨acc, cc, r, I6⟩ q6
        · rcases List.mem_append.mp hq with z | z
          · exact g0.ip q z
          · exact apartS _ (of_pinsAt z).1
        have back : ∀ {σ7 : St} {H7 : Hp}, GI X S (ip ++ pinsAt fp s5.heap) ys' σ7 H7 s7 → GI X S ip ys' σ7 H7 s7 ∧ tn (i + 1) s7.heap ∧ ∀ b ∈ fp, H7 b = none := fun {σ7 H7} z => by
          obtain ⟨acc7, cc7, r7, I7⟩ := z
          refine ⟨⟨acc7, cc7, r7, Inv.unpinned (pl := pinsAt fp s5.heap) I7⟩, T.keep _ _ _ st5 fun b hb o e => ?_, fun b hb => ?_⟩
          · exact (I7.pin (b, o) (List.mem_append_right _ (List.mem_cons_of_mem _ (List.mem_append_right _ (mem_pinsAt hb e))))).1
          · obtain ⟨o, e, d⟩ := T.obj _ _ st5 b hb
            exact (I7.pin (b, o) (List.mem_append_right _ (List.mem_cons_of_mem _ (List.mem_append_right _ (mem_pinsAt hb e))))).2.1
        cases f with
        | next =>
          obtain ⟨σ7, H7, I7, n7⟩ := hs
          obtain ⟨m', hm, w7⟩ := hN ys' σ7 H7 n7
          obtain ⟨J7, t7, fr7⟩ := back I7
          exact seg_again rfl (ih m' hm (i + 1) n' ys' s₀' s7 σ7 H7 hn' w7 J7 t7 fr7)
        | cont =>
          obtain ⟨σ7, H7, I7, n7⟩ := hs
          obtain ⟨m', hm, w7⟩ := hN ys' σ7 H7 n7
          obtain ⟨J7, t7, fr7⟩ := back I7
          exact seg_again rfl (ih m' hm (i + 1) n' ys' s₀' s7 σ7 H7 hn' w7 J7 t7 fr7)
        | brk =>
          obtain ⟨σ7, H7, I7, n7⟩ := hs
          exact seg_leaf (.ok .next) (k.ok n' ys' s₀' s7 .next hn' ⟨σ7, H7, (back I7).1, n7⟩)
        | ret v =>
          obtain ⟨x7, σ7, H7, I7, r7, n7⟩ := hs
          exact seg_leaf (.ok (.ret v)) (k.ok n' ys' s₀' s7 (.ret v) hn' ⟨x7, σ7, H7, (back I7).1, r7, n7⟩)
  exact loop m0 0 n ys s₀ s2 σ H2 hn w0 ⟨acc0, cc0, r0, I2⟩ st2 fun b hb => (f2 b hb).1
end
end L2

namespace G
open PySem PySem.Spec PyProof.Rows L2
/-! ### generator defs that only hand out what they walk -/
/-- a generator def at the module's name x -/
structure DcG (c : Md) (x : Str) (ps : List Str) (k : Nat) (sp : SpG) : Prop where
  ex : ∃ (f : Addr) (fd : FuncData), GFn c.prog c.w c.K c.mg c.base k f fd ps sp ∧ c.mg x = some (.ref f) ∧ PySem.W.keepIn c.K (.ref f) = true ∧ Binds c.K fd ps []
section
variable {c : Cd} {σ : L2.St} {H : Hp} {Q : VK} {pos : Pos}
/-- list(f(e, ..)) of a generator def -/
theorem e_listG {x : Str} {p p1 p2 : Pos} {e : Expr} {es : List Expr} {ps : List Str} {k : Nat} {sp : SpG} (D : DcG c.toMd x ps k sp) (hm0 : c.mg "list" = none) (q : RA c (e :: es) σ H fun vs H1 => sp vs H1 (fun out H2 => ∀ p, H2 p = none → Q (.ref p) (upd H2 p (.lst out))) fun _ _ _ => False) (hk : k + 3 ≤ c.k := by exact Nat.le_of_ble_eq_true rfl) (hg : c.sc.names.lookup x = some .globalImplicit := by rfl) (hg2 : c.sc.names.lookup ("list" : Str) = some .globalImplicit := by rfl)
    (hdb : (x == ("__debug__" : Str)) = false := by decide) (he : ∀ env, starEach (e :: es) env = (false, eval e env) :: starEach es env := by intro _; rfl) (hpl : ∀ env, (backTo p2 (starEach es env)).any (·.1) = false := by intro _; rfl) (h1 : ∀ env, starEach [.Call (.Name x p1) (e :: es) [] p2] env = (false, eval (.Call (.Name x p1) (e :: es) [] p2) env) :: starEach [] env := by intro _; rfl) :
    RE c (.Call (.Name "list" p) [.Call (.Name x p1) (e :: es) [] p2] [] pos) σ H Q := by
  obtain ⟨f, fd, F, hm, hkp, hb⟩ := D.ex
  refine re_of (t := tListG (tCallG sp [] (fun _ _ _ => False) (RA c (e :: es)))) (fun X h => ?_) (RA.mono (fun vs H1 z => ?_) q)
  · refine pe_listG (k := k) (E := fun _ _ _ => False) (pgen_call (f := f) (fd := fd) (ps := ps) (ds := []) ?_ (h.room.mono (Nat.le_trans (Nat.le_add_right _ _) hk)) (gl_of h hg) (by rw [h.mg]; exact hm) (by rw [h.K]; exact hkp) (by rw [h.K]; exact hb) .nil (pa_ra h) hdb (he _) (hpl _)) (fun _ _ _ _ _ _ _ z => by obtain ⟨_, _, _, _, _, _, _, _, _, _, _, _, hf⟩ := z; exact hf.elim) (fun _ _ _ z => z.elim) (h.room.mono hk) (gl_of h hg2) (by rw [h.mg]; exact hm0) (by decide +kernel) (by decide) (by decide) (h1 _)
    rw [h.prog, h.w, h.K, h.mg, h.base]; exact F
  · rw [List.append_nil]
    exact z
end
theorem is_gcx {M : Md} {N : List Str} {qual : Str} {sc : Scope} {f : Addr} {cdv : Value} {A : Around} {outer : List Env} {s : Shared} {H : Hp} {E : XK} {pn : List (Addr × Obj)} {k : Nat} (hn : N.Nodup) (hr : Room k (A.deeper (envOfC qual sc s.heap.objs.size f cdv))) :
    Is ⟨M, N, sc, k, true, false, none⟩ (gcxOf M.prog M.w M.K M.mg M.base N qual sc f cdv A outer s H E pn) :=
  ⟨rfl, rfl, rfl, rfl, rfl, rfl, rfl, rfl, hr, fun _ _ => rfl, owns_gcx, hn, fun z => Bool.noConfusion z, fun _ _ z => nomatch z⟩
/-- a generator def whose body is «for x in e: yield x» -/
theorem gfn_walk {M : Md} {x qual : Str} {st : Stmt} {f : Addr} {fd : FuncData} {N ps : List Str} {k : Nat} {sp : SpG} {tg it e : Expr} {p1 p2 p3 : Pos} (F : Fun M.K x qual st f fd) (S : GScope N ps (defScope st)) (len : ∀ vs H Q E, sp vs H Q E → vs.length = ps.length)
    (hst : defBody st = [.For tg it [.Expr (.Yield (some e) p1) p2] [] p3]) (hs : ∀ env x, foldedSetIterable it env x = pure x) (hi : ∀ env : Env, env.scope = defScope st → interactive env = false)
    (body : ∀ (H : Hp) (vs : List V) (Q : List V → Hp → Prop) (E : XK), sp vs H Q E → RI ⟨M, N, defScope st, k, true, false, none⟩ tg it (start N vs) H fun J H1 => ∃ W : Nat → Nat → List V → L2.St → Hp → Prop, (∃ m, W 0 m [] (start N vs) H1) ∧ ∀ i m ys σ H, W i m ys σ H →
      (J.stop i H ∧ Q ys H) ∨ (J.go i H ∧ ∃ Nx : List V → L2.St → Hp → Prop, (∀ ys' σ' H', Nx ys' σ' H' → ∃ m', m' < m ∧ W (i + 1) m' ys' σ' H') ∧ ∀ x H', J.yld i H x H' → RG ⟨M, N, defScope st, k, true, false, none⟩ tg x σ H' fun σ2 H2 => ys.length < sizeLine ∧ RE ⟨M, N, defScope st, k, true, false, none⟩ e σ2 H2 fun y H3 => Nx (ys ++ [y]) σ2 H3)) :
    GFn M.prog M.w M.K M.mg M.base (k + 1) f fd ps sp := by
  obtain ⟨oc, od, kV, doc, pm, an, cdv, ct, osl, rfl, lk, hcd⟩ := F.ex
  refine gfn_of lk hcd S len fun A outer s H vs Q E pn hr h => ?_
  have hx := is_gcx (M := M) (N := N) (qual := qual) (sc := defScope st) (f := f) (cdv := cdv) (A := A) (outer := outer) (s := s) (H := H) (E := E) (pn := pn) S.nd hr
  refine ⟨_, hst ▸ gss_cons (gs_for owns_gcx rfl (pi_ri hx) (pg_rg hx) (gss_cons (gs_yield (pe_re hx) S.co (hi _ rfl)) gss_nil) (hs _)) gss_nil, ?_⟩
  refine RI.mono (fun J H1 z => ?_) (body H vs Q E h)
  obtain ⟨W, w0, tn⟩ := z
  exact ⟨W, w0, tn⟩
end G

namespace G
open PySem PySem.Spec PyProof.Rows L2
section
variable {c : Cd} {σ : L2.St} {H : Hp} {Q : VK} {pos : Pos}
theorem s_setLc2 {nx : L2.St → Hp → Prop} {rt : VK} {bk ct : L2.St → Hp → Prop} {i : Nat} {y : Str} {py : Pos} {elt tg iter tg1 iter1 : Expr} {ifs ifs1 : List Expr} {scope : Scope} {own : List (Str × Nat)} {vs1 : List Nat} {spos : Pos} (hA : At c.N i y) (ok : Blk c scope own) (hv : ∀ i ∈ vs1, i ∈ own.map (·.2))
    (q : tLc2 (RI c tg iter) (RG (blkCd c scope) tg) (RTs (blkCd c scope) ifs) (RI (blkCd c scope) tg1 iter1) (RG (blkCd c scope) tg1) (RTs (blkCd c scope) ifs1) (RE (blkCd c scope) elt) (own.map (·.2)) vs1 σ H fun v H1 => nx (σ.set i (some v)) H1)
    (hy : c.sc.names.lookup y = some .local := by rfl) (hl : (py.line == pos.line) = true := by rfl) (ha : (scope.names.any fun (n, k) => n == y && (k == .local || k == .cell)) = false := by rfl) (hf : c.sc.kind = .function := by rfl) (hs : ∀ env x, foldedSetIterable iter env x = pure x := by intro _ _; rfl) (hs1 : ∀ env x, foldedSetIterable iter1 env x = pure x := by intro _ _; rfl) :
    RS c (.Assign [.Name y py] (.ListComp elt [⟨tg, iter, ifs, 0⟩, ⟨tg1, iter1, ifs1, 0⟩] scope pos) spos) ⟨nx, rt, bk, ct⟩ σ H :=
  rs_of (c := c) (σ := σ) (H := H) (D := ⟨nx, rt, bk, ct⟩) (t := tAsg (tLc2 (RI c tg iter) (RG (blkCd c scope) tg) (RTs (blkCd c scope) ifs) (RI (blkCd c scope) tg1 iter1) (RG (blkCd c scope) tg1) (RTs (blkCd c scope) ifs1) (RE (blkCd c scope) elt) (own.map (fun p : Str × Nat => p.2)) vs1) (gName i)) (fun X h => ps_setLc2 h.calm (by rw [h.N]; exact h.nd) (by rw [h.N]; exact hA.get) (by rw [h.sc]; exact hy)
    (sw_true (by rw [h.sc]; exact hf) (by rw [h.sc]; exact hy) hl ha) (pi_ri h) (by rw [h.N, h.sc]; exact ok.ok) hv (fun s H C cl fp => pg_rg (is_blk h s H C cl fp)) (fun s H C cl fp => pts_rts (is_blk h s H C cl fp)) (fun s H C cl fp => pi_ri (is_blk h s H C cl fp)) (fun s H C cl fp => pg_rg (is_blk h s H C cl fp)) (fun s H C cl fp => pts_rts (is_blk h s H C cl fp)) (fun s H C cl fp => pe_re (is_blk h s H C cl fp)) (hs _) hs1) q
end
end G
namespace K
open PySem PySem.Spec PyProof.Rows L2 G
variable {M : Md}
/-- [e for x in xs for t in range(a, b)] of data: outer over a list, all steps new -/
theorem lc2_LR {c : Cd} {σ : L2.St} {H : Hp} {Q : VK} {elt tg iter tg1 a b : Expr} {p ppos : Pos} {scope : Scope} {vs vs1 : List Nat} {g : PyData → Int → PyData} (hm : c.mg "range" = none)
    (q : RE c iter σ H fun x H1 => ∃ l xs ds lo hi, x = .ref l ∧ SqL c.K H1 l xs ∧ DtAll c.K H1 xs ds ∧ (-1000 ≤ lo ∧ lo ≤ 1000) ∧ (-2000 ≤ hi ∧ hi ≤ 2000) ∧ ds.length * (hi - lo).toNat ≤ 1000 ∧
      (∀ d v H', d ∈ ds → Same H1 H' → Dt c.K H' v d → RG (blkCd c scope) tg v (wipe σ vs) H' fun σ2 H2 => H2 = H' ∧ wipe σ2 vs = wipe σ vs ∧
        RE (blkCd c scope) a σ2 H2 fun y H3 => RE (blkCd c scope) b σ2 H3 fun z H4 => y = .int lo ∧ z = .int hi ∧ H4 = H' ∧
        ∀ (t : Nat) H', Same H1 H' → (lo + t < hi) → Dt c.K H' v d → RG (blkCd c scope) tg1 (.int (lo + t)) (wipe σ2 vs1) H' fun σ3 H5 => H5 = H' ∧ wipe σ3 vs1 = wipe σ2 vs1 ∧ RE (blkCd c scope) elt σ3 H5 fun w H6 => Same H5 H6 ∧ Dt c.K H6 w (g d (lo + t))) ∧
      ∀ p us H3, Same H1 H3 → H1 p = none → H3 p = some (.lst us) → DtAll c.K H3 us (ds.flatMap fun d => (List.range (hi - lo).toNat).map fun t : Nat => g d (lo + (t : Int))) → Q (.ref p) H3)
    (hg : (blkCd c scope).sc.names.lookup ("range" : Str) = some .globalImplicit := by rfl) (hs : ∀ env, starEach [a, b] env = [(false, eval a env), (false, eval b env)] := by intro _; rfl) (hs2 : ∀ env, starEach [b] env = [(false, eval b env)] := by intro _; rfl) :
    tLc2 (RI c tg iter) (RG (blkCd c scope) tg) (RTs (blkCd c scope) []) (RI (blkCd c scope) tg1 (.Call (.Name "range" p) [a, b] [] ppos)) (RG (blkCd c scope) tg1) (RTs (blkCd c scope) []) (RE (blkCd c scope) elt) vs vs1 σ H Q := by
  refine i_list (RE.mono (fun x H1 z => ?_) q)
  obtain ⟨l, xs, ds, lo, hi, rfl, ht, hd, lb, hb, many, tn, k⟩ := z
  refine ⟨l, rfl, ⟨xs, ht⟩, fun D hD => ?_⟩
  have lx := hd.len
  let row : PyData → List PyData := fun d => (List.range (hi - lo).toNat).map fun t : Nat => g d (lo + (t : Int))
  have rowl : ∀ d, (row d).length = (hi - lo).toNat := fun d => by simp [row]
  have rowsl : ∀ es : List PyData, (es.flatMap row).length = es.length * (hi - lo).toNat := fun es => by
    induction es with
    | nil => simp
    | cons e es ih => rw [List.flatMap_cons, List.length_append, rowl, ih, List.length_cons, Nat.add_mul, Nat.one_mul, Nat.add_comm]
  refine ⟨fun i m H' => m = xs.length - i ∧ i ≤ xs.length ∧ ∃ acc, H' D = some (.lst acc) ∧ Same H1 H' ∧ DtAll c.K H' acc ((ds.take i).flatMap row), ⟨xs.length, by simp, Nat.zero_le _, [], upd_same, same_new hD, .nil⟩, ?_⟩
  rintro i m H2 ⟨rfl, hi2, acc, ha, s2, h2⟩
  by_cases hlt : i < xs.length
  · obtain ⟨d, hdi, hx⟩ := hd.getV (List.getElem?_eq_getElem hlt)
    refine .inr ⟨⟨xs, xs[i], s2.seq ht, by simp [hlt]⟩, fun H' => ∃ acc, H' D = some (.lst acc) ∧ Same H1 H' ∧ DtAll c.K H' acc ((ds.take (i + 1)).flatMap row), fun H' ⟨acc, z1, z2, z3⟩ => ⟨xs.length - (i + 1), by omega, rfl, hlt, acc, z1, z2, z3⟩, ?_⟩
    rintro y H3 ⟨e0, yy⟩
    subst e0
    have e := yy xs (s2.seq ht)
    rw [List.getElem?_eq_getElem hlt] at e
    cases e
    refine RG.mono (fun σ2 H4 z => ?_) (tn d xs[i] _ (List.mem_of_getElem? hdi) s2 (hx.mono (tp_same s2)))
    obtain ⟨rfl, w1, z⟩ := z
    refine ⟨w1, ts_nil ?_⟩
    rw [if_pos rfl]
    refine i_range2 hm (a_cons (RE.mono (fun y H5 z => a_cons (RE.mono (fun z2 H6 z => a_nil ?_) z) (fun env => by rw [hs2]; rfl)) z) (fun env => by rw [hs, hs2])) hg hs hs2
    obtain ⟨rfl, rfl, rfl, tn2⟩ := z
    have hcap : (ds.take i).length * (hi - lo).toNat + (hi - lo).toNat ≤ 1000 := by
      have h1 : (ds.take i).length + 1 ≤ ds.length := by rw [List.length_take]; omega
      have h2 := Nat.mul_le_mul_right (hi - lo).toNat h1
      rw [Nat.add_mul, Nat.one_mul] at h2
      omega
    refine ⟨lo, hi, rfl, ⟨by omega, by omega, by omega, by omega⟩, fun j k H' => k = (hi - lo).toNat - j ∧ j ≤ (hi - lo).toNat ∧ ∃ acc, H' D = some (.lst acc) ∧ Same H1 H' ∧ DtAll c.K H' acc ((ds.take i).flatMap row ++ (List.range j).map fun t : Nat => g d (lo + (t : Int))), ⟨(hi - lo).toNat, by simp, Nat.zero_le _, acc, ha, s2, by simpa using h2⟩, ?_⟩
    rintro j k0 H7 ⟨rfl, hj, acc7, ha7, s7, h7⟩
    by_cases hjl : j < (hi - lo).toNat
    · refine .inr ⟨hjl, fun H' => ∃ acc, H' D = some (.lst acc) ∧ Same H1 H' ∧ DtAll c.K H' acc ((ds.take i).flatMap row ++ (List.range (j + 1)).map fun t : Nat => g d (lo + (t : Int))), fun H' ⟨acc, z1, z2, z3⟩ => ⟨(hi - lo).toNat - (j + 1), by omega, rfl, hjl, acc, z1, z2, z3⟩, ?_⟩
      rintro y H8 ⟨e8, rfl⟩
      subst e8
      refine RG.mono (fun σ3 H9 z => ?_) (tn2 j _ s7 (by omega) (hx.mono (tp_same s7)))
      obtain ⟨rfl, w3, z⟩ := z
      refine ⟨w3, ts_nil ?_⟩
      rw [if_pos rfl]
      refine RE.mono (fun w H10 z => ?_) z
      obtain ⟨s10, h10⟩ := z
      have aD := s10 _ _ ha7
      have ku := kp_upd (o' := .lst (acc7 ++ [w])) aD (fun _ e => nomatch e) (fun _ _ e => nomatch e)
      have l7 := h7.len
      rw [List.length_append, rowsl, List.length_map, List.length_range] at l7
      refine ⟨acc7, aD, Nat.lt_of_le_of_lt (show acc7.length ≤ 1000 by omega) (by decide), acc7 ++ [w], upd_same, same_mut (s7.trans s10) hD, ?_⟩
      rw [List.range_succ, List.map_append, ← List.append_assoc]
      exact ((h7.mono (tp_same s10)).mono ku.t).app (.cons (h10.mono ku.t) .nil)
    · have ej : j = (hi - lo).toNat := by omega
      subst ej
      refine .inl ⟨Nat.le_refl _, acc7, ha7, s7, ?_⟩
      rw [List.take_succ_eq_append_getElem (by omega), List.flatMap_append]
      have ed : ds[i]'(by omega) = d := by
        have := List.getElem?_eq_getElem (l := ds) (i := i) (by omega)
        rw [this] at hdi
        exact Option.some.inj hdi
      rw [ed]
      simpa [row] using h7
  · have e : i = xs.length := by omega
    subst e
    rw [lx, List.take_length] at h2
    exact .inl ⟨⟨xs, s2.seq ht, Nat.le_refl _⟩, k D acc H2 s2 hD ha h2⟩
end K

namespace K
open PySem PySem.Spec PyProof.Rows L2 G
variable {M : Md}
def gApp : PyData → Int → PyData
  | .tuple xs, t => .tuple (xs ++ [.int t])
  | d, _ => d
theorem widen_app (acc : List St1) (p : Rng) : (acc.map stD).flatMap (fun d => (List.range (p.2 + 1 - p.1).toNat).map fun t : Nat => gApp d (p.1 + (t : Int))) = (widen acc p).map stD := by
  unfold widen span
  rw [List.flatMap_map, List.map_flatMap]
  congr 1
  funext o
  rw [List.map_map]
  congr 1
  funext t
  simp [gApp, stD]
def rComb : List PyData → List PyData → Prop := fun ds es => ∃ rs : List Row, ds = [.tuple (rngs rs)] ∧ Small rs ∧ es = (statesOf (rg rs)).map stD
set_option maxHeartbeats 1000000 in
theorem ok_comb {f fd} (F : Fun M.K "_combined" "_combined" s__combined f fd) (b : Bl M) : FnG M.prog M.w M.K M.mg M.base CX0 1 f fd ["ranges"] (spL rComb M.K) := by
  refine fn_ok F sc__combined (fun vs H Q E h => ?_) (fun H vs Q E h => ?_)
  · obtain ⟨ds, d, h, ⟨rs, rfl, _⟩, _⟩ := h
    exact h.len
  obtain ⟨ds, d, h, ⟨rs, rfl, sm, rfl⟩, k⟩ := h
  obtain _ | ⟨hc, h⟩ := h
  cases h
  rename_i vc
  refine b_cut (fun σ1 H1 => ∃ l us, σ1 = [some vc, some (.ref l), none, none, none, none] ∧ Same H H1 ∧ H l = none ∧ H1 l = some (.lst us) ∧ DtAll M.K H1 us [stD []]) ?_ ?_
  · refine s_set (by tm_at "at") ?_
    refine e_lstD ?_
    refine a_cons (e_tupD (a_nil ?_))
    refine tupend (ds := []) .nil (Nat.le_of_ble_eq_true rfl) fun v0 H0 s0 h0 => ?_
    refine a_nil ⟨(Nat.le_of_ble_eq_true rfl), fun l1 H1 s1 n1 g1 => ?_⟩
    exact ⟨l1, _, rfl, s0.trans s1, same_none s0 n1, g1, .cons (h0.mono (tp_same s1)) .nil⟩
  rintro _ H1 ⟨l1, u1, rfl, s1, n1, g1, h1⟩
  refine b_cut (fun σ1 H2 => ∃ (l : Addr) (us : List V) (v2 v3 : Option V), σ1 = [some vc, some (.ref l), v2, v3, none, none] ∧ Same H H2 ∧ H l = none ∧ H2 l = some (.lst us) ∧ DtAll M.K H2 us ((statesOf (rg rs)).map stD)) ?_ ?_
  · rw [rngs_eq] at hc
    obtain ⟨a, xs, rfl, ht, hd⟩ := (hc.mono (tp_same s1)).tupE
    refine s_forT ?_
    refine e_var (by tm_at "at") ?_
    refine ⟨a, xs, rfl, ht, fun i σ1 H' => ∃ (l : Addr) (us : List V) (v2 v3 : Option V), σ1 = [some (.ref a), some (.ref l), v2, v3, none, none] ∧ Same H1 H' ∧ H l = none ∧ H' l = some (.lst us) ∧ DtAll M.K H' us ((statesOf ((rg rs).take i)).map stD), ⟨l1, u1, none, none, rfl, Same.refl _, n1, g1, h1⟩, ?_, ?_, ?_⟩
    · rintro i σ' H' _ ⟨l, us, v2, v3, rfl, s, _⟩
      exact (tp_same s).sqt ht
    · rintro i x σ' H3 hx ⟨l, us, v2, v3, rfl, s3, n3, g3, h3⟩
      obtain ⟨d, hdi, hx'⟩ := hd.getV hx
      rw [List.getElem?_map] at hdi
      obtain ⟨pr, hp, rfl⟩ := Option.map_eq_some_iff.mp hdi
      obtain ⟨ap, xp, rfl, htp, hdp⟩ := (hx'.mono (tp_same s3)).tupE
      obtain _ | ⟨e1, hdp⟩ := hdp
      obtain _ | ⟨e2, hdp⟩ := hdp
      cases hdp
      cases e1
      cases e2
      have spn := sm.sp pr (List.mem_of_getElem? hp)
      have cnt : (widen (statesOf ((rg rs).take i)) pr).length ≤ 256 := by
        rw [← states_snoc hp, states_len]
        exact Nat.le_trans (many_take (fun p hp => (sm.sp p hp).1) _) sm.many
      rw [widen_len] at cnt
      refine g_tup htp (gs_cons (g_name (by tm_at "at") (gs_cons (g_name (by tm_at "at") (gs_nil ?_)))))
      refine b_one ?_
      refine s_setLc2 (own := [("state", 4), ("value", 5)]) (vs1 := [5]) (by tm_at "at") (Blk.of (N := N__combined) (sc := defScope s__combined) rfl rfl (by decide +kernel)) (by decide) ?_
      refine lc2_LR (g := gApp) b.range ?_
      refine e_var (by tm_at "at") ?_
      refine ⟨l, us, _, pr.1, pr.2 + 1, rfl, .of g3, h3, by unfold span at spn; omega, by unfold span at spn; omega, ?_, ?_, ?_⟩
      · rw [List.length_map]
        unfold span at cnt
        omega
      · intro d v H' hd' s' hv
        obtain ⟨o, ho, rfl⟩ := List.mem_map.mp hd'
        refine g_name (by tm_at "at") ⟨rfl, rfl, ?_⟩
        tm_at "go"
        refine ⟨rfl, rfl, rfl, ?_⟩
        intro t H4 s4 ht4 hv4
        refine g_name (by tm_at "at") ⟨rfl, rfl, ?_⟩
        tm_at "go"
        refine e_tupD ?_
        tm_at "go"
        refine tupend (.cons (.int _) .nil) (Nat.le_of_ble_eq_true rfl) fun vp H5 s5 hp5 => ?_
        have ol : o.length ≤ 100 := by
          have h1 := states_mem ho
          have h2 : ((rg rs).take i).length ≤ (rg rs).length := by rw [List.length_take]; omega
          have h3 := sm.tot
          rw [rg_len] at h2
          omega
        refine ro_catT (hv4.mono (tp_same s5)) hp5 (by rw [List.length_map]; simp only [List.length_cons, List.length_nil]; omega) fun v9 H9 s9 h9 => ?_
        exact ⟨s5.trans s9, h9⟩
      · intro p ys H4 s4 n4 g4 h4
        rw [widen_app, ← states_snoc hp] at h4
        exact ⟨p, ys, _, _, rfl, s3.trans s4, same_none (s1.trans s3) n4, g4, h4⟩
    · rintro σ' H3 ⟨l, us, v2, v3, rfl, s3, n3, g3, h3⟩
      have lx := hd.len
      rw [List.length_map] at lx
      rw [lx, List.take_length] at h3
      exact ⟨l, us, v2, v3, rfl, s1.trans s3, n3, g3, h3⟩
  rintro _ H2 ⟨l, us, v2, v3, rfl, s2, n2, g2, h2⟩
  tm_at "go"
  exact k _ _ _ s2 n2 g2 h2
end K

namespace K
open PySem PySem.Spec PyProof.Rows L2 G
variable {M : Md}
def rSlist : List PyData → List PyData → Prop := fun ds es => ∃ (rs : List Row) (rest : List PyData), ds = [.tuple (cellsD rs :: rest)] ∧ Small rs ∧ es = (statesOf (rg rs)).map stD
theorem ok_slist {f fd} (F : Fun M.K "state_list" "state_list" s_state_list f fd) (b : Bl M) (dr : Dc M "cell_ranges" ["cells"] 2 (spF rRanges M.K)) (dc : Dc M "_combined" ["ranges"] 1 (spL rComb M.K)) : FnG M.prog M.w M.K M.mg M.base CX0 3 f fd ["program"] (spL rSlist M.K) := by
  refine fn_ok F sc_state_list (fun vs H Q E h => ?_) (fun H vs Q E h => ?_)
  · obtain ⟨ds, d, h, ⟨rs, rest, rfl, _⟩, _⟩ := h
    exact h.len
  obtain ⟨ds, d, h, ⟨rs, rest, rfl, sm, rfl⟩, k⟩ := h
  obtain _ | ⟨hp, h⟩ := h
  cases h
  rename_i vp
  tm_at "go"
  refine e_callL dc ?_
  refine a_cons ?_
  refine e_callF dr ?_
  tm_at "go"
  refine rx_tup hp (d := cellsD rs) (pl_at (j := 0) rfl rfl) fun vc hc => ?_
  tm_at "go"
  refine ⟨_, _, .cons hc .nil, ⟨rs, rfl, Nat.le_trans sm.tot (by decide), rfl⟩, fun v2 H2 s2 h2 => ?_⟩
  refine a_nil ?_
  exact ⟨_, _, .cons h2 .nil, ⟨rs, rfl, sm, rfl⟩, fun l us H3 s3 n3 g3 h3 => k _ _ _ (s2.trans s3) (same_none s2 n3) g3 h3⟩
/-- the generator: it hands out the states, and leaves what was there -/
def spAll (K : PySem.W.Frag) : SpG := fun vs H Q _ => ∃ (v : V) (rs : List Row) (rest : List PyData), vs = [v] ∧ Dt K H v (.tuple (cellsD rs :: rest)) ∧ Small rs ∧ ∀ out H', Same H H' → DtAll K H' out ((statesOf (rg rs)).map stD) → Q out H'
theorem gsc_all : GScope N_all_states ["program"] (defScope s_all_states) := ⟨rfl, rfl, rfl, by decide +kernel, rfl, by decide +kernel, by decide +kernel⟩
theorem ok_all {f fd} (F : Fun M.K "all_states" "all_states" s_all_states f fd) (b : Bl M) (ds : Dc M "state_list" ["program"] 3 (spL rSlist M.K)) : GFn M.prog M.w M.K M.mg M.base 4 f fd ["program"] (spAll M.K) := by
  refine gfn_walk F gsc_all (fun vs H Q E h => ?_) rfl (by intro _ _; rfl) (fun env he => ?_) (fun H vs Q E h => ?_)
  · obtain ⟨v, rs, rest, rfl, _⟩ := h
    rfl
  · unfold interactive
    rw [he]
    rfl
  obtain ⟨v, rs, rest, rfl, hv, sm, k⟩ := h
  refine i_list ?_
  refine e_callL ds ?_
  refine a_cons (e_var (by tm_at "at") (a_nil ?_))
  refine ⟨_, _, .cons hv .nil, ⟨rs, rest, rfl, sm, rfl⟩, fun l us H1 s1 n1 g1 h1 => ?_⟩
  have lu := h1.len
  have cnt : us.length ≤ 256 := by
    rw [lu, List.length_map, states_len]
    exact sm.many
  refine ⟨l, rfl, ⟨us, .of g1⟩, fun i m ys σ H2 => m = us.length - i ∧ i ≤ us.length ∧ (∃ v1, σ = [some v, v1]) ∧ H2 = H1 ∧ ys = us.take i, ⟨us.length, by simp, Nat.zero_le _, ⟨_, rfl⟩, rfl, rfl⟩, ?_⟩
  rintro i m ys σ H2 ⟨rfl, hi, ⟨v1, rfl⟩, rfl, rfl⟩
  by_cases hlt : i < us.length
  · refine .inr ⟨⟨us, us[i], .of g1, by simp [hlt]⟩, fun ys' σ' H' => (∃ v1, σ' = [some v, v1]) ∧ H' = H2 ∧ ys' = us.take (i + 1), fun ys' σ' H' ⟨z1, z2, z3⟩ => ⟨us.length - (i + 1), by omega, rfl, hlt, z1, z2, z3⟩, ?_⟩
    rintro x H3 ⟨e0, yy⟩
    subst e0
    have e := yy us (.of g1)
    rw [List.getElem?_eq_getElem hlt] at e
    cases e
    refine g_name (by tm_at "at") ⟨?_, ?_⟩
    · rw [List.length_take]
      exact Nat.lt_of_le_of_lt (show min i us.length ≤ 256 by omega) (by decide)
    · refine e_var (by tm_at "at") ?_
      exact ⟨⟨_, rfl⟩, rfl, by rw [List.take_succ_eq_append_getElem hlt]⟩
  · have e : i = us.length := by omega
    subst e
    refine .inl ⟨⟨us, .of g1, Nat.le_refl _⟩, k _ _ s1 ?_⟩
    rw [List.take_length]
    exact h1
end K

namespace K
open PySem PySem.Spec PyProof.Rows L2 G
/-! ### repr of data: its size -/
structure Shw (m n : Nat) (d : PyData) : Prop where
  ok : d.showable = true
  len : d.shown.length ≤ n
  dep : d.depth ≤ m
  nod : d.hasDict = false
theorem Shw.up {m n m' n' : Nat} {d : PyData} (h : Shw m n d) (h1 : m ≤ m') (h2 : n ≤ n') : Shw m' n' d := ⟨h.ok, Nat.le_trans h.len h2, Nat.le_trans h.dep h1, h.nod⟩
theorem sw_none : Shw 0 13 .none := ⟨by simp only [PyData.showable], by simp only [PyData.shown]; decide, by simp only [PyData.depth]; exact Nat.le_refl _, by simp only [PyData.hasDict]⟩
theorem sw_bool (b : Bool) : Shw 0 13 (.bool b) := by
  refine ⟨by simp only [PyData.showable], ?_, by simp only [PyData.depth]; exact Nat.le_refl _, by simp only [PyData.hasDict]⟩
  simp only [PyData.shown]
  cases b <;> decide
theorem sw_int {i : Int} (h : i.natAbs < 10 ^ 12) : Shw 0 13 (.int i) := by
  refine ⟨?_, PyData.shown_int_le h, by simp only [PyData.depth]; exact Nat.le_refl _, by simp only [PyData.hasDict]⟩
  simp only [PyData.showable, decide_eq_true_eq]
  have h2 : i.natAbs.log2 < 40 := PySem.Flt.log2_lt_of (by decide) (Nat.lt_of_lt_of_le h (by decide))
  omega
theorem sw_str {x : Str} {n : Nat} (h : (reprText x).length ≤ n) : Shw 0 n (.str x) := ⟨by simp only [PyData.showable], by simp only [PyData.shown]; exact h, by simp only [PyData.depth]; exact Nat.le_refl _, by simp only [PyData.hasDict]⟩
theorem sw_all {m n : Nat} : ∀ {ds : List PyData}, (∀ d ∈ ds, Shw m n d) → PyData.showableAll ds = true ∧ ((PyData.shownAll ds).map (·.length)).sum ≤ ds.length * n ∧ PyData.depthAll ds ≤ m ∧ PyData.hasDictAll ds = false
  | [], _ => ⟨by simp only [PyData.showableAll], by simp only [PyData.shownAll]; exact Nat.zero_le _, by simp only [PyData.depthAll]; exact Nat.zero_le _, by simp only [PyData.hasDictAll]⟩
  | d :: ds, h => by
    have h1 := h d (List.mem_cons_self ..)
    obtain ⟨a1, a2, a3, a4⟩ := sw_all fun e he => h e (List.mem_cons_of_mem _ he)
    refine ⟨by simp only [PyData.showableAll, h1.ok, a1, Bool.and_self], ?_, ?_, by simp only [PyData.hasDictAll, h1.nod, a4, Bool.or_self]⟩
    · have := h1.len
      simp only [PyData.shownAll, List.map_cons, List.sum_cons, List.length_cons, Nat.succ_mul]
      omega
    · simp only [PyData.depthAll]
      exact Nat.max_le.mpr ⟨h1.dep, a3⟩
theorem sw_tup {m n k : Nat} {ds : List PyData} (h : ∀ d ∈ ds, Shw m n d) (hk : ds.length ≤ k) : Shw (m + 1) (k * (n + 2) + 3) (.tuple ds) := by
  obtain ⟨a1, a2, a3, a4⟩ := sw_all h
  refine ⟨by simp only [PyData.showable, a1], ?_, by simp only [PyData.depth]; omega, by simp only [PyData.hasDict, a4]⟩
  simp only [PyData.shown]
  refine Nat.le_trans (tupleText_len_le _) ?_
  have e : (PyData.shownAll ds).length = ds.length := PyData.shownAll_length ds
  have e2 : ds.length * (n + 2) ≤ k * (n + 2) := Nat.mul_le_mul_right _ hk
  rw [e]
  rw [Nat.mul_add] at e2
  omega
theorem sw_lst {m n k : Nat} {ds : List PyData} (h : ∀ d ∈ ds, Shw m n d) (hk : ds.length ≤ k) : Shw (m + 1) (k * (n + 2) + 3) (.list ds) := by
  obtain ⟨a1, a2, a3, a4⟩ := sw_all h
  refine ⟨by simp only [PyData.showable, a1], ?_, by simp only [PyData.depth]; omega, by simp only [PyData.hasDict, a4]⟩
  simp only [PyData.shown]
  refine Nat.le_trans (listText_len_le _) ?_
  have e : (PyData.shownAll ds).length = ds.length := PyData.shownAll_length ds
  have e2 : ds.length * (n + 2) ≤ k * (n + 2) := Nat.mul_le_mul_right _ hk
  rw [e]
  rw [Nat.mul_add] at e2
  omega
/-! ### repr(v) of a tuple or list of data -/
def rRepr (K : PySem.W.Frag) : List V → Hp → VK → Prop := fun vs H Q => ∃ a d, vs = [.ref a] ∧ Dp K H (.ref a) d ∧ Shw 60 1000000 d ∧ Q (.str d.shown) H
theorem cr_repr {X : Cx} (quiet : X.A.guards = some []) (hu : X.A.units + 64 < cLine) : CallR X (.builtin "repr") (rRepr X.K) := by
  intro pins st σ H vs us Q J rv z
  obtain ⟨a, d, rfl, hd, sw, k⟩ := z
  obtain rfl := Vals.ref1 rv
  obtain ⟨as, rd⟩ := Dp.reads J d (.ref a) (.ref a) hd rfl
  have h1 := sw.dep
  have h2 := sw.len
  refine repr_of_reads' rd sw.ok (fun h => by rw [sw.nod] at h; cases h) quiet (by omega) (fun _ _ e => e) (fun h' u tk keep => ?_) (by rw [sizeLine_eq]; omega)
  exact ⟨.str d.shown, H, J.kept (t' := tk) keep, ⟨u, rfl⟩, k⟩
theorem rc_repr {c : Cd} {H : Hp} {Q : VK} {a : Addr} {d : PyData} (hd : Dp c.K H (.ref a) d) (sw : Shw 60 1000000 d) (q : Q (.str d.shown) H) (hq : c.g = true := by rfl) : RC c (.builtin "repr") [.ref a] H Q :=
  rc_of (r := rRepr c.K) (fun X h => by rw [← h.K]; exact cr_repr (h.gd hq) h.room.units) ⟨a, d, rfl, hd, sw, q⟩
end K

namespace K
open PySem PySem.Spec PyProof.Rows L2 G
/-! ### data whose text and depth are bounded -/
mutual
def wt : PyData → Nat
  | .none => 13
  | .bool _ => 13
  | .int i => i.natAbs.log2 + 13
  | .str s => 10 * s.length + 13
  | .list ds => wts ds + 13
  | .tuple ds => wts ds + 13
  | .dict _ => 0
def wts : List PyData → Nat
  | [] => 0
  | d :: ds => wt d + 4 + wts ds
end
mutual
def gd (L : Nat) : PyData → Bool
  | .none => true
  | .bool _ => true
  | .int i => decide (i.natAbs.log2 < L)
  | .str s => PyData.strOk s
  | .list ds => gds L ds
  | .tuple ds => gds L ds
  | .dict _ => false
def gds (L : Nat) : List PyData → Bool
  | [] => true
  | d :: ds => gd L d && gds L ds
end
theorem wts_app : ∀ ds es : List PyData, wts (ds ++ es) = wts ds + wts es
  | [], es => by simp [wts]
  | d :: ds, es => by simp only [List.cons_append, wts, wts_app ds es]; omega
theorem gds_all {L : Nat} {ds : List PyData} : gds L ds = true ↔ ∀ d ∈ ds, gd L d = true := by
  induction ds with
  | nil => simp [gds]
  | cons d ds ih => simp [gds, ih]
theorem wts_mem : ∀ {ds : List PyData} {d : PyData}, d ∈ ds → wt d + 4 ≤ wts ds
  | e :: ds, d, h => by
    simp only [wts]
    rcases List.mem_cons.mp h with h | h
    · subst h; omega
    · have := wts_mem h; omega
theorem wts_len : ∀ ds : List PyData, 4 * ds.length ≤ wts ds
  | [] => by simp [wts]
  | d :: ds => by have := wts_len ds; simp only [wts, List.length_cons]; omega
theorem int_len {i : Int} (h : i.natAbs.log2 < 1900) : (PyData.shown (.int i)).length ≤ i.natAbs.log2 + 13 := by
  simp only [PyData.shown]
  have h1 := int_text_length_le (a := i) (k := i.natAbs.log2 + 1) (Nat.succ_pos _) (Nat.lt_succ_self _)
  show (Str.ofString (toString i)).length ≤ _
  rw [PySem.ofString_length]
  omega
theorem strOk_small {s : Str} (h : PyData.strOk s = true) : ∀ c ∈ s.cps.toList, c < 16 ^ 8 := by
  intro c hc
  have h1 : s.cps.all (· < 0x110000) = true := h
  rw [← Array.all_toList, List.all_eq_true] at h1
  have := of_decide_eq_true (h1 c hc)
  omega
mutual
theorem shown_wt {L : Nat} (hL : L ≤ 1900) : ∀ d : PyData, gd L d = true → d.shown.length ≤ wt d ∧ d.showable = true ∧ d.hasDict = false ∧ d.canLay0 = true
  | .none, _ => by simp only [PyData.shown, PyData.showable, PyData.hasDict, PyData.canLay0, wt]; decide
  | .bool b, _ => by simp only [PyData.shown, PyData.showable, PyData.hasDict, PyData.canLay0, wt]; cases b <;> decide
  | .int i, h => by
    have h1 : i.natAbs.log2 < L := by simpa [gd] using h
    refine ⟨by rw [wt]; exact int_len (by omega), ?_, by simp only [PyData.hasDict], by simp only [PyData.canLay0]⟩
    simp only [PyData.showable, decide_eq_true_eq]
    omega
  | .str s, h => by
    have h1 : PyData.strOk s = true := by simpa [gd] using h
    refine ⟨?_, by simp only [PyData.showable], by simp only [PyData.hasDict], by simp only [PyData.canLay0]; exact h1⟩
    simp only [PyData.shown, wt]
    have := StrLaws.reprText_len s (strOk_small h1)
    omega
  | .list ds, h => by
    have h1 : gds L ds = true := by simpa [gd] using h
    obtain ⟨a1, a2, a3, a4, a5⟩ := shown_wts hL ds h1
    refine ⟨?_, by simp only [PyData.showable]; exact a2, by simp only [PyData.hasDict]; exact a3, by simp only [PyData.canLay0]; exact a4⟩
    simp only [PyData.shown, wt]
    have := listText_len_le (PyData.shownAll ds)
    rw [a5] at this
    omega
  | .tuple ds, h => by
    have h1 : gds L ds = true := by simpa [gd] using h
    obtain ⟨a1, a2, a3, a4, a5⟩ := shown_wts hL ds h1
    refine ⟨?_, by simp only [PyData.showable]; exact a2, by simp only [PyData.hasDict]; exact a3, by simp only [PyData.canLay0]; exact a4⟩
    simp only [PyData.shown, wt]
    have := tupleText_len_le (PyData.shownAll ds)
    rw [a5] at this
    omega
  | .dict _, h => by simp [gd] at h
theorem shown_wts {L : Nat} (hL : L ≤ 1900) : ∀ ds : List PyData, gds L ds = true → ((PyData.shownAll ds).map (·.length)).sum + 4 * ds.length ≤ wts ds ∧ PyData.showableAll ds = true ∧ PyData.hasDictAll ds = false ∧ PyData.canLayAll0 ds = true ∧ (PyData.shownAll ds).length = ds.length
  | [], _ => by simp only [PyData.shownAll, PyData.showableAll, PyData.hasDictAll, PyData.canLayAll0, wts]; simp
  | d :: ds, h => by
    have h1 : gd L d = true ∧ gds L ds = true := by simpa [gds] using h
    obtain ⟨b1, b2, b3, b4⟩ := shown_wt hL d h1.1
    obtain ⟨a1, a2, a3, a4, a5⟩ := shown_wts hL ds h1.2
    simp only [PyData.shownAll, PyData.showableAll, PyData.hasDictAll, PyData.canLayAll0, wts, b2, b3, b4, a2, a3, a4, a5, List.map_cons, List.sum_cons, List.length_cons, Bool.and_self, Bool.or_self, and_true]
    omega
end
structure GdL (L m n : Nat) (d : PyData) : Prop where
  g : gd L d = true
  dep : d.depth ≤ m
  wt : wt d ≤ n
theorem GdL.up {L m n m' n' : Nat} {d : PyData} (h : GdL L m n d) (h1 : m ≤ m') (h2 : n ≤ n') : GdL L m' n' d := ⟨h.g, Nat.le_trans h.dep h1, Nat.le_trans h.wt h2⟩
theorem GdL.shw {L m n : Nat} {d : PyData} (h : GdL L m n d) (hL : L ≤ 1900) (hm : m ≤ 60) (hn : n ≤ 1000000) : Shw 60 1000000 d := by
  obtain ⟨a1, a2, a3, _⟩ := shown_wt hL d h.g
  exact ⟨a2, Nat.le_trans a1 (Nat.le_trans h.wt hn), Nat.le_trans h.dep hm, a3⟩
theorem GdL.shp {L m n : Nat} {d : PyData} (h : GdL L m n d) (hL : L ≤ 1900 := by exact Nat.le_of_ble_eq_true rfl) : Shp m d := ⟨(shown_wt hL d h.g).2.2.2, h.dep⟩
theorem GdL.shaped {L m n : Nat} {d : PyData} (h : GdL L m n d) (hm : m ≤ 60) (hL : L ≤ 1900 := by exact Nat.le_of_ble_eq_true rfl) : SeqAt.shaped d = true := (h.shp hL).ok (by omega)
theorem depthAll_le {m : Nat} {ds : List PyData} : PyData.depthAll ds ≤ m ↔ ∀ d ∈ ds, d.depth ≤ m := by
  induction ds with
  | nil => simp [PyData.depthAll]
  | cons d ds ih => simp only [PyData.depthAll, List.mem_cons, forall_eq_or_imp, ← ih]; omega
theorem gd_tup {L m n : Nat} {ds : List PyData} : GdL L (m + 1) (n + 13) (.tuple ds) ↔ (∀ d ∈ ds, gd L d = true) ∧ (∀ d ∈ ds, d.depth ≤ m) ∧ wts ds ≤ n := by
  rw [← gds_all, ← depthAll_le]
  constructor
  · rintro ⟨h1, h2, h3⟩
    simp only [gd, PyData.depth, wt] at h1 h2 h3
    exact ⟨h1, by omega, by omega⟩
  · rintro ⟨h1, h2, h3⟩
    exact ⟨by simpa only [gd] using h1, by simp only [PyData.depth]; omega, by simp only [wt]; omega⟩
abbrev Gd (m n : Nat) (d : PyData) : Prop := GdL 1000 m n d
theorem gd_mono {L L' : Nat} (hL : L ≤ L') : ∀ d : PyData, gd L d = true → gd L' d = true
  | .none, _ => by simp only [gd]
  | .bool _, _ => by simp only [gd]
  | .int i, h => by simp only [gd, decide_eq_true_eq] at h ⊢; omega
  | .str s, h => by simpa only [gd] using h
  | .list ds, h => by
    simp only [gd] at h ⊢
    exact gds_all.mpr fun d hd => gd_mono hL d (gds_all.mp h d hd)
  | .tuple ds, h => by
    simp only [gd] at h ⊢
    exact gds_all.mpr fun d hd => gd_mono hL d (gds_all.mp h d hd)
  | .dict _, h => by simp [gd] at h
theorem GdL.lup {L L' m n : Nat} {d : PyData} (h : GdL L m n d) (hL : L ≤ L') : GdL L' m n d := ⟨gd_mono hL d h.g, h.dep, h.wt⟩
end K

namespace K
open PySem PySem.Spec PyProof.Rows L2 G
variable {M : Md}
/-! ### kinds of data -/
def tyN : PyData → String
  | .none => "NoneType" | .bool _ => "bool" | .int _ => "int" | .str _ => "str" | .list _ => "list" | .tuple _ => "tuple" | .dict _ => "dict"
def isTup : PyData → Bool
  | .tuple _ => true | _ => false
def isStr : PyData → Bool
  | .str _ => true | _ => false
def isBool : PyData → Bool
  | .bool _ => true | _ => false
def isIntB : PyData → Bool
  | .int _ => true | .bool _ => true | _ => false
theorem dt_ty {K : PySem.W.Frag} {H : Hp} {v : V} {d : PyData} (h : Dt K H v d) : TyX K H v (.type (tyN d)) := by
  cases h with
  | non => exact .base .non
  | bl b => exact .base (.bl b)
  | int i => exact .base (.int i)
  | str s => exact .base (.str s)
  | tup h1 _ => exact ty_tup h1
  | lst h1 _ => exact .base (.frz h1)
theorem dt_nodict {K : PySem.W.Frag} {H : Hp} {v : V} {k : List (PyData × PyData)} (h : Dt K H v (.dict k)) : False := by cases h
section
variable {c : Cd} {H : Hp} {Q : VK} {v : V} {d : PyData}
theorem rc_isTup (h : Dt c.K H v d) (q : Q (.bl (isTup d)) H) : RC c (.builtin "isinstance") [v, .ty "tuple"] H Q := by
  have t := dt_ty h
  cases d with
  | dict => exact (dt_nodict h).elim
  | _ => exact rc_isi t rfl q
theorem rc_isStr (h : Dt c.K H v d) (q : Q (.bl (isStr d)) H) : RC c (.builtin "isinstance") [v, .ty "str"] H Q := by
  have t := dt_ty h
  cases d with
  | dict => exact (dt_nodict h).elim
  | _ => exact rc_isi t rfl q
theorem rc_isBool (h : Dt c.K H v d) (q : Q (.bl (isBool d)) H) : RC c (.builtin "isinstance") [v, .ty "bool"] H Q := by
  have t := dt_ty h
  cases d with
  | dict => exact (dt_nodict h).elim
  | _ => exact rc_isi t rfl q
theorem rc_isInt (h : Dt c.K H v d) (q : Q (.bl (isIntB d)) H) : RC c (.builtin "isinstance") [v, .ty "int"] H Q := by
  have t := dt_ty h
  cases d with
  | dict => exact (dt_nodict h).elim
  | _ => exact rc_isi t rfl q
end
structure Bl2 (M : Md) : Prop where
  all : M.mg "all" = none
  repr : M.mg "repr" = none
def letters : Str := "abcdefghijklmnopqrstuvwxyz"
/-- the module's values -/
structure Gl46 (M : Md) : Prop where
  lt : ∃ u, M.mg "LETTERS" = some u ∧ RelV (.str letters) u
  ln : ∃ u, M.mg "LONGEST_NAME" = some u ∧ RelV (.int 8) u
  un : ∃ a, M.mg "UNARY" = some (.ref a) ∧ ∀ H, SqT M.K H a (uns.map V.str)
  bi : ∃ a, M.mg "BINARY" = some (.ref a) ∧ ∀ H, SqT M.K H a (bins.map V.str)
  dv : ∃ a, M.mg "DIVIDING" = some (.ref a) ∧ ∀ H, SqT M.K H a (kks.map V.str)
def isInt : PyData → Bool
  | .int _ => true | _ => false
def isNum : PyData → Bool
  | .int i => decide (0 ≤ i) | _ => false
def isSlot : PyData → Bool
  | .int i => decide (0 ≤ i) && decide (i < 32) | _ => false
def nameS (s : Str) : Bool := decide (1 ≤ s.length) && (decide (s.length ≤ 8) && s.cps.toList.all fun ch => decide (ch ∈ letters.cps.toList))
def isName : PyData → Bool
  | .str s => nameS s | _ => false
def isPlace : PyData → Bool
  | .tuple [a, b] => isName a && isNum b
  | .tuple _ => false
  | d => isName d
def isOp : PyData → Bool
  | .str s => decide (s ∈ bins) | _ => false
abbrev GdX (x : PyData) : Prop := GdL 1100 50 500000 x
def rB (p : PyData → Bool) : List PyData → PyData → Prop := fun ds d => ∃ x, ds = [x] ∧ GdX x ∧ d = .bool (p x)
abbrev dcB (M : Md) (nm : Str) (a : Str) (k : Nat) (p : PyData → Bool) : Prop := Dc M nm [a] k (spF (rB p) M.K)
theorem rB_len {p : PyData → Bool} {K : PySem.W.Frag} : ∀ vs H Q E, spF (rB p) K vs H Q E → vs.length = 1 := by
  rintro vs H Q E ⟨ds, d, h, ⟨x, rfl, _⟩, _⟩
  exact h.len
theorem ok_isint {f fd} (F : Fun M.K "is_integer" "is_integer" s_is_integer f fd) (b : Bl M) : FnG M.prog M.w M.K M.mg M.base CX0 1 f fd ["thing"] (spF (rB isInt) M.K) := by
  refine fn_ok F sc_is_integer rB_len (fun H vs Q E h => ?_)
  obtain ⟨ds, d, h, ⟨x, rfl, gx, rfl⟩, k⟩ := h
  obtain _ | ⟨hx, h⟩ := h
  cases h
  tm_at "go"
  refine rc_isInt hx ?_
  refine ⟨_, rfl, ifb (fun e => ?_) (fun e => ?_)⟩
  · tm_at "go"
    refine rc_isBool hx ?_
    refine ⟨_, rfl, ?_⟩
    have e2 : (!isBool x) = isInt x := by cases x <;> first | rfl | cases e
    rw [e2]
    exact k _ _ (Same.refl _) (.bl _)
  · have e2 : false = isInt x := by cases x <;> first | rfl | cases e
    have := k (.bl (isInt x)) H (Same.refl _) (.bl _)
    rw [← e2] at this
    exact this
theorem isNum_int {x : PyData} : isNum x = true → ∃ i : Int, x = .int i ∧ 0 ≤ i := by
  intro h
  cases x <;> first | cases h | skip
  exact ⟨_, rfl, of_decide_eq_true h⟩
/-- the signs of a text, each looked at -/
theorem all_sz {z : Str} {p : Nat → Bool} {bs : List Bool} (h : bs = z.cps.toList.map p) : bs.all id = z.cps.toList.all p := by
  subst h
  rw [List.all_map]
  rfl
section
variable {c : Cd} {σ : L2.St} {H : Hp} {Q : VK} {pos : Pos} {elt tg iter : Expr} {ifs : List Expr} {scope : Scope} {vs : List Nat}
theorem sgn_step {g : Nat → Option PyData} {l : List Nat} {i : Nat} {ch : Nat} (h : l[i]? = some ch) : (l.take i).filterMap g ++ (g ch).toList = (l.take (i + 1)).filterMap g := by
  obtain ⟨h1, rfl⟩ := List.getElem?_eq_some_iff.mp h
  rw [List.take_succ_eq_append_getElem h1, List.filterMap_append]
  congr 1
/-- a comprehension over the signs of a text that changes nothing -/
theorem lcS_F (g : Nat → Option PyData) (q : RE c iter σ H fun x H1 => ∃ z : Str, x = .str z ∧ z.cps.size ≤ 1000 ∧ (∀ ch H', Same H1 H' → TurnF (blkCd c scope) tg ifs elt vs σ c.K (.str ⟨#[ch]⟩) H' (g ch)) ∧
      ∀ p us H3, Same H1 H3 → H1 p = none → H3 p = some (.lst us) → DtAll c.K H3 us (z.cps.toList.filterMap g) → Q (.ref p) H3) :
    tLc (RI c tg iter) (RG (blkCd c scope) tg) (RTs (blkCd c scope) ifs) (RE (blkCd c scope) elt) vs σ H Q := by
  refine ri_of (t := iStr (RE c iter)) (fun X h => pi_str (pe_re h)) (RE.mono (fun x H1 z => ?_) q)
  obtain ⟨z, rfl, hl, tn, k⟩ := z
  refine ⟨z, rfl, fun D hD => ?_⟩
  have hsz : z.cps.toList.length = z.cps.size := Array.length_toList
  refine ⟨fun i m H' => m = z.cps.size - i ∧ i ≤ z.cps.size ∧ ∃ acc, acc.length ≤ i ∧ H' D = some (.lst acc) ∧ Same H1 H' ∧ DtAll c.K H' acc ((z.cps.toList.take i).filterMap g), ⟨z.cps.size, by simp, Nat.zero_le _, [], Nat.le_refl _, upd_same, same_new hD, .nil⟩, ?_⟩
  rintro i m H' ⟨rfl, hi, acc, la, hA, s, hd⟩
  by_cases hlt : i < z.cps.size
  · refine .inr ⟨hlt, fun H' => ∃ acc, acc.length ≤ i + 1 ∧ H' D = some (.lst acc) ∧ Same H1 H' ∧ DtAll c.K H' acc ((z.cps.toList.take (i + 1)).filterMap g), fun H' p' => ⟨z.cps.size - (i + 1), by omega, rfl, hlt, p'⟩, fun x H2 yy => ?_⟩
    obtain ⟨e, ch, hc, rfl⟩ := yy
    subst e
    have hc' : z.cps.toList[i]? = some ch := by rw [Array.getElem?_toList]; exact hc
    have T := TurnF.one hD s hA hd (tn ch _ s)
    refine RG.mono (fun σ2 H2 z => ?_) T
    refine ⟨z.1, RTs.mono (fun b H3 z => ?_) z.2⟩
    cases b with
    | true => exact RE.mono (fun y H4 z => ⟨acc, z.1, Nat.lt_of_le_of_lt la (Nat.lt_of_lt_of_le hlt (Nat.le_trans hl (by decide))), acc ++ [y], by rw [List.length_append, List.length_singleton]; omega, z.2.1, z.2.2.1, by rw [← sgn_step hc']; exact z.2.2.2⟩) z
    | false => exact ⟨acc, by omega, z.1, z.2.1, by rw [← sgn_step hc']; exact z.2.2⟩
  · have e : i = z.cps.size := by omega
    subst e
    refine .inl ⟨Nat.le_refl _, k D acc H' s hD hA ?_⟩
    rw [List.take_of_length_le (by omega)] at hd
    exact hd
theorem rc_lenS {z : Str} (h : z.length ≤ 1000000) (q : Q (.int z.length) H) : RC c (.builtin "len") [.str z] H Q :=
  rc_of (fun X h => call_len_str) ⟨z, rfl, Nat.le_trans h (by decide), q⟩
theorem rc_all {p : Addr} {bs : List Bool} (h : SqL c.K H p (bs.map V.bl)) (q : Q (.bl (bs.all id)) H) : RC c (.builtin "all") [.ref p] H Q :=
  rc_of (r := rAll c.K) (fun X h => by rw [← h.K]; exact cr_all h.calm) ⟨p, bs, rfl, h, q⟩
end
theorem dtBools_eq {K : PySem.W.Frag} {H : Hp} : ∀ {bs : List Bool} {xs : List V}, DtAll K H xs (bs.map .bool) → xs = bs.map .bl
  | [], _, h => by cases h; rfl
  | b :: bs, _, h => by
    obtain _ | ⟨h1, h2⟩ := h
    cases h1
    rw [dtBools_eq h2]; rfl
theorem gdx_str {s : Str} (h : GdX (.str s)) : s.length ≤ 50000 := by
  have := h.wt
  simp only [wt] at this
  omega
theorem ok_isname {f fd} (F : Fun M.K "is_name" "is_name" s_is_name f fd) (b : Bl M) (b2 : Bl2 M) (g : Gl46 M) : FnG M.prog M.w M.K M.mg M.base CX0 1 f fd ["thing"] (spF (rB isName) M.K) := by
  refine fn_ok F sc_is_name rB_len (fun H vs Q E h => ?_)
  obtain ⟨ds, d, h, ⟨x, rfl, gx, rfl⟩, k⟩ := h
  obtain _ | ⟨hx, h⟩ := h
  cases h
  obtain ⟨uN, hN, rN⟩ := g.ln
  obtain ⟨uL, hL, rL⟩ := g.lt
  have no : isName x = false → Q (.bl false) H := fun e => by
    have := k (.bl (isName x)) H (Same.refl _) (.bl _)
    rwa [e] at this
  refine b_cut (fun σ1 H1 => H1 = H ∧ ∃ s, x = .str s ∧ 1 ≤ s.length ∧ s.length ≤ 8 ∧ σ1 = [some (.str s), none]) ?_ ?_
  · tm_at "go"
    refine t_val ?_
    tm_at "go"
    refine rc_isStr hx ?_
    refine ⟨_, rfl, ?_⟩
    cases hs : isStr x with
    | false =>
      tm_at "go"
      refine no ?_
      cases x <;> first | rfl | cases hs
    | true =>
      obtain ⟨s, rfl⟩ : ∃ s, x = .str s := by cases x <;> first | exact ⟨_, rfl⟩ | cases hs
      cases hx
      have ls := gdx_str gx
      tm_at "go"
      refine rc_lenS (by omega) ?_
      tm_at "go"
      refine ifd (fun c1 => ?_) (fun c1 => ?_)
      · refine e_glob hN rN ?_
        tm_at "go"
        refine ifnd (fun c2 => ?_) (fun c2 => ?_)
        · tm_at "go"
          refine no ?_
          show nameS s = false
          unfold nameS
          rw [decide_eq_false (p := s.length ≤ 8) (by omega), Bool.false_and, Bool.and_false]
        · tm_at "go"
          exact ⟨rfl, s, rfl, by omega, by omega, rfl⟩
      · refine ⟨false, rfl, ift ?_⟩
        tm_at "go"
        refine no ?_
        show nameS s = false
        unfold nameS
        rw [decide_eq_false (p := 1 ≤ s.length) (by omega), Bool.false_and]
  · rintro _ _ ⟨rfl, s, rfl, l1, l8, rfl⟩
    tm_at "go"
    refine e_callB (id := "all") b2.all (by decide +kernel) ?_
    tm_at "go"
    refine e_lc (own := [("letter", 1)]) (Blk.of (N := N_is_name) (sc := defScope s_is_name) rfl rfl (by decide +kernel)) ?_
    refine lcS_F (fun ch => some (.bool (decide (ch ∈ letters.cps.toList)))) ?_
    tm_at "go"
    refine ⟨by show s.length ≤ 1000; omega, fun ch H' s1 => ?_, fun p us H3 s3 n3 g3 h3 => ?_⟩
    · refine g_name (by tm_at "at") ⟨rfl, rfl, ts_nil ⟨Same.refl _, ift ?_⟩⟩
      tm_at "go"
      refine e_glob hL rL ?_
      refine rq_of (fun X h => op_in_sign) ⟨ch, letters, rfl, rfl, ?_⟩
      exact ⟨Same.refl _, _, rfl, .bl _⟩
    · tm_at "go"
      have e : s.cps.toList.filterMap (fun ch => some (PyData.bool (decide (ch ∈ letters.cps.toList)))) = (s.cps.toList.map fun ch => decide (ch ∈ letters.cps.toList)).map .bool := by
        induction s.cps.toList with
        | nil => rfl
        | cons a l ih => rw [List.filterMap_cons, List.map_cons, List.map_cons, ← ih]
      rw [e] at h3
      obtain rfl := dtBools_eq h3
      refine rc_all (.of g3) ?_
      have := k (.bl (isName (.str s))) H3 s3 (.bl _)
      have e2 : isName (.str s) = (s.cps.toList.map fun ch => decide (ch ∈ letters.cps.toList)).all id := by
        rw [all_sz rfl]
        show nameS s = _
        unfold nameS
        rw [decide_eq_true l1, decide_eq_true l8, Bool.true_and, Bool.true_and]
      rw [e2] at this
      exact this
end K

namespace K
open PySem PySem.Spec PyProof.Rows L2 G
variable {M : Md}
theorem ok_value (n : Nat) {f fd} (F : Fun M.K "value_in" "value_in" s_value_in f fd) (b : Bl M) (de : dcEv M n) : FnG M.prog M.w M.K M.mg M.base CX0 (2 * n + 5) f fd ["cells", "state", "expression"] (spF (rVal n) M.K) := by
  refine fn_ok F sc_value_in (fun vs H Q E h => ?_) (fun H vs Q E h => ?_)
  · obtain ⟨ds, d, h, ⟨rs, st, e, rfl, _⟩, _⟩ := h
    exact h.len
  obtain ⟨ds, d, h, ⟨rs, st, e, rfl, hi, rfl⟩, k⟩ := h
  obtain _ | ⟨hc, h⟩ := h
  obtain _ | ⟨hst, h⟩ := h
  obtain _ | ⟨he, h⟩ := h
  cases h
  refine b_cons (s_asg ?_)
  refine e_callF de ?_ (Nat.le_refl _)
  tm_at "go"
  refine ⟨_, _, .cons hc (.cons hst (.cons he .nil)), ⟨rs, st, e, rfl, hi, rfl⟩, fun v H1 s1 hv => ?_⟩
  refine g_unp2 (by tm_at "at") (by tm_at "at") hv fun v1 v2 h1 h2 => ?_
  tm_at "go"
  exact k _ _ s1 h1
end K

namespace K
open PySem PySem.Spec PyProof.Rows L2 G
variable {M : Md}
def preNext : List PyData → Prop := fun ds => ∃ m : Int, ds = [.int m] ∧ 0 < m ∧ m < 1000000
def rNext : List PyData → PyData → Prop := fun ds d => ∃ m r : Int, ds = [.int m] ∧ d = .int r ∧ 0 ≤ r ∧ r < m
theorem ok_next {f fd} (F : Fun M.K "_law_next" "_law_next" s__law_next f fd) (b : Bl M) : FnG M.prog M.w M.K M.mg M.base CX0 1 f fd ["_law_source_here", "_law_limit"] (spD 1 preNext rNext M.K) := by
  refine fn_ok F sc__law_next (spD_len (n := 1) (by rintro ds ⟨m, rfl, _⟩; rfl)) (fun H vs Q E h => ?_)
  obtain ⟨fp, cl, rest, ds, n, rfl, ⟨ns, left, at0, count, h1, h2, h3, h4, h5⟩, hn, hds, ⟨m, rfl, m0, m1⟩, k⟩ := h
  obtain _ | ⟨hm, hds⟩ := hds
  cases hds
  cases hm
  have ncl : cl ≠ fp := fun e => by rw [e, h1] at h2; cases h2
  tm_at "go"
  refine ⟨_, _, _, rfl, h1, fkv_3, ?_⟩
  tm_at "go"
  refine ⟨_, _, rfl, h1, by rw [fkv_len]; decide, ?_⟩
  rw [fput_3]
  have k1 : Kp fp H (upd H fp (.dK (fkv (.ref cl) left at0 (count + 1)))) := kp_fd h1
  have g1 : (upd H fp (.dK (fkv (.ref cl) left at0 (count + 1)))) fp = _ := upd_same
  generalize upd H fp (.dK (fkv (.ref cl) left at0 (count + 1))) = H1 at *
  have c0 : 0 ≤ count + 1 := by omega
  have c1 : count + 1 ≤ ((n + 1 : Nat) : Int) := by omega
  tm_at "go"
  refine ⟨_, _, _, rfl, g1, fkv_1, ?_⟩
  tm_at "run"
  refine ifd (fun q1 => ?_) (fun q1 => ?_)
  · tm_at "go"
    refine ⟨_, _, _, rfl, g1, fkv_1, ?_⟩
    tm_at "run"
    refine ro_mod m0 ?_
    tm_at "go"
    refine ⟨_, _, _, rfl, g1, fkv_1, ?_⟩
    tm_at "run"
    refine ro_div m0 (by omega) ?_
    tm_at "run"
    refine ⟨_, _, rfl, g1, by rw [fkv_len]; decide, ?_⟩
    rw [fput_1]
    have k2 := k1.trans (kp_fd (o' := .dK (fkv (.ref cl) (left / m) at0 (count + 1))) g1)
    have n2 := k2.k cl _ ncl h2
    tm_at "go"
    refine k (.int (left % m)) _ _ ⟨m, _, rfl, rfl, Int.emod_nonneg _ (by omega), Int.emod_lt_of_pos _ m0⟩ k2 ⟨ns, _, _, _, upd_same, n2, h3, c0, c1⟩ (.int _)
  tm_at "go"
  refine ⟨_, _, _, rfl, g1, fkv_2, ?_⟩
  tm_at "go"
  refine ⟨_, _, rfl, g1, by rw [fkv_len]; decide, ?_⟩
  rw [fput_2]
  have k2 : Kp fp H (upd H1 fp (.dK (fkv (.ref cl) left (at0 + 1) (count + 1)))) := k1.trans (kp_fd g1)
  have g2 : (upd H1 fp (.dK (fkv (.ref cl) left (at0 + 1) (count + 1)))) fp = _ := upd_same
  generalize upd H1 fp (.dK (fkv (.ref cl) left (at0 + 1) (count + 1))) = H2 at *
  have n2 := k2.k cl _ ncl h2
  refine b_cons ?_
  refine s_set (by tm_at "at") (e_int ?_)
  refine b_cut (fun σ1 H3 => Same H2 H3 ∧ ∃ cell : Int, σ1 = [some (.ref fp), some (.int m), some (.int count), none, some (.int at0), some (.int cell), none]) ?_ ?_
  · tm_at "run"
    refine ⟨_, _, _, rfl, g2, fkv_0, ?_⟩
    refine e_lst ?_
    tm_at "run"
    refine ⟨by decide, fun pe hpe => ?_⟩
    have s3 : Same H2 (upd H2 pe (.lst [])) := same_new hpe
    have g3 : (upd H2 pe (.lst [])) pe = some (.lst []) := upd_same
    generalize upd H2 pe (.lst []) = H3 at *
    refine ro_neD (.lst (SqL.of (s3 _ _ n2)) (dpInts ns)) (.lst (SqL.of g3) .nil) (shInts ns) (by decide) ?_
    refine ⟨_, rfl, ifb (fun e => ?_) (fun e => ?_)⟩
    · have hn : 0 < ns.length := by
        cases ns with
        | nil => exact absurd e (by decide)
        | cons => exact Nat.succ_pos _
      tm_at "go"
      refine ⟨_, _, _, rfl, s3 _ _ g2, fkv_0, ?_⟩
      tm_at "run"
      refine ⟨_, _, _, rfl, s3 _ _ g2, fkv_0, ?_⟩
      tm_at "run"
      refine rc_lenL (SqL.of (s3 _ _ n2)) ?_
      rw [List.length_map]
      refine ro_mod (by omega) ?_
      have lt : (at0 % (ns.length : Int)).toNat < ns.length := by
        have h1 := Int.emod_nonneg at0 (show (ns.length : Int) ≠ 0 by omega)
        have h2 := Int.emod_lt_of_pos at0 (show (0 : Int) < ns.length by omega)
        omega
      refine rx_list (SqL.of (s3 _ _ n2)) (v := .int ns[(at0 % (ns.length : Int)).toNat]) ?_ ?_
      · have h1 := Int.emod_nonneg at0 (show (ns.length : Int) ≠ 0 by omega)
        refine pl_at (j := (at0 % (ns.length : Int)).toNat) (by omega) ?_
        rw [List.getElem?_map, List.getElem?_eq_getElem lt]; rfl
      · exact ⟨s3, _, rfl⟩
    · tm_at "go"
      exact ⟨s3, _, rfl⟩
  rintro _ H3 ⟨s3, cell, rfl⟩
  have k3 : Kp fp H H3 := k2.trans (kp_same s3)
  have g3 := s3 _ _ g2
  have n3 := s3 _ _ n2
  refine b_cut (fun σ1 H4 => H4 = H3 ∧ σ1 = [some (.ref fp), some (.int m), some (.int count), none, some (.int at0), some (.int cell), none]) ?_ ?_
  · tm_at "run"
    refine ro_pow ⟨by decide, by decide, by decide⟩ ?_
    tm_at "run"
    refine ifd (fun c2 => ?_) (fun c2 => ?_)
    · tm_at "run"
      refine ⟨_, _, _, rfl, g3, fkv_0, ?_⟩
      tm_at "run"
      refine rc_lenL (SqL.of n3) ?_
      tm_at "run"
      refine ifd (fun c3 => ?_) (fun c3 => ?_)
      · tm_at "go"
        refine ro_div m0 (by omega) ?_
        tm_at "run"
        refine ⟨_, _, rfl, g3, by rw [fkv_len]; decide, ?_⟩
        rw [fput_1]
        tm_at "go"
        refine ro_mod m0 ?_
        have k4 := k3.trans (kp_fd (o' := .dK (fkv (.ref cl) (cell / m) (at0 + 1) (count + 1))) g3)
        refine k (.int (cell % m)) _ _ ⟨m, _, rfl, rfl, Int.emod_nonneg _ (by omega), Int.emod_lt_of_pos _ m0⟩ k4 ⟨ns, _, _, _, upd_same, k4.k cl _ ncl h2, h3, c0, c1⟩ (.int _)
      · tm_at "go"
        exact ⟨rfl, rfl⟩
    · tm_at "go"
      exact ⟨rfl, rfl⟩
  rintro _ _ ⟨rfl, rfl⟩
  tm_at "go"
  refine ro_mod (by decide) ?_
  tm_at "go"
  refine ro_mul (.inl ⟨by decide, by decide⟩) ?_
  tm_at "go"
  refine ro_mul (.inr ⟨by omega, by omega⟩) ?_
  tm_at "go"
  refine ro_mul (.inl ⟨by decide, by decide⟩) ?_
  tm_at "go"
  have b0 := Int.emod_nonneg cell (show (2147483587 : Int) ≠ 0 by decide)
  have b1 := Int.emod_lt_of_pos cell (show (0 : Int) < 2147483587 by decide)
  have b2 : 0 ≤ 14029 * count * count := Int.mul_nonneg (by omega) h4
  have b3 : 14029 * count * count ≤ 14029 * 1000000 * 1000000 := Int.mul_le_mul (by omega) (by omega) h4 (by decide)
  generalize cell % 2147483587 = c8 at *
  generalize 14029 * count * count = c9 at *
  refine ro_mul (.inl ⟨by omega, by omega⟩) ?_
  tm_at "go"
  refine ro_mul (.inl ⟨by decide, by decide⟩) ?_
  tm_at "go"
  refine ro_mod (by decide) ?_
  generalize hmy : ((c8 + c9 + 5503 * count + 1019) * (c8 + c9 + 5503 * count + 1019) + 100043 * count + 139) % 2147483549 = my
  have b4 : 0 ≤ my ∧ my < 2147483549 := by rw [← hmy]; exact ⟨Int.emod_nonneg _ (by decide), Int.emod_lt_of_pos _ (by decide)⟩
  tm_at "go"
  refine ro_mul (.inl ⟨by omega, by omega⟩) ?_
  tm_at "go"
  refine ro_mul (.inl ⟨by decide, by decide⟩) ?_
  tm_at "go"
  refine ro_mod (by decide) ?_
  tm_at "go"
  refine ro_div (by decide) (by decide) ?_
  tm_at "go"
  refine ro_mod m0 ?_
  exact k (.int _) _ _ ⟨m, _, rfl, rfl, Int.emod_nonneg _ (by omega), Int.emod_lt_of_pos _ m0⟩ k3 ⟨ns, _, _, _, g3, n3, h3, c0, c1⟩ (.int _)
end K

local macro_rules | `(tactic| tm_at "mk") => `(tactic| repeat (first | (refine gRE ?_; refine e_tupD ?_) | tm_at "s" | (refine gRB ?_; first | refine b_one ?_ | refine b_cons ?_) | (refine tupend (by tm_at "dts") (Nat.le_of_ble_eq_true rfl) fun v H s h => ?_)))
namespace K
open PySem PySem.Spec PyProof.Rows L2 G
variable {M : Md}
def rs4 : List (List Row) := [[("x", 0, 0, 2, true, false, 0), ("y", 0, 0, 1, false, true, 0)], [("x", 0, 0, 1, true, false, 0), ("y", 0, 0, 1, false, false, 1), ("z", 0, 0, 2, false, true, 0)],
  [("i", 0, 0, 1, true, false, 0), ("t", 2, 0, 1, false, true, 0), ("x", 0, 0, 1, true, true, 0)], [("x", 0, -1, 1, false, true, 0), ("y", 0, 0, 2, true, false, 0)]]
def rRows : List PyData → PyData → Prop := fun ds d => ∃ rs ∈ rs4, d = cellsD rs
/-- what a draw leaves -/
structure Kept (K : PySem.W.Frag) (fp cl : Addr) (n : Nat) (H H' : Hp) : Prop where
  k : Kp fp H H'
  f : Feed K H' fp cl n
theorem e_draw {c : Cd} {σ : L2.St} {H : Hp} {Q : VK} (D : Dc c.toMd "_law_next" ["_law_source_here", "_law_limit"] 1 (spD 1 preNext rNext c.K)) {e1 e2 : Expr} {p pos : Pos} (q : RE c e1 σ H fun x H1 => RE c e2 σ H1 fun y H2 => ∃ fp cl n m, x = .ref fp ∧ y = .int m ∧ Feed c.K H2 fp cl n ∧ n + 1 ≤ 1000000 ∧ (0 < m ∧ m < 1000000) ∧ ∀ r H', 0 ≤ r → r < m → Kp fp H2 H' → Feed c.K H' fp cl (n + 1) → Q (.int r) H')
    (hk : 1 ≤ c.k := by exact Nat.le_of_ble_eq_true rfl) (hg : c.sc.names.lookup ("_law_next" : Str) = some .globalImplicit := by rfl)
    (he : ∀ env, starEach [e1, e2] env = (false, eval e1 env) :: starEach [e2] env := by intro _; rfl) (hpl : ∀ env, (backTo pos (starEach [e2] env)).any (·.1) = false := by intro _; rfl) (h2 : ∀ env, starEach [e2] env = (false, eval e2 env) :: starEach [] env := by intro _; rfl) :
    RE c (.Call (.Name "_law_next" p) [e1, e2] [] pos) σ H Q := by
  refine e_callD D (a_cons (RE.mono (fun x H1 z => a_cons (RE.mono (fun y H2 z => a_nil ?_) z) h2) q) he) hk hg (by decide) he hpl
  obtain ⟨fp, cl, n, m, rfl, rfl, hf, hn, hm, k⟩ := z
  refine ⟨fp, cl, _, _, n, rfl, hf, hn, .cons (.int _) .nil, ⟨m, rfl, hm⟩, ?_⟩
  rintro d v H' ⟨m', r, e, rfl, r0, r1⟩ kk ff hv
  cases e
  cases hv
  exact k r H' r0 r1 kk ff
abbrev dcNext (M : Md) : Prop := Dc M "_law_next" ["_law_source_here", "_law_limit"] 1 (spD 1 preNext rNext M.K)
def pre0 : List PyData → Prop := fun ds => ds = []
set_option maxHeartbeats 1000000 in
theorem ok_rows {f fd} (F : Fun M.K "_law_rows" "_law_rows" s__law_rows f fd) (b : Bl M) (dn : dcNext M) : FnG M.prog M.w M.K M.mg M.base CX0 2 f fd ["_law_source_here"] (spD 1 pre0 rRows M.K) := by
  refine fn_ok F sc__law_rows (spD_len (n := 0) (by rintro ds rfl; rfl)) (fun H vs Q E h => ?_)
  obtain ⟨fp, cl, rest, ds, n, rfl, hf, hn, hds, rfl, k⟩ := h
  cases hds
  refine b_cut (fun σ1 H1 => ∃ l us, σ1 = [some (.ref fp), some (.ref l)] ∧ Same H H1 ∧ H l = none ∧ H1 l = some (.lst us) ∧ DtAll M.K H1 us ((rs4.take 1).map cellsD)) ?_ ?_
  · tm_at "go"
    refine e_lstD ?_
    refine a_cons (e_tupD ?_)
    tm_at "mk"
    refine ⟨(Nat.le_of_ble_eq_true rfl), fun l H' s n g => ?_⟩
    tm_at "go"
    exact ⟨l, _, rfl, by tm_at "same", same_none (by tm_at "same") n, g, .cons (by tm_at "dt") .nil⟩
  rintro _ H1 ⟨l, u1, rfl, s1, n1, g1, h1⟩
  refine b_cut (fun σ1 HH => ∃ us, σ1 = [some (.ref fp), some (.ref l)] ∧ Kp l H1 HH ∧ Same H HH ∧ HH l = some (.lst us) ∧ DtAll M.K HH us ((rs4.take 2).map cellsD)) ?_ ?_
  · refine s_expr ?_
    refine e_app ?_
    tm_at "go"
    refine ⟨l, _, rfl, g1, ?_⟩
    tm_at "mk"
    rename_i vx Hx _ _
    have sx : Same H1 Hx := by tm_at "same"
    have lu := h1.len
    refine ⟨u1, sx _ _ g1, by rw [lu]; decide, ?_⟩
    have kk := kp_upd (o' := .lst (u1 ++ [vx])) (sx _ _ g1) (fun _ e => nomatch e) (fun _ _ e => nomatch e)
    refine ⟨_, rfl, (kp_same sx).trans kk, same_mut (s1.trans sx) n1, upd_same, ?_⟩
    exact (h1.mono ((tp_same sx).trans kk.t)).app (.cons (Dt.mono kk.t (by assumption)) .nil)
  rintro _ H2 ⟨u2, rfl, k2, s2, g2, h2⟩
  refine b_cut (fun σ1 HH => ∃ us, σ1 = [some (.ref fp), some (.ref l)] ∧ Kp l H2 HH ∧ Same H HH ∧ HH l = some (.lst us) ∧ DtAll M.K HH us ((rs4.take 3).map cellsD)) ?_ ?_
  · refine s_expr ?_
    refine e_app ?_
    tm_at "go"
    refine ⟨l, _, rfl, g2, ?_⟩
    tm_at "mk"
    rename_i vx Hx _ _
    have sx : Same H2 Hx := by tm_at "same"
    have lu := h2.len
    refine ⟨u2, sx _ _ g2, by rw [lu]; decide, ?_⟩
    have kk := kp_upd (o' := .lst (u2 ++ [vx])) (sx _ _ g2) (fun _ e => nomatch e) (fun _ _ e => nomatch e)
    refine ⟨_, rfl, (kp_same sx).trans kk, same_mut (s2.trans sx) n1, upd_same, ?_⟩
    exact (h2.mono ((tp_same sx).trans kk.t)).app (.cons (Dt.mono kk.t (by assumption)) .nil)
  rintro _ H3 ⟨u3, rfl, k3, s3, g3, h3⟩
  refine b_cut (fun σ1 HH => ∃ us, σ1 = [some (.ref fp), some (.ref l)] ∧ Kp l H3 HH ∧ Same H HH ∧ HH l = some (.lst us) ∧ DtAll M.K HH us ((rs4.take 4).map cellsD)) ?_ ?_
  · refine s_expr ?_
    refine e_app ?_
    tm_at "go"
    refine ⟨l, _, rfl, g3, ?_⟩
    tm_at "mk"
    rename_i vx Hx _ _
    have sx : Same H3 Hx := by tm_at "same"
    have lu := h3.len
    refine ⟨u3, sx _ _ g3, by rw [lu]; decide, ?_⟩
    have kk := kp_upd (o' := .lst (u3 ++ [vx])) (sx _ _ g3) (fun _ e => nomatch e) (fun _ _ e => nomatch e)
    refine ⟨_, rfl, (kp_same sx).trans kk, same_mut (s3.trans sx) n1, upd_same, ?_⟩
    exact (h3.mono ((tp_same sx).trans kk.t)).app (.cons (Dt.mono kk.t (by assumption)) .nil)
  rintro _ H4 ⟨u4, rfl, k4, s4, g4, h4⟩
  tm_at "go"
  have nf : l ≠ fp := ne_feed hf (Same.refl _) n1
  refine e_draw dn ?_
  tm_at "go"
  refine ⟨fp, cl, n, 4, rfl, rfl, hf.same s4, hn, ⟨by decide, by decide⟩, fun r H5 r0 r1 k5 f5 => ?_⟩
  refine rx_pick (ds := rs4.map cellsD) (.of (k5.k _ _ nf g4)) (h4.mono k5.t) r0 (by show r < 4; exact r1) fun v d hd hv => ?_
  rw [List.getElem?_map] at hd
  obtain ⟨rs, hrs, rfl⟩ := Option.map_eq_some_iff.mp hd
  exact k _ _ _ ⟨rs, List.mem_of_getElem? hrs, rfl⟩ ((kp_same s4).trans k5) f5 hv
end K

namespace K
open PySem PySem.Spec PyProof.Rows L2 G
variable {M : Md}
/-- rows whose names are names -/
structure RowsN (rs : List Row) : Prop where
  ri : RowsIn rs
  nm : ∀ r ∈ rs, nameS r.1 = true
theorem RowsN.name {rs : List Row} (h : RowsN rs) {s : Str} {p : Row → Prop} (e : ∃ r ∈ rs, r.1 = s ∧ p r) : nameS s = true ∧ PyData.strOk s = true ∧ s.length ≤ 8 := by
  obtain ⟨r, hr, rfl, _⟩ := e
  have h1 := h.nm r hr
  refine ⟨h1, h.ri.nm r hr, ?_⟩
  unfold nameS at h1
  simp only [Bool.and_eq_true, decide_eq_true_eq] at h1
  exact h1.2.1
def wE : Nat → Nat
  | 0 => 100
  | n + 1 => 3 * (wE n + 4) + 300
theorem wE_mono {m n : Nat} (h : m ≤ n) : wE m ≤ wE n := by
  induction h with
  | refl => exact Nat.le_refl _
  | step _ ih => exact Nat.le_trans ih (by simp only [wE]; omega)
theorem wE_ge (n : Nat) : 100 ≤ wE n := wE_mono (Nat.zero_le n)
theorem log_small {i : Int} (h : -1000000 ≤ i ∧ i ≤ 1000000) : i.natAbs.log2 < 20 := PySem.Flt.log2_lt_of (by decide) (Nat.lt_of_le_of_lt (show i.natAbs ≤ 1000000 by omega) (by decide))
theorem op_small : ∀ op ∈ uns ++ (bins ++ kks), PyData.strOk op = true ∧ op.length ≤ 8 := by decide +kernel
theorem gdE {rs : List Row} (rn : RowsN rs) : ∀ e : Ex, Fit rs e → gd 1000 e.d = true ∧ e.d.depth ≤ e.dep ∧ wt e.d ≤ wE e.dep
  | .int i, h => by
    have := log_small h
    simp only [Ex.d, Ex.dep, gd, PyData.depth, wt, wE, decide_eq_true_eq]
    omega
  | .nm s, h => by
    obtain ⟨_, h1, h2⟩ := rn.name h
    simp only [Ex.d, Ex.dep, gd, PyData.depth, wt, wE]
    exact ⟨h1, Nat.le_refl _, by omega⟩
  | .at t e, h => by
    obtain ⟨_, h1, h2⟩ := rn.name h.1
    obtain ⟨a1, a2, a3⟩ := gdE rn e h.2
    have g := wE_ge e.dep
    simp only [Ex.d, Ex.dep, gd, gds, PyData.depth, PyData.depthAll, wt, wts, wE, h1, a1, Bool.and_true]
    refine ⟨by decide +kernel, by omega, ?_⟩
    have : ("at" : Str).length = 2 := by decide +kernel
    omega
  | .un op e, h => by
    obtain ⟨h1, h2⟩ := op_small op (List.mem_append_left _ h.1)
    obtain ⟨a1, a2, a3⟩ := gdE rn e h.2
    simp only [Ex.d, Ex.dep, gd, gds, PyData.depth, PyData.depthAll, wt, wts, wE, h1, a1, Bool.and_true]
    exact ⟨trivial, by omega, by omega⟩
  | .bin op a b, h => by
    obtain ⟨h1, h2⟩ := op_small op (List.mem_append_right _ (List.mem_append_left _ h.1))
    obtain ⟨a1, a2, a3⟩ := gdE rn a h.2.1
    obtain ⟨b1, b2, b3⟩ := gdE rn b h.2.2
    have m1 := wE_mono (Nat.le_max_left a.dep b.dep)
    have m2 := wE_mono (Nat.le_max_right a.dep b.dep)
    simp only [Ex.d, Ex.dep, gd, gds, PyData.depth, PyData.depthAll, wt, wts, wE, h1, a1, b1, Bool.and_true]
    exact ⟨trivial, by omega, by omega⟩
  | .kk op e n, h => by
    obtain ⟨h1, h2⟩ := op_small op (List.mem_append_right _ (List.mem_append_right _ h.1))
    obtain ⟨a1, a2, a3⟩ := gdE rn e h.2.1
    have ln := log_small (i := n) (by have := h.2.2; omega)
    simp only [Ex.d, Ex.dep, gd, gds, PyData.depth, PyData.depthAll, wt, wts, wE, h1, a1, Bool.and_true, Bool.true_and, decide_eq_true_eq]
    exact ⟨by omega, by omega, by omega⟩
  | .ite a b e, h => by
    obtain ⟨a1, a2, a3⟩ := gdE rn a h.1
    obtain ⟨b1, b2, b3⟩ := gdE rn b h.2.1
    obtain ⟨c1, c2, c3⟩ := gdE rn e h.2.2
    have m1 := wE_mono (Nat.le_max_left a.dep (max b.dep e.dep))
    have m2 := wE_mono (Nat.le_trans (Nat.le_max_left b.dep e.dep) (Nat.le_max_right a.dep (max b.dep e.dep)))
    have m3 := wE_mono (Nat.le_trans (Nat.le_max_right b.dep e.dep) (Nat.le_max_right a.dep (max b.dep e.dep)))
    have l2 : ("if" : Str).length = 2 := by decide +kernel
    have g := wE_ge (max a.dep (max b.dep e.dep))
    simp only [Ex.d, Ex.dep, gd, gds, PyData.depth, PyData.depthAll, wt, wts, wE, a1, b1, c1, Bool.and_true]
    exact ⟨by decide +kernel, by omega, by omega⟩
theorem gdxE {rs : List Row} (rn : RowsN rs) {e : Ex} (h : Fit rs e) (hd : e.dep ≤ 5) : GdX e.d := by
  obtain ⟨a1, a2, a3⟩ := gdE rn e h
  have := wE_mono hd
  have h5 : wE 5 ≤ 500000 := by decide
  exact (⟨a1, by omega, by omega⟩ : GdL 1000 50 500000 e.d).lup (by decide)
/-- part_count of a text -/
def pCount (op : Str) : PyData := if op ∈ uns then .int 1 else if op ∈ bins then .int 2 else if op = "if" then .int 3 else .none
def rCount : List PyData → PyData → Prop := fun ds d => ∃ op : Str, ds = [.str op] ∧ d = pCount op
theorem ok_count {f fd} (F : Fun M.K "part_count" "part_count" s_part_count f fd) (b : Bl M) (g : Gl46 M) : FnG M.prog M.w M.K M.mg M.base CX0 1 f fd ["op"] (spF rCount M.K) := by
  refine fn_ok F sc_part_count (fun vs H Q E h => ?_) (fun H vs Q E h => ?_)
  · obtain ⟨ds, d, h, ⟨op, rfl, _⟩, _⟩ := h
    exact h.len
  obtain ⟨ds, d, h, ⟨op, rfl, rfl⟩, k⟩ := h
  obtain _ | ⟨hx, h⟩ := h
  cases h
  cases hx
  obtain ⟨aU, hU, sU⟩ := g.un
  obtain ⟨aB, hB, sB⟩ := g.bi
  tm_at "go"
  refine e_glob hU (v := .ref aU) rfl ?_
  refine ro_inST (.tup (sU _) (dtStrs uns)) ?_
  refine ⟨_, rfl, ifd (fun c1 => ?_) (fun c1 => ?_)⟩
  · tm_at "go"
    refine k _ _ (Same.refl _) ?_
    rw [pCount, if_pos c1]
    exact .int _
  tm_at "go"
  refine e_glob hB (v := .ref aB) rfl ?_
  refine ro_inST (.tup (sB _) (dtStrs bins)) ?_
  refine ⟨_, rfl, ifd (fun c2 => ?_) (fun c2 => ?_)⟩
  · tm_at "go"
    refine k _ _ (Same.refl _) ?_
    rw [pCount, if_neg c1, if_pos c2]
    exact .int _
  tm_at "go"
  refine ifd (fun c3 => ?_) (fun c3 => ?_)
  · tm_at "go"
    refine k _ _ (Same.refl _) ?_
    rw [pCount, if_neg c1, if_neg c2, if_pos c3]
    exact .int _
  · tm_at "go"
    refine k _ _ (Same.refl _) ?_
    rw [pCount, if_neg c1, if_neg c2, if_neg c3]
    exact .non
end K

namespace K
open PySem PySem.Spec PyProof.Rows L2 G
variable {M : Md}
def prts : Ex → List Ex
  | .int _ => []
  | .nm _ => []
  | .at _ e => [e]
  | .un _ e => [e]
  | .bin _ a b => [a, b]
  | .kk _ e _ => [e]
  | .ite a b e => [a, b, e]
structure GoodE (rs : List Row) (e : Ex) (n : Nat) : Prop where
  rn : RowsN rs
  fit : Fit rs e
  dep : e.dep ≤ n
  n5 : n ≤ 5
theorem GoodE.gx {rs : List Row} {e : Ex} {n : Nat} (h : GoodE rs e n) : GdX e.d := gdxE h.rn h.fit (Nat.le_trans h.dep h.n5)
theorem GoodE.part {rs : List Row} {e : Ex} {n : Nat} (h : GoodE rs e (n + 1)) : ∀ p ∈ prts e, GoodE rs p n := by
  have hn := h.n5
  have hd := h.dep
  have hf := h.fit
  have mk : ∀ {p : Ex}, Fit rs p → p.dep ≤ n → GoodE rs p n := fun a b => ⟨h.rn, a, b, by omega⟩
  intro p hp
  cases e with
  | int => cases hp
  | nm => cases hp
  | «at» t e =>
    rw [List.mem_singleton.mp hp]
    exact mk hf.2 (by simp only [Ex.dep] at hd; omega)
  | un op e =>
    rw [List.mem_singleton.mp hp]
    exact mk hf.2 (by simp only [Ex.dep] at hd; omega)
  | bin op a b =>
    simp only [prts, List.mem_cons, List.not_mem_nil, or_false] at hp
    simp only [Ex.dep] at hd
    rcases hp with rfl | rfl
    · exact mk hf.2.1 (by omega)
    · exact mk hf.2.2 (by omega)
  | kk op e m =>
    rw [List.mem_singleton.mp hp]
    exact mk hf.2.1 (by simp only [Ex.dep] at hd; omega)
  | ite a b e =>
    simp only [prts, List.mem_cons, List.not_mem_nil, or_false] at hp
    simp only [Ex.dep] at hd
    rcases hp with rfl | rfl | rfl
    · exact mk hf.1 (by omega)
    · exact mk hf.2.1 (by omega)
    · exact mk hf.2.2 (by omega)
def rParts : List PyData → PyData → Prop := fun ds d => ∃ rs e, ds = [e.d] ∧ GoodE rs e 5 ∧ d = .tuple ((prts e).map Ex.d)
theorem opf : (∀ op ∈ uns, op ≠ "at" ∧ op ∉ kks ∧ pCount op = .int 1) ∧ (∀ op ∈ bins, op ≠ "at" ∧ op ∉ kks ∧ pCount op = .int 2) ∧ (∀ op ∈ kks, op ≠ "at") := by
  refine ⟨?_, ?_, by decide +kernel⟩
  · intro op h
    have h2 : ∀ op ∈ uns, op ≠ "at" ∧ op ∉ kks := by decide +kernel
    exact ⟨(h2 op h).1, (h2 op h).2, by rw [pCount, if_pos h]⟩
  · intro op h
    have h2 : ∀ op ∈ bins, op ≠ "at" ∧ op ∉ kks ∧ op ∉ uns := by decide +kernel
    exact ⟨(h2 op h).1, (h2 op h).2.1, by rw [pCount, if_neg (h2 op h).2.2, if_pos h]⟩
set_option maxHeartbeats 2000000 in
theorem ok_parts {f fd} (F : Fun M.K "parts_of" "parts_of" s_parts_of f fd) (b : Bl M) (g : Gl46 M) (di : dcB M "is_integer" "thing" 1 isInt) (dn : dcB M "is_name" "thing" 1 isName) (dc : Dc M "part_count" ["op"] 1 (spF rCount M.K)) :
    FnG M.prog M.w M.K M.mg M.base CX0 2 f fd ["thing"] (spF rParts M.K) := by
  refine fn_ok F sc_parts_of (fun vs H Q E h => ?_) (fun H vs Q E h => ?_)
  · obtain ⟨ds, d, h, ⟨rs, e, rfl, _⟩, _⟩ := h
    exact h.len
  obtain ⟨ds, d, h, ⟨rs, e, rfl, G0, rfl⟩, k⟩ := h
  obtain _ | ⟨hx, h⟩ := h
  cases h
  rename_i vx
  have gx := G0.gx
  obtain ⟨aD, hD, sD⟩ := g.dv
  -- what the two words say
  refine b_cut (fun σ1 H1 => Same H H1 ∧ isInt e.d = false ∧ isName e.d = false ∧ σ1 = [some vx, none]) ?_ ?_
  · tm_at "go"
    refine t_val ?_
    refine e_callF di ?_
    tm_at "go"
    refine ⟨_, _, .cons hx .nil, ⟨_, rfl, gx, rfl⟩, fun v1 H1 s1 h1 => ?_⟩
    cases h1
    refine ⟨_, rfl, ?_⟩
    cases hi : isInt e.d with
    | true =>
      refine ift ?_
      tm_at "go"
      refine e_tupD (a_nil ?_)
      refine tupend (ds := []) .nil (Nat.le_of_ble_eq_true rfl) fun v2 H2 s2 h2 => ?_
      refine k _ _ (s1.trans s2) ?_
      have : prts e = [] := by cases e <;> first | rfl | (simp only [Ex.d, isInt] at hi; cases hi)
      rw [this]
      exact h2
    | false =>
      refine iff0 ?_
      tm_at "go"
      refine t_val ?_
      refine e_callF dn ?_
      tm_at "go"
      refine ⟨_, _, .cons (hx.mono (tp_same s1)) .nil, ⟨_, rfl, gx, rfl⟩, fun v3 H3 s3 h3 => ?_⟩
      cases h3
      refine ⟨_, rfl, ?_⟩
      cases hn : isName e.d with
      | true =>
        refine ift ?_
        tm_at "go"
        refine e_tupD (a_nil ?_)
        refine tupend (ds := []) .nil (Nat.le_of_ble_eq_true rfl) fun v2 H2 s2 h2 => ?_
        refine k _ _ (s1.trans (s3.trans s2)) ?_
        have : prts e = [] := by cases e <;> first | rfl | (simp only [Ex.d, isName] at hn; cases hn)
        rw [this]
        exact h2
      | false =>
        refine iff0 ?_
        tm_at "go"
        exact ⟨s1.trans s3, rfl, rfl, rfl⟩
  rintro _ H1 ⟨s1, hi, hn, rfl⟩
  have hx1 := hx.mono (tp_same s1)
  obtain ⟨op, rest, he, lr1, lr3⟩ : ∃ (op : Str) (rest : List PyData), e.d = .tuple (.str op :: rest) ∧ 1 ≤ rest.length ∧ rest.length ≤ 3 := by
    cases e with
    | int i => simp only [Ex.d, isInt] at hi; cases hi
    | nm s =>
      have := (G0.rn.name G0.fit).1
      simp only [Ex.d, isName] at hn
      rw [this] at hn
      cases hn
    | _ => exact ⟨_, _, rfl, by simp, by simp⟩
  have hxt := hx1
  rw [he] at hxt
  refine b_cut (fun σ1 H2 => H1 = H2 ∧ σ1 = [some vx, none]) ?_ ?_
  · tm_at "go"
    refine t_val ?_
    tm_at "go"
    refine rc_isTup hxt ?_
    refine ⟨_, rfl, ?_⟩
    tm_at "go"
    refine rc_lenT hxt ?_
    tm_at "go"
    refine ifd (fun c1 => ?_) (fun c1 => ?_)
    · rw [List.length_cons] at c1; omega
    · tm_at "go"
      exact ⟨rfl, rfl⟩
  rintro _ _ ⟨rfl, rfl⟩
  refine b_cut (fun σ1 H2 => H1 = H2 ∧ σ1 = [some vx, some (.str op)]) ?_ ?_
  · tm_at "go"
    refine rx_tup hxt (d := .str op) (pl_at (j := 0) rfl rfl) fun v2 h2 => ?_
    cases h2
    exact ⟨rfl, rfl⟩
  rintro _ _ ⟨rfl, rfl⟩
  have cutD2 : ∀ (a c : PyData) (l : List PyData), G.cutD (a :: c :: l) (some 2) none = l := fun a c l => by
    show ((a :: c :: l).drop (HT.sIx (l.length + 2) 0 (some ((2 : Nat) : Int)))).take ((l.length + 2) - HT.sIx (l.length + 2) 0 (some ((2 : Nat) : Int))) = l
    rw [HT.sIx_nat, Nat.min_eq_left (by omega)]
    exact List.take_of_length_le (by simp)
  have cutD1 : ∀ (a : PyData) (l : List PyData), G.cutD (a :: l) (some 1) none = l := fun a l => by
    show ((a :: l).drop (HT.sIx (l.length + 1) 0 (some ((1 : Nat) : Int)))).take ((l.length + 1) - HT.sIx (l.length + 1) 0 (some ((1 : Nat) : Int))) = l
    rw [HT.sIx_nat, Nat.min_eq_left (by omega)]
    exact List.take_of_length_le (by simp)
  have cut12 : ∀ (a c : PyData) (l : List PyData), G.cutD (a :: c :: l) (some 1) (some 2) = [c] := fun a c l => by
    show ((a :: c :: l).drop (HT.sIx (l.length + 2) 0 (some ((1 : Nat) : Int)))).take (HT.sIx (l.length + 2) (l.length + 2) (some ((2 : Nat) : Int)) - HT.sIx (l.length + 2) 0 (some ((1 : Nat) : Int))) = [c]
    rw [HT.sIx_nat, HT.sIx_nat, Nat.min_eq_left (by omega), Nat.min_eq_left (by omega)]
    rfl
  -- the kinds
  have plain : ∀ {n : Int} {r : List PyData}, op ≠ "at" → op ∉ kks → pCount op = .int n → (n : Int) = r.length → e.d = .tuple (.str op :: r) → (prts e).map Ex.d = r → RB ⟨M, N_parts_of, defScope s_parts_of, 1, true, false, none⟩ ((defBody s_parts_of).drop 3) ⟨fun _ H' => Q .non H', Q, fun _ _ => False, fun _ _ => False⟩ [some vx, some (.str op)] H1 := by
    intro n r c1 c2 c3 c4 c5 c6
    have hxr := hx1
    rw [c5] at hxr
    tm_at "go"
    refine ifd (fun z => absurd z c1) (fun _ => ?_)
    tm_at "go"
    refine e_glob hD (v := .ref aD) rfl ?_
    refine ro_inST (.tup (sD _) (dtStrs kks)) ?_
    refine ⟨_, rfl, ifd (fun z => absurd z c2) (fun _ => ?_)⟩
    tm_at "go"
    refine e_callF dc ?_
    tm_at "go"
    refine ⟨_, _, .cons (.str _) .nil, ⟨op, rfl, rfl⟩, fun v3 H3 s3 h3 => ?_⟩
    rw [c3] at h3
    cases h3
    tm_at "go"
    refine rc_lenT (hxr.mono (tp_same s3)) ?_
    tm_at "go"
    rw [List.length_cons]
    refine ifd (fun _ => ?_) (fun z => absurd (by omega) z)
    tm_at "go"
    refine rsl_tup (hxr.mono (tp_same s3)) fun v4 H4 s4 h4 => ?_
    rw [cutD1] at h4
    refine k _ _ (s1.trans (s3.trans s4)) ?_
    rw [c6]
    exact h4
  have hop : ∀ {o : Str} {r : List PyData}, e.d = .tuple (.str o :: r) → op = o ∧ rest = r := fun h => by
    rw [he] at h
    injection h with h
    injection h with h1 h2
    injection h1 with h1
    exact ⟨h1, h2⟩
  obtain ⟨oU, oB, oK⟩ := opf
  have hf := G0.fit
  cases e with
  | int i => simp only [Ex.d, isInt] at hi; cases hi
  | nm s =>
    have := (G0.rn.name hf).1
    simp only [Ex.d, isName] at hn
    rw [this] at hn
    cases hn
  | un o e =>
    obtain ⟨rfl, rfl⟩ := hop rfl
    obtain ⟨c1, c2, c3⟩ := oU _ hf.1
    exact plain c1 c2 c3 rfl rfl rfl
  | bin o a b =>
    obtain ⟨rfl, rfl⟩ := hop rfl
    obtain ⟨c1, c2, c3⟩ := oB _ hf.1
    exact plain c1 c2 c3 rfl rfl rfl
  | ite a b e =>
    obtain ⟨rfl, rfl⟩ := hop rfl
    exact plain (by decide +kernel) (by decide +kernel) (n := 3) (by rw [pCount, if_neg (by decide +kernel), if_neg (by decide +kernel), if_pos rfl]) rfl rfl rfl
  | «at» t e =>
    obtain ⟨rfl, rfl⟩ := hop rfl
    obtain ⟨nt, st, lt⟩ := G0.rn.name hf.1
    have gt : GdX (.str t) := ⟨by simpa only [gd] using st, by simp only [PyData.depth]; exact Nat.zero_le _, by simp only [wt]; omega⟩
    tm_at "go"
    refine rc_lenT hxt ?_
    tm_at "go"
    refine t_val ?_
    refine e_callF dn ?_
    tm_at "go"
    refine ⟨_, _, .cons (.str _) .nil, ⟨_, rfl, gt, rfl⟩, fun v3 H3 s3 h3 => ?_⟩
    rw [show isName (.str t) = true from nt] at h3
    cases h3
    refine ⟨_, rfl, ift ?_⟩
    tm_at "go"
    refine rsl_tup (hxt.mono (tp_same s3)) fun v4 H4 s4 h4 => ?_
    rw [cutD2] at h4
    exact k _ _ (s1.trans (s3.trans s4)) h4
  | kk o e n =>
    obtain ⟨rfl, rfl⟩ := hop rfl
    have gn : GdX (.int n) := ⟨by have := log_small (i := n) (by have := hf.2.2; omega); simp only [gd, decide_eq_true_eq]; omega, by simp only [PyData.depth]; exact Nat.zero_le _, by have := log_small (i := n) (by have := hf.2.2; omega); simp only [wt]; omega⟩
    tm_at "go"
    refine ifd (fun z => absurd z (oK _ hf.1)) (fun _ => ?_)
    tm_at "go"
    refine e_glob hD (v := .ref aD) rfl ?_
    refine ro_inST (.tup (sD _) (dtStrs kks)) ?_
    refine ⟨_, rfl, ifd (fun _ => ?_) (fun z => absurd hf.1 z)⟩
    tm_at "go"
    refine rc_lenT hxt ?_
    tm_at "go"
    refine t_val ?_
    refine e_callF di ?_
    tm_at "go"
    refine ⟨_, _, .cons (.int _) .nil, ⟨_, rfl, gn, rfl⟩, fun v3 H3 s3 h3 => ?_⟩
    cases h3
    have hx3 := hxt.mono (tp_same s3)
    refine ⟨_, rfl, ift ?_⟩
    tm_at "go"
    refine ifd (fun _ => ?_) (fun z => absurd hf.2.2.1 z)
    tm_at "go"
    refine rsl_tup (hxt.mono (tp_same s3)) fun v4 H4 s4 h4 => ?_
    rw [cut12] at h4
    exact k _ _ (s1.trans (s3.trans s4)) h4
end K

namespace K
open PySem PySem.Spec PyProof.Rows L2 G
variable {M : Md}
theorem GoodE.up {rs : List Row} {e : Ex} {n m : Nat} (h : GoodE rs e n) (h1 : n ≤ m) (h2 : m ≤ 5) : GoodE rs e m := ⟨h.rn, h.fit, Nat.le_trans h.dep h1, h2⟩
def rExpr (n : Nat) : List PyData → PyData → Prop := fun ds d => ∃ rs e, ds = [e.d] ∧ GoodE rs e n ∧ d = .bool true
abbrev dcExpr (M : Md) (n : Nat) : Prop := Dc M "is_expression" ["thing"] (n + 3) (spF (rExpr n) M.K)
theorem ok_isexpr (n : Nat) {f fd} (F : Fun M.K "is_expression" "is_expression" s_is_expression f fd) (b : Bl M) (dp : Dc M "parts_of" ["thing"] 2 (spF rParts M.K)) (ih : ∀ m, n = m + 1 → dcExpr M m) :
    FnG M.prog M.w M.K M.mg M.base CX0 (n + 3) f fd ["thing"] (spF (rExpr n) M.K) := by
  refine fn_ok F sc_is_expression (fun vs H Q E h => ?_) (fun H vs Q E h => ?_)
  · obtain ⟨ds, d, h, ⟨rs, e, rfl, _⟩, _⟩ := h
    exact h.len
  obtain ⟨ds, d, h, ⟨rs, e, rfl, G0, rfl⟩, k⟩ := h
  obtain _ | ⟨hx, h⟩ := h
  cases h
  rename_i vx
  have g5 := G0.up G0.n5 (Nat.le_refl _)
  refine b_cut (fun σ1 H1 => Same H H1 ∧ ∃ a xs, σ1 = [some vx, some (.ref a), none] ∧ SqT M.K H1 a xs ∧ DtAll M.K H1 xs ((prts e).map Ex.d)) ?_ ?_
  · tm_at "go"
    refine e_callF dp ?_ (by show 2 ≤ n + 2; omega)
    tm_at "go"
    refine ⟨_, _, .cons hx .nil, ⟨rs, e, rfl, g5, rfl⟩, fun v1 H1 s1 h1 => ?_⟩
    obtain ⟨a, xs, rfl, ht, hd⟩ := h1.tupE
    exact ⟨s1, a, xs, rfl, ht, hd⟩
  rintro _ H1 ⟨s1, a, xs, rfl, ht, hd⟩
  refine b_cut (fun σ1 H2 => H1 = H2 ∧ σ1 = [some vx, some (.ref a), none]) ?_ ?_
  · tm_at "go"
    exact ⟨rfl, rfl⟩
  rintro _ _ ⟨rfl, rfl⟩
  refine b_cut (fun σ1 H2 => Same H1 H2 ∧ ∃ v2, σ1 = [some vx, some (.ref a), v2]) ?_ ?_
  · refine s_forT ?_
    refine e_var (by tm_at "at") ?_
    refine ⟨a, xs, rfl, ht, fun i σ1 H2 => Same H1 H2 ∧ ∃ v2, σ1 = [some vx, some (.ref a), v2], ⟨Same.refl _, _, rfl⟩, ?_, ?_, ?_⟩
    · rintro i σ' H' _ ⟨s, _⟩
      exact (tp_same s).sqt ht
    · rintro i x σ' H3 hxi ⟨s3, v2, rfl⟩
      obtain ⟨d, hdi, hx'⟩ := hd.getV hxi
      rw [List.getElem?_map] at hdi
      obtain ⟨p, hp, rfl⟩ := Option.map_eq_some_iff.mp hdi
      have pm := List.mem_of_getElem? hp
      obtain ⟨m, rfl⟩ : ∃ m, n = m + 1 := by
        have := G0.dep
        cases n with
        | zero =>
          cases e <;> first | (cases pm; done) | (simp only [Ex.dep] at this; omega)
        | succ m => exact ⟨m, rfl⟩
      refine g_name (by tm_at "at") ?_
      tm_at "go"
      refine t_val ?_
      refine e_callF (ih m rfl) ?_ (by show m + 3 ≤ m + 1 + 2; omega)
      tm_at "go"
      refine ⟨_, _, .cons (hx'.mono (tp_same s3)) .nil, ⟨rs, p, rfl, G0.part p pm, rfl⟩, fun v4 H4 s4 h4 => ?_⟩
      cases h4
      refine ⟨_, rfl, ?_⟩
      refine iff0 ?_
      tm_at "go"
      exact ⟨s3.trans s4, _, rfl⟩
    · rintro σ' H3 ⟨s3, v2, rfl⟩
      exact ⟨s3, v2, rfl⟩
  rintro _ H2 ⟨s2, v2, rfl⟩
  tm_at "go"
  exact k _ _ (s1.trans s2) (.bl _)
end K

namespace K
open PySem PySem.Spec PyProof.Rows L2 G
variable {M : Md}
def nmD (s : Str) (t : Bool) : PyData := .tuple [.str s, .bool t]
def nms : Ex → List PyData
  | .int _ => []
  | .nm s => [nmD s false]
  | .at t e => nmD t true :: nms e
  | .un _ e => nms e
  | .bin _ a b => nms a ++ nms b
  | .kk _ e _ => nms e
  | .ite a b e => nms a ++ (nms b ++ nms e)
def ownN : Ex → List PyData
  | .at t _ => [nmD t true]
  | _ => []
theorem nms_eq {e : Ex} (h : isStr e.d = false) : nms e = ownN e ++ (prts e).flatMap nms := by
  cases e <;> first | (simp only [Ex.d, isStr] at h; cases h; done) | simp [nms, ownN, prts]
theorem nms_len : ∀ e : Ex, (nms e).length ≤ 3 * 4 ^ e.dep
  | .int _ => by simp [nms]
  | .nm _ => by simp [nms, Ex.dep]
  | .at t e => by
    have := nms_len e
    have h := Nat.one_le_two_pow (n := 0)
    have p : 1 ≤ 4 ^ e.dep := Nat.one_le_pow _ _ (by decide)
    simp only [nms, Ex.dep, List.length_cons, Nat.pow_succ]
    omega
  | .un _ e => by
    have := nms_len e
    simp only [nms, Ex.dep, Nat.pow_succ]
    omega
  | .bin _ a b => by
    have h1 := nms_len a
    have h2 := nms_len b
    have m1 := Nat.pow_le_pow_right (n := 4) (by decide) (Nat.le_max_left a.dep b.dep)
    have m2 := Nat.pow_le_pow_right (n := 4) (by decide) (Nat.le_max_right a.dep b.dep)
    simp only [nms, Ex.dep, List.length_append, Nat.pow_succ]
    omega
  | .kk _ e _ => by
    have := nms_len e
    simp only [nms, Ex.dep, Nat.pow_succ]
    omega
  | .ite a b e => by
    have h1 := nms_len a
    have h2 := nms_len b
    have h3 := nms_len e
    have m1 := Nat.pow_le_pow_right (n := 4) (by decide) (Nat.le_max_left a.dep (max b.dep e.dep))
    have m2 := Nat.pow_le_pow_right (n := 4) (by decide) (Nat.le_trans (Nat.le_max_left b.dep e.dep) (Nat.le_max_right a.dep (max b.dep e.dep)))
    have m3 := Nat.pow_le_pow_right (n := 4) (by decide) (Nat.le_trans (Nat.le_max_right b.dep e.dep) (Nat.le_max_right a.dep (max b.dep e.dep)))
    simp only [nms, Ex.dep, List.length_append, Nat.pow_succ]
    omega
theorem nms_small {rs : List Row} {e : Ex} {n : Nat} (h : GoodE rs e n) : (nms e).length ≤ 3072 := by
  have h1 := nms_len e
  have h2 := Nat.pow_le_pow_right (n := 4) (by decide) (Nat.le_trans h.dep h.n5)
  have h3 : 4 ^ 5 = 1024 := by decide
  omega
theorem flat_small {rs : List Row} {n : Nat} : ∀ {ps : List Ex}, (∀ p ∈ ps, GoodE rs p n) → (ps.flatMap nms).length ≤ ps.length * 3072
  | [], _ => by simp
  | p :: ps, h => by
    have h1 := nms_small (h p (List.mem_cons_self ..))
    have h2 := flat_small fun q hq => h q (List.mem_cons_of_mem _ hq)
    rw [List.flatMap_cons, List.length_append, List.length_cons, Nat.succ_mul]
    omega
theorem prts_len (e : Ex) : (prts e).length ≤ 3 := by cases e <;> simp [prts]
def rNms (n : Nat) : List PyData → List PyData → Prop := fun ds es => ∃ rs e, ds = [e.d] ∧ GoodE rs e n ∧ es = nms e
abbrev dcNms (M : Md) (n : Nat) : Prop := Dc M "names_in" ["expression"] (n + 3) (spL (rNms n) M.K)
theorem ok_nms (n : Nat) {f fd} (F : Fun M.K "names_in" "names_in" s_names_in f fd) (b : Bl M) (dp : Dc M "parts_of" ["thing"] 2 (spF rParts M.K)) (ih : ∀ m, n = m + 1 → dcNms M m) :
    FnG M.prog M.w M.K M.mg M.base CX0 (n + 3) f fd ["expression"] (spL (rNms n) M.K) := by
  refine fn_ok F sc_names_in (fun vs H Q E h => ?_) (fun H vs Q E h => ?_)
  · obtain ⟨ds, d, h, ⟨rs, e, rfl, _⟩, _⟩ := h
    exact h.len
  obtain ⟨ds, d, h, ⟨rs, e, rfl, G0, rfl⟩, k⟩ := h
  obtain _ | ⟨hx, h⟩ := h
  cases h
  rename_i vx
  have g5 := G0.up G0.n5 (Nat.le_refl _)
  refine b_cut (fun σ1 H1 => H = H1 ∧ isStr e.d = false ∧ σ1 = [some vx, none, none]) ?_ ?_
  · tm_at "go"
    refine t_val ?_
    tm_at "go"
    refine rc_isStr hx ?_
    refine ⟨_, rfl, ?_⟩
    cases hs : isStr e.d with
    | false =>
      refine iff0 ?_
      tm_at "go"
      exact ⟨rfl, rfl, rfl⟩
    | true =>
      refine ift ?_
      cases e with
      | nm s =>
        cases hx
        tm_at "go"
        refine e_lstD ?_
        refine a_cons (e_tupD ?_)
        tm_at "go"
        refine tupend (.cons (.str _) (.cons (.bl _) .nil)) (Nat.le_of_ble_eq_true rfl) fun v1 H1 s1 h1 => ?_
        refine a_nil ⟨(Nat.le_of_ble_eq_true rfl), fun l H2 s2 n2 g2 => ?_⟩
        exact k _ _ _ (s1.trans s2) (same_none s1 n2) g2 (.cons (h1.mono (tp_same s2)) .nil)
      | _ => simp only [Ex.d, isStr] at hs; cases hs
  rintro _ _ ⟨rfl, hs, rfl⟩
  refine b_cut (fun σ1 H1 => ∃ l us, σ1 = [some vx, some (.ref l), none] ∧ Same H H1 ∧ H l = none ∧ H1 l = some (.lst us) ∧ us = []) ?_ ?_
  · refine s_set (by tm_at "at") ?_
    refine e_lstD (a_nil ⟨(Nat.le_of_ble_eq_true rfl), fun l H1 s1 n1 g1 => ?_⟩)
    exact ⟨l, _, rfl, s1, n1, g1, rfl⟩
  rintro _ H1 ⟨l1, _, rfl, s1, n1, g1, rfl⟩
  refine b_cut (fun σ1 H2 => ∃ l us, σ1 = [some vx, some (.ref l), none] ∧ Same H H2 ∧ H l = none ∧ H2 l = some (.lst us) ∧ DtAll M.K H2 us (ownN e)) ?_ ?_
  · have hx1 := hx.mono (tp_same s1)
    tm_at "go"
    refine t_val ?_
    tm_at "go"
    refine rc_isTup hx1 ?_
    refine ⟨_, rfl, ?_⟩
    have hf := G0.fit
    obtain ⟨oU, oB, oK⟩ := opf
    have fin : ownN e = [] → ∃ l us, [some vx, some (V.ref l1), none] = [some vx, some (V.ref l), none] ∧ Same H H1 ∧ H l = none ∧ H1 l = some (.lst us) ∧ DtAll M.K H1 us (ownN e) := fun h => ⟨l1, [], rfl, s1, n1, g1, by rw [h]; exact .nil⟩
    cases e with
    | int i =>
      refine iff0 ?_
      tm_at "go"
      exact fin rfl
    | nm s => simp only [Ex.d, isStr] at hs; cases hs
    | «at» t e =>
      refine ift ?_
      tm_at "go"
      refine e_lstD ?_
      refine a_cons (e_tupD ?_)
      tm_at "go"
      refine tupend (.cons (.str _) (.cons (.bl _) .nil)) (Nat.le_of_ble_eq_true rfl) fun v2 H2 s2 h2 => ?_
      refine a_nil ⟨(Nat.le_of_ble_eq_true rfl), fun l H3 s3 n3 g3 => ?_⟩
      exact ⟨l, _, rfl, s1.trans (s2.trans s3), same_none (s1.trans s2) n3, g3, .cons (h2.mono (tp_same s3)) .nil⟩
    | un o e =>
      refine ift ?_
      tm_at "go"
      refine ifd (fun z => absurd z (oU _ hf.1).1) (fun _ => ?_)
      tm_at "go"
      exact fin rfl
    | bin o a c =>
      refine ift ?_
      tm_at "go"
      refine ifd (fun z => absurd z (oB _ hf.1).1) (fun _ => ?_)
      tm_at "go"
      exact fin rfl
    | kk o e m =>
      refine ift ?_
      tm_at "go"
      refine ifd (fun z => absurd z (oK _ hf.1)) (fun _ => ?_)
      tm_at "go"
      exact fin rfl
    | ite a c e =>
      refine ift ?_
      tm_at "go"
      exact fin rfl
  rintro _ H2 ⟨l2, u2, rfl, s2, n2, g2, h2⟩
  refine b_cut (fun σ1 H3 => ∃ l us v2, σ1 = [some vx, some (.ref l), v2] ∧ Same H H3 ∧ H l = none ∧ H3 l = some (.lst us) ∧ DtAll M.K H3 us (nms e)) ?_ ?_
  · refine s_forT ?_
    refine e_callF dp ?_ (by show 2 ≤ n + 2; omega)
    tm_at "go"
    refine ⟨_, _, .cons (hx.mono (tp_same s2)) .nil, ⟨rs, e, rfl, g5, rfl⟩, fun v1 H3 s3 h3 => ?_⟩
    obtain ⟨a, xs, rfl, ht, hd⟩ := h3.tupE
    have lx := hd.len
    rw [List.length_map] at lx
    refine ⟨a, xs, rfl, ht, fun i σ1 H4 => ∃ l us v2, σ1 = [some vx, some (.ref l), v2] ∧ Same H3 H4 ∧ H l = none ∧ H4 l = some (.lst us) ∧ DtAll M.K H4 us (ownN e ++ ((prts e).take i).flatMap nms), ⟨l2, u2, none, rfl, Same.refl _, n2, s3 _ _ g2, by simpa using h2.mono (tp_same s3)⟩, ?_, ?_, ?_⟩
    · rintro i σ' H' _ ⟨_, _, _, _, s, _⟩
      exact (tp_same s).sqt ht
    · rintro i x σ' H4 hxi ⟨l, us, v2, rfl, s4, n4, g4, h4⟩
      obtain ⟨d, hdi, hx'⟩ := hd.getV hxi
      rw [List.getElem?_map] at hdi
      obtain ⟨p, hp, rfl⟩ := Option.map_eq_some_iff.mp hdi
      have pm := List.mem_of_getElem? hp
      obtain ⟨m, rfl⟩ : ∃ m, n = m + 1 := by
        have := G0.dep
        cases n with
        | zero =>
          cases e <;> first | (cases pm; done) | (simp only [Ex.dep] at this; omega)
        | succ m => exact ⟨m, rfl⟩
      refine g_name (by tm_at "at") ?_
      tm_at "go"
      refine e_callL (ih m rfl) ?_ (by show m + 3 ≤ m + 1 + 2; omega)
      tm_at "go"
      refine ⟨_, _, .cons (hx'.mono (tp_same s4)) .nil, ⟨rs, p, rfl, G0.part p pm, rfl⟩, fun l5 u5 H5 s5 n5 g5' h5 => ?_⟩
      have lu := h4.len
      have lu5 := h5.len
      have c1 := nms_small (G0.part p pm)
      have c2 := flat_small (ps := (prts e).take i) fun q hq => G0.part q (List.mem_of_mem_take hq)
      have c3 := prts_len e
      have c4 : (ownN e).length ≤ 1 := by cases e <;> simp [ownN]
      rw [List.length_append] at lu
      rw [List.length_take] at c2
      have c5 : min i (prts e).length * 3072 ≤ 3 * 3072 := Nat.mul_le_mul_right _ (by omega)
      refine ro_cat (s5 _ _ g4) g5' (by omega) fun l6 H6 s6 n6 g6 => ?_
      refine ⟨l6, _, _, rfl, s4.trans (s5.trans s6), same_none (s2.trans (s3.trans (s4.trans s5))) n6, g6, ?_⟩
      obtain ⟨hlt, rfl⟩ := List.getElem?_eq_some_iff.mp hp
      rw [List.take_succ_eq_append_getElem hlt, List.flatMap_append, ← List.append_assoc]
      refine (h4.mono (tp_same (s5.trans s6))).app ?_
      simpa using h5.mono (tp_same s6)
    · rintro σ' H4 ⟨l, us, v2, rfl, s4, n4, g4, h4⟩
      rw [lx, List.take_length, ← nms_eq hs] at h4
      exact ⟨l, us, v2, rfl, s2.trans (s3.trans s4), n4, g4, h4⟩
  rintro _ H3 ⟨l3, u3, v2, rfl, s3, n3, g3, h3⟩
  tm_at "go"
  exact k _ _ _ s3 n3 g3 h3
end K

namespace G
open PySem PySem.Spec PyProof.Rows L2
/-- a comprehension stored under a name that an inner block looks at -/
theorem s_setCell {c : Cd} {σ : L2.St} {H : Hp} {D : Ends} {pos pos2 pos' : Pos} {i : Nat} {x : Str} {elt : Expr} {gs : List Comprehension} {scope : Scope} (hA : At c.N i x) (q : RE c (.ListComp elt gs scope pos2) σ H fun v H1 => D.nx (σ.set i (some v)) H1) (hx : c.sc.names.lookup x = some .cell := by rfl) (ht : c.top = true := by rfl) :
    RS c (.Assign [.Name x pos'] (.ListComp elt gs scope pos2) pos) D σ H := by
  refine rs_of (t := tAsg (RE c (.ListComp elt gs scope pos2)) (gName i)) (fun X h => ?_) q
  refine ps_set (by rw [h.N]; exact h.nd) (by rw [h.N]; exact hA.get) (.inr (by rw [h.sc]; exact hx)) (pe_re h) ?_ (.inl (h.top ht _))
  have ky : X.env.kindOf x = some .cell := by
    show X.env.scope.names.lookup x = some .cell
    rw [h.sc]
    exact hx
  unfold swapsWith
  simp only [ky]
  have : ((some NameKind.cell : Option NameKind) == some NameKind.local) = false := by decide
  rw [this]
  simp
end G
namespace K
open PySem PySem.Spec PyProof.Rows L2 G
variable {M : Md}
theorem ro_inDL {c : Cd} {H : Hp} {Q : VK} {x : V} {d : PyData} {l : Addr} {us : List V} {ds : List PyData} {n : Nat} (hx : Dt c.K H x d) (hl : H l = some (.lst us)) (hd : DtAll c.K H us ds) (s1 : Shp n d) (s2 : ∀ e ∈ ds, Shp n e) (hn : n + 1 ≤ 64) (q : Q (.bl (ds.any fun z => PyData.eqv z d)) H) : RQ c .In x (.ref l) H Q :=
  rq_of (r := rInD c.K) (fun X h => by rw [← h.K]; exact op_inD (by have := h.room.un; omega)) ⟨d, ds, hx.dp, .lst (.of hl) hd.dp, s1.ok (by omega), (shp_lst s2).ok hn, q⟩
theorem nms_mem {rs : List Row} : ∀ (e : Ex), Fit rs e → ∀ d ∈ nms e, ∃ r ∈ rs, d = nmD r.1 (decide (0 < r.2.1))
  | .int _, _, d, hd => by cases hd
  | .nm s, h, d, hd => by
    rw [List.mem_singleton.mp hd]
    obtain ⟨r, hr, rfl, h0⟩ := h
    exact ⟨r, hr, by rw [h0]; rfl⟩
  | .at t e, h, d, hd => by
    rcases List.mem_cons.mp hd with rfl | hd
    · obtain ⟨r, hr, rfl, h0⟩ := h.1
      exact ⟨r, hr, by rw [decide_eq_true h0]⟩
    · exact nms_mem e h.2 d hd
  | .un _ e, h, d, hd => nms_mem e h.2 d hd
  | .bin _ a b, h, d, hd => by
    rcases List.mem_append.mp hd with hd | hd
    · exact nms_mem a h.2.1 d hd
    · exact nms_mem b h.2.2 d hd
  | .kk _ e _, h, d, hd => nms_mem e h.2.1 d hd
  | .ite a b e, h, d, hd => by
    rcases List.mem_append.mp hd with hd | hd
    · exact nms_mem a h.1 d hd
    rcases List.mem_append.mp hd with hd | hd
    · exact nms_mem b h.2.1 d hd
    · exact nms_mem e h.2.2 d hd
def gKnown : PyData → Option PyData
  | .tuple (.str s :: .int z :: _) => some (nmD s (decide (z > 0)))
  | _ => none
theorem known_all (rs : List Row) : (rs.map rowD).filterMap gKnown = rs.map fun r => nmD r.1 (decide (0 < r.2.1)) := by
  induction rs with
  | nil => rfl
  | cons r rs ih =>
    rw [List.map_cons, List.filterMap_cons, List.map_cons, ← ih]
    have e : gKnown (rowD r) = some (nmD r.1 (decide (0 < r.2.1))) := by
      show some (nmD r.1 (decide ((r.2.1 : Int) > 0))) = _
      congr 2
      exact decide_eq_decide.mpr (by omega)
    rw [e]
theorem shp_nm {s : Str} {t : Bool} (h : PyData.strOk s = true) : Shp 2 (nmD s t) := shp_tup fun d hd => by
  simp only [List.mem_cons, List.not_mem_nil, or_false] at hd
  rcases hd with rfl | rfl
  · exact shp_str h
  · exact shp_bl _
def rFits : List PyData → PyData → Prop := fun ds d => ∃ rs e, ds = [cellsD rs, e.d, .bool false] ∧ GoodE rs e 4 ∧ d = .bool true
set_option maxHeartbeats 1000000 in
theorem ok_fits {f fd} (F : Fun M.K "fits_expression" "fits_expression" s_fits_expression f fd) (b : Bl M) (b2 : Bl2 M) (dx : dcExpr M 4) (dn : dcNms M 4) :
    FnG M.prog M.w M.K M.mg M.base CX0 8 f fd ["cells", "thing", "only_inputs"] (spF rFits M.K) := by
  refine fn_ok F sc_fits_expression (fun vs H Q E h => ?_) (fun H vs Q E h => ?_)
  · obtain ⟨ds, d, h, ⟨rs, e, rfl, _⟩, _⟩ := h
    exact h.len
  obtain ⟨ds, d, h, ⟨rs, e, rfl, G0, rfl⟩, k⟩ := h
  obtain _ | ⟨hc, h⟩ := h
  obtain _ | ⟨hx, h⟩ := h
  obtain _ | ⟨ho, h⟩ := h
  cases h
  cases ho
  rename_i vc vx
  have rlen := G0.rn.ri.len
  refine b_cut (fun σ1 H1 => Same H H1 ∧ σ1 = [some vc, some vx, some (.bl false), none, none, none, none]) ?_ ?_
  · tm_at "go"
    refine t_val ?_
    refine e_callF dx ?_
    tm_at "go"
    refine ⟨_, _, .cons hx .nil, ⟨rs, e, rfl, G0, rfl⟩, fun v1 H1 s1 h1 => ?_⟩
    cases h1
    refine ⟨_, rfl, iff0 ?_⟩
    tm_at "go"
    exact ⟨s1, rfl⟩
  rintro _ H1 ⟨s1, rfl⟩
  refine b_cut (fun σ1 H2 => ∃ l us, σ1 = [some vc, some vx, some (.bl false), some (.ref l), none, none, none] ∧ Same H H2 ∧ H2 l = some (.lst us) ∧ DtAll M.K H2 us (rs.map rowD)) ?_ ?_
  · refine s_setLc (own := [("row", 5)]) (by tm_at "at") (Blk.of (N := N_fits_expression) (sc := defScope s_fits_expression) rfl rfl (by decide +kernel)) ?_
    refine lcT_F (fun d => some d) ?_
    tm_at "go"
    refine ⟨rs.map rowD, hc.mono (tp_same s1), by rw [List.length_map]; omega, fun d v H' hm s3 hv => ?_, fun p us H3 s3 n3 g3 h3 => ?_⟩
    · obtain ⟨r, hr, rfl⟩ := List.mem_map.mp hm
      refine g_name (by tm_at "at") ⟨rfl, rfl, ts_one ?_⟩
      tm_at "go"
      refine t_val ?_
      tm_at "go"
      refine ifb (fun _ => ?_) (fun _ => ?_)
      · refine ⟨Same.refl _, ift ?_⟩
        tm_at "go"
        exact ⟨Same.refl _, _, rfl, hv⟩
      · tm_at "go"
        refine t_val ?_
        tm_at "go"
        refine ⟨Same.refl _, ift ?_⟩
        tm_at "go"
        exact ⟨Same.refl _, _, rfl, hv⟩
    · rw [List.filterMap_some] at h3
      exact ⟨p, us, rfl, s1.trans s3, g3, h3⟩
  rintro _ H2 ⟨l2, u2, rfl, s2, g2, h2⟩
  refine b_cut (fun σ1 H3 => ∃ l us, σ1 = [some vc, some vx, some (.bl false), some (.ref l2), some (.ref l), none, none] ∧ Same H H3 ∧ H3 l = some (.lst us) ∧ DtAll M.K H3 us (rs.map fun r => nmD r.1 (decide (0 < r.2.1)))) ?_ ?_
  · refine s_setCell (by tm_at "at") ?_
    refine e_lc (own := [("row", 5)]) (Blk.of (N := N_fits_expression) (sc := defScope s_fits_expression) rfl rfl (by decide +kernel)) ?_
    refine lcL_F gKnown ?_
    tm_at "go"
    refine ⟨l2, u2, _, rfl, .of g2, h2, by rw [List.length_map]; omega, fun d v H' hm s3 hv => ?_, fun p us H3 s3 n3 g3 h3 => ?_⟩
    · obtain ⟨r, hr, rfl⟩ := List.mem_map.mp hm
      refine g_name (by tm_at "at") ⟨rfl, rfl, ts_nil ⟨Same.refl _, ift ?_⟩⟩
      refine e_tupD ?_
      tm_at "go"
      refine tupend (.cons (.str _) (.cons (.bl _) .nil)) (Nat.le_of_ble_eq_true rfl) fun v4 H4 s4 h4 => ?_
      exact ⟨s4, _, rfl, h4⟩
    · rw [known_all] at h3
      exact ⟨p, us, rfl, s2.trans s3, g3, h3⟩
  rintro _ H3 ⟨l3, u3, rfl, s3, g3, h3⟩
  tm_at "go"
  refine e_callB (id := "all") b2.all (by decide +kernel) ?_
  tm_at "go"
  refine e_lc (own := [("pair", 6)]) (Blk.of (N := N_fits_expression) (sc := defScope s_fits_expression) rfl rfl (by decide +kernel)) ?_
  refine lcL_F (fun _ => some (.bool true)) ?_
  refine e_callL dn ?_
  tm_at "go"
  refine ⟨_, _, .cons (hx.mono (tp_same s3)) .nil, ⟨rs, e, rfl, G0, rfl⟩, fun l4 u4 H4 s4 n4 g4 h4 => ?_⟩
  have nl : (nms e).length ≤ 1000 := by
    have h1 := nms_len e
    have h2 := Nat.pow_le_pow_right (n := 4) (by decide) G0.dep
    have h3 : 4 ^ 4 = 256 := by decide
    omega
  refine ⟨l4, u4, _, rfl, .of g4, h4, nl, fun d v H' hm s5 hv => ?_, fun p us H5 s5 n5 g5 h5 => ?_⟩
  · obtain ⟨r, hr, rfl⟩ := nms_mem e G0.fit d hm
    refine g_name (by tm_at "at") ⟨rfl, rfl, ts_nil ⟨Same.refl _, ift ?_⟩⟩
    tm_at "go"
    refine ro_inDL (n := 2) hv (s5 _ _ (s4 _ _ g3)) (h3.mono (tp_same (s4.trans s5))) (shp_nm (G0.rn.ri.nm r hr)) (fun z hz => ?_) (by decide) ?_
    · obtain ⟨r', hr', rfl⟩ := List.mem_map.mp hz
      exact shp_nm (G0.rn.ri.nm r' hr')
    · refine ⟨Same.refl _, _, rfl, ?_⟩
      have ha : ((rs.map fun r => nmD r.1 (decide (0 < r.2.1))).any fun z => PyData.eqv z (nmD r.1 (decide (0 < r.2.1)))) = true :=
        List.any_eq_true.mpr ⟨nmD r.1 (decide (0 < r.2.1)), List.mem_map.mpr ⟨r, hr, rfl⟩, PySem.SeqAt.eqv_refl _ (shp_nm (t := decide (0 < r.2.1)) (G0.rn.ri.nm r hr)).lay⟩
      rw [ha]
      exact .bl _
  · have eb : (nms e).filterMap (fun _ => some (PyData.bool true)) = ((nms e).map fun _ => true).map .bool := by
      rw [List.filterMap_eq_map', List.map_map]
      rfl
    rw [eb] at h5
    obtain rfl := dtBools_eq h5
    tm_at "go"
    refine rc_all (.of g5) ?_
    have ea : (((nms e).map fun _ => true).all id) = true := by simp
    rw [ea]
    exact k _ _ (s3.trans (s4.trans s5)) (.bl _)
end K

namespace K
open PySem PySem.Spec PyProof.Rows L2 G
variable {M : Md}
/-- a state of rows fits them -/
structure RowsS (rs : List Row) : Prop where
  rn : RowsN rs
  sm : Small rs
  nd : (rs.map nameOf).Nodup
theorem span_in {p : Rng} {v : Int} (h : v ∈ (List.range (span p)).map fun t : Nat => p.1 + (t : Int)) : p.1 ≤ v ∧ v ≤ p.2 := by
  obtain ⟨t, ht, rfl⟩ := List.mem_map.mp h
  have := List.mem_range.mp ht
  unfold span at this
  omega
theorem states_rng : ∀ (ps : List Rng) (acc : List St1) (qs : List Rng), (∀ o ∈ acc, o.length = qs.length ∧ ∀ (i : Nat) (r : Rng), qs[i]? = some r → r.1 ≤ gt o i ∧ gt o i ≤ r.2) →
    ∀ o ∈ ps.foldl widen acc, o.length = (qs ++ ps).length ∧ ∀ (i : Nat) (r : Rng), (qs ++ ps)[i]? = some r → r.1 ≤ gt o i ∧ gt o i ≤ r.2
  | [], acc, qs, h, o, ho => by rw [List.append_nil]; exact h o ho
  | p :: ps, acc, qs, h, o, ho => by
    rw [List.foldl_cons] at ho
    have e : qs ++ p :: ps = (qs ++ [p]) ++ ps := by simp
    rw [e]
    refine states_rng ps (widen acc p) (qs ++ [p]) (fun o' ho' => ?_) o ho
    obtain ⟨o1, h1, h2⟩ := List.mem_flatMap.mp ho'
    obtain ⟨t, ht, rfl⟩ := List.mem_map.mp h2
    obtain ⟨l1, b1⟩ := h o1 h1
    have hv : p.1 ≤ p.1 + (t : Int) ∧ p.1 + (t : Int) ≤ p.2 := span_in (List.mem_map.mpr ⟨t, ht, rfl⟩)
    refine ⟨by rw [List.length_append, List.length_append, l1]; rfl, fun i r hr => ?_⟩
    by_cases hi : i < qs.length
    · rw [List.getElem?_append_left hi] at hr
      have := b1 i r hr
      have eg : gt (o1 ++ [p.1 + (t : Int)]) i = gt o1 i := by
        unfold gt
        rw [List.getD_eq_getElem?_getD, List.getD_eq_getElem?_getD, show ((i : Nat) : Int).toNat = i from rfl, List.getElem?_append_left (by omega)]
      rw [eg]
      exact this
    · rw [List.getElem?_append_right (by omega)] at hr
      have hi2 : i = qs.length := by
        rcases Nat.lt_or_ge (i - qs.length) 1 with z | z
        · omega
        · rw [List.getElem?_eq_none (by simpa using z)] at hr; cases hr
      subst hi2
      rw [Nat.sub_self] at hr
      cases hr
      have eg : gt (o1 ++ [p.1 + (t : Int)]) qs.length = p.1 + (t : Int) := by
        unfold gt
        rw [List.getD_eq_getElem?_getD, show ((qs.length : Nat) : Int).toNat = qs.length from rfl, ← l1, List.getElem?_append_right (Nat.le_refl _), Nat.sub_self]
        rfl
      rw [eg]
      exact hv
theorem st_ok {rs : List Row} (h : RowsS rs) {o : St1} (ho : o ∈ statesOf (rg rs)) : StOk rs o := by
  have hl := states_mem ho
  obtain ⟨l1, b1⟩ := states_rng (rg rs) [[]] [] (fun o' ho' => by rw [List.mem_singleton.mp ho']; exact ⟨rfl, fun i r hr => by simp at hr⟩) o ho
  rw [List.nil_append] at b1 l1
  refine ⟨by rw [hl, rg_len], fun v hv => ?_, h.sm.tot, h.nd, h.rn.ri, b1⟩
  obtain ⟨i, hi, rfl⟩ := List.mem_iff_getElem.mp hv
  have hr : (rg rs)[i]? = some ((rg rs)[i]'(by omega)) := List.getElem?_eq_getElem (by omega)
  have b2 := b1 i _ hr
  have b3 := h.sm.sp _ (List.mem_of_getElem? hr)
  have eg : gt o i = o[i] := by
    unfold gt
    rw [List.getD_eq_getElem?_getD, show ((i : Nat) : Int).toNat = i from rfl, List.getElem?_eq_getElem hi]
    rfl
  rw [eg] at b2
  omega
/-- the values in all states -/
def vals (rs : List Row) (e : Ex) : List (Option Int) := (statesOf (rg rs)).map fun o => (ev rs o e).1
/-- the one value, where there is one -/
def only (rs : List Row) : Ex → Option Int
  | .int i => some i
  | e => match vals rs e with
    | some v :: r => if r.all (fun x => x == some v) then some v else none
    | _ => none
end K

namespace K
open PySem PySem.Spec PyProof.Rows L2 G
variable {M : Md}
def rSof : List PyData → List PyData → Prop := fun ds es => ∃ rs : List Row, ds = [cellsD rs] ∧ Small rs ∧ es = (statesOf (rg rs)).map stD
theorem ok_sof {f fd} (F : Fun M.K "_states_of" "_states_of" s__states_of f fd) (b : Bl M) (ds : Dc M "state_list" ["program"] 3 (spL rSlist M.K)) : FnG M.prog M.w M.K M.mg M.base CX0 4 f fd ["cells"] (spL rSof M.K) := by
  refine fn_ok F sc__states_of (fun vs H Q E h => ?_) (fun H vs Q E h => ?_)
  · obtain ⟨ds, d, h, ⟨rs, rfl, _⟩, _⟩ := h
    exact h.len
  obtain ⟨ds, d, h, ⟨rs, rfl, sm, rfl⟩, k⟩ := h
  obtain _ | ⟨hc, h⟩ := h
  cases h
  rename_i vc
  tm_at "go"
  refine e_callL ds ?_
  refine a_cons ?_
  refine e_tupD ?_
  refine a_cons (e_var (by tm_at "at") ?_)
  refine a_cons (e_tupD (a_nil ?_))
  refine tupend (ds := []) .nil (Nat.le_of_ble_eq_true rfl) fun v1 H1 s1 h1 => ?_
  refine a_cons (e_tupD (a_nil ?_))
  refine tupend (ds := []) .nil (Nat.le_of_ble_eq_true rfl) fun v2 H2 s2 h2 => ?_
  refine a_cons (e_int (a_nil ?_))
  refine tupend (.cons (hc.mono (tp_same (s1.trans s2))) (.cons (h1.mono (tp_same s2)) (.cons h2 (.cons (.int 1) .nil)))) (Nat.le_of_ble_eq_true rfl) fun v3 H3 s3 h3 => ?_
  refine a_nil ?_
  exact ⟨_, _, .cons h3 .nil, ⟨rs, _, rfl, sm, rfl⟩, fun l us H4 s4 n4 g4 h4 => k _ _ _ (s1.trans (s2.trans (s3.trans s4))) (same_none (s1.trans (s2.trans s3)) n4) g4 h4⟩
/-- cells, the list of all states, an expression -/
structure Ask (K : PySem.W.Frag) (H : Hp) (rs : List Row) (e : Ex) (vc vx : V) (l : Addr) (us : List V) : Prop where
  R : RowsS rs
  fit : Fit rs e
  dep : e.dep ≤ 4
  c : Dt K H vc (cellsD rs)
  x : Dt K H vx e.d
  g : H l = some (.lst us)
  d : DtAll K H us ((statesOf (rg rs)).map stD)
theorem Ask.good {K : PySem.W.Frag} {H : Hp} {rs : List Row} {e : Ex} {vc vx : V} {l : Addr} {us : List V} (h : Ask K H rs e vc vx l us) : GoodE rs e 4 := ⟨h.R.rn, h.fit, h.dep, by decide⟩
theorem Ask.same {K : PySem.W.Frag} {H H' : Hp} {rs : List Row} {e : Ex} {vc vx : V} {l : Addr} {us : List V} (h : Ask K H rs e vc vx l us) (s : Same H H') : Ask K H' rs e vc vx l us :=
  ⟨h.R, h.fit, h.dep, h.c.mono (tp_same s), h.x.mono (tp_same s), s _ _ h.g, h.d.mono (tp_same s)⟩
theorem Ask.ev {K : PySem.W.Frag} {H : Hp} {rs : List Row} {e : Ex} {vc vx : V} {l : Addr} {us : List V} (h : Ask K H rs e vc vx l us) {o : St1} (ho : o ∈ statesOf (rg rs)) : EvIn rs o e 4 := ⟨st_ok h.R ho, h.fit, h.dep, by decide⟩
def spOnly (K : PySem.W.Frag) : Sp := fun vs H Q _ => ∃ rs e vc vx l us, vs = [vc, .ref l, vx] ∧ Ask K H rs e vc vx l us ∧ ∀ v H', Same H H' → Dt K H' v (optD (only rs e)) → Q v H'
abbrev dcVin (M : Md) : Prop := Dc M "value_in" ["cells", "state", "expression"] 13 (spF (rVal 4) M.K)
theorem states_pos {rs : List Row} (h : Small rs) : 0 < (statesOf (rg rs)).length := by
  rw [states_len]
  have : ∀ (ns : List Nat) (m : Nat), 0 < m → (∀ n ∈ ns, 1 ≤ n) → 0 < ns.foldl (· * ·) m := by
    intro ns
    induction ns with
    | nil => intro m hm _; exact hm
    | cons n ns ih => intro m hm hn; exact ih _ (Nat.mul_pos hm (hn n (List.mem_cons_self ..))) fun a ha => hn a (List.mem_cons_of_mem _ ha)
  refine this _ 1 (by decide) fun n hn => ?_
  obtain ⟨p, hp, rfl⟩ := List.mem_map.mp hn
  exact (h.sp p hp).1
theorem only_int {e : Ex} (h : isInt e.d = true) : ∃ i, e = .int i := by
  cases e <;> first | exact ⟨_, rfl⟩ | (simp only [Ex.d, isInt] at h; cases h)
theorem only_some {rs : List Row} {e : Ex} {o : St1} {os : List St1} {v : Int} (hi : isInt e.d = false) (hs : statesOf (rg rs) = o :: os) (h0 : (ev rs o e).1 = some v) (ha : ∀ p ∈ statesOf (rg rs), (ev rs p e).1 = some v) : only rs e = some v := by
  have hv : vals rs e = some v :: os.map fun o => (ev rs o e).1 := by unfold vals; rw [hs, List.map_cons, h0]
  have hal : (os.map fun o => (ev rs o e).1).all (fun x => x == some v) = true := List.all_eq_true.mpr fun x hx => by
    obtain ⟨p, hp, rfl⟩ := List.mem_map.mp hx
    rw [ha p (by rw [hs]; exact List.mem_cons_of_mem _ hp)]
    simp
  cases e with
  | int i => simp only [Ex.d, isInt] at hi; cases hi
  | _ => simp only [only, hv, hal, if_true]
theorem only_none {rs : List Row} {e : Ex} {o : St1} {os : List St1} (hi : isInt e.d = false) (hs : statesOf (rg rs) = o :: os) (h : (ev rs o e).1 = none ∨ ∃ p ∈ statesOf (rg rs), (ev rs p e).1 ≠ (ev rs o e).1) : only rs e = none := by
  have hv : vals rs e = (ev rs o e).1 :: os.map fun o => (ev rs o e).1 := by unfold vals; rw [hs, List.map_cons]
  cases h0 : (ev rs o e).1 with
  | none =>
    rw [h0] at hv
    cases e with
    | int i => simp only [Ex.d, isInt] at hi; cases hi
    | _ => simp only [only, hv]
  | some v =>
    rw [h0] at hv h
    have hal : (os.map fun o => (ev rs o e).1).all (fun x => x == some v) = false := by
      rcases h with z | ⟨p, hp, hne⟩
      · cases z
      · rw [hs] at hp
        rcases List.mem_cons.mp hp with rfl | hp
        · exact absurd h0 hne
        · exact List.all_eq_false.mpr ⟨_, List.mem_map.mpr ⟨p, hp, rfl⟩, by simpa using hne⟩
    cases e with
    | int i => simp only [Ex.d, isInt] at hi; cases hi
    | _ => simp [only, hv, hal]
end K

namespace K
open PySem PySem.Spec PyProof.Rows L2 G
variable {M : Md}
set_option maxHeartbeats 1000000 in
theorem ok_only {f fd} (F : Fun M.K "_only_value" "_only_value" s__only_value f fd) (b : Bl M) (di : dcB M "is_integer" "thing" 1 isInt) (dv : dcVin M) :
    FnG M.prog M.w M.K M.mg M.base CX0 14 f fd ["cells", "states", "expression"] (spOnly M.K) := by
  refine fn_ok F sc__only_value (fun vs H Q E h => ?_) (fun H vs Q E h => ?_)
  · obtain ⟨rs, e, vc, vx, l, us, rfl, _⟩ := h
    rfl
  obtain ⟨rs, e, vc, vx, l, us, rfl, A0, k⟩ := h
  have gx := A0.good.gx
  refine b_cut (fun σ1 H1 => Same H H1 ∧ isInt e.d = false ∧ σ1 = [some vc, some (.ref l), some vx, none, none]) ?_ ?_
  · tm_at "go"
    refine t_val ?_
    refine e_callF di ?_
    tm_at "go"
    refine ⟨_, _, .cons A0.x .nil, ⟨_, rfl, gx, rfl⟩, fun v1 H1 s1 h1 => ?_⟩
    cases h1
    refine ⟨_, rfl, ?_⟩
    cases hi : isInt e.d with
    | true =>
      obtain ⟨i, rfl⟩ := only_int hi
      refine ift ?_
      tm_at "go"
      exact k _ _ s1 (A0.x.mono (tp_same s1))
    | false =>
      refine iff0 ?_
      tm_at "go"
      exact ⟨s1, rfl, rfl⟩
  rintro _ H1 ⟨s1, hi, rfl⟩
  have A1 := A0.same s1
  obtain ⟨o, os, hs⟩ : ∃ o os, statesOf (rg rs) = o :: os := by
    have := states_pos A0.R.sm
    cases h : statesOf (rg rs) with
    | nil => rw [h] at this; cases this
    | cons o os => exact ⟨o, os, rfl⟩
  have om : o ∈ statesOf (rg rs) := by rw [hs]; exact List.mem_cons_self ..
  refine b_cut (fun σ1 H2 => ∃ v0, Same H1 H2 ∧ Dt M.K H2 v0 (optD (ev rs o e).1) ∧ σ1 = [some vc, some (.ref l), some vx, some v0, none]) ?_ ?_
  · tm_at "go"
    refine e_callF dv ?_
    tm_at "go"
    refine rx_pick (.of A1.g) A1.d (by decide) (by rw [List.length_map, hs]; simp) fun vo d hd ho => ?_
    rw [hs] at hd
    cases hd
    tm_at "go"
    exact ⟨_, _, .cons A1.c (.cons ho (.cons A1.x .nil)), ⟨rs, o, e, rfl, A1.ev om, rfl⟩, fun v2 H2 s2 h2 => ⟨v2, s2, h2, rfl⟩⟩
  rintro _ H2 ⟨v0, s2, h0, rfl⟩
  have A2 := A1.same s2
  refine b_cut (fun σ1 H3 => Same H2 H3 ∧ (∃ w, (ev rs o e).1 = some w ∧ ∀ p ∈ statesOf (rg rs), (ev rs p e).1 = some w) ∧ ∃ v4, σ1 = [some vc, some (.ref l), some vx, some v0, v4]) ?_ ?_
  · refine s_forL ?_
    refine e_var (by tm_at "at") ?_
    have lu := A2.d.len
    rw [List.length_map] at lu
    refine ⟨l, us, rfl, .of A2.g, fun i σ1 H3 => Same H2 H3 ∧ (0 < i → ∃ w, (ev rs o e).1 = some w) ∧ (∀ p ∈ (statesOf (rg rs)).take i, (ev rs p e).1 = (ev rs o e).1) ∧ ∃ v4, σ1 = [some vc, some (.ref l), some vx, some v0, v4], ⟨Same.refl _, fun z => absurd z (by decide), (fun p hp => by simp at hp), _, rfl⟩, ?_, ?_, ?_⟩
    · rintro i σ' H' _ ⟨s, _⟩
      exact .of (s _ _ A2.g)
    · rintro i x σ' H3 hx ⟨s3, hw, hal, v4, rfl⟩
      have A3 := A2.same s3
      obtain ⟨d, hdi, hx'⟩ := A3.d.getV hx
      rw [List.getElem?_map] at hdi
      obtain ⟨p, hp, rfl⟩ := Option.map_eq_some_iff.mp hdi
      have pm := List.mem_of_getElem? hp
      have h03 := h0.mono (tp_same s3)
      refine g_name (by tm_at "at") ?_
      tm_at "go"
      rcases optN h03 with ⟨e0, rfl⟩ | ⟨w, e0, rfl⟩
      · refine ift ?_
        tm_at "go"
        refine k _ _ (s1.trans (s2.trans s3)) ?_
        rw [only_none hi hs (.inl e0)]
        exact .non
      · tm_at "go"
        refine e_callF dv ?_
        tm_at "go"
        refine ⟨_, _, .cons A3.c (.cons hx' (.cons A3.x .nil)), ⟨rs, p, e, rfl, A3.ev pm, rfl⟩, fun v5 H5 s5 h5 => ?_⟩
        rcases optN h5 with ⟨e5, rfl⟩ | ⟨w5, e5, rfl⟩
        · tm_at "go"
          refine ro_ne rfl ?_
          refine ⟨_, rfl, ?_⟩
          refine ift ?_
          tm_at "go"
          refine k _ _ (s1.trans (s2.trans (s3.trans s5))) ?_
          rw [only_none hi hs (.inr ⟨p, pm, by rw [e5, e0]; intro z; cases z⟩)]
          exact .non
        · tm_at "go"
          refine ifnd (fun c1 => ?_) (fun c1 => ?_)
          · tm_at "go"
            refine k _ _ (s1.trans (s2.trans (s3.trans s5))) ?_
            rw [only_none hi hs (.inr ⟨p, pm, by rw [e5, e0]; intro z; exact c1 (Option.some.inj z)⟩)]
            exact .non
          · tm_at "go"
            obtain ⟨hlt, rfl⟩ := List.getElem?_eq_some_iff.mp hp
            refine ⟨s3.trans s5, fun _ => ⟨w, e0⟩, fun q hq => ?_, _, rfl⟩
            rw [List.take_succ_eq_append_getElem hlt] at hq
            rcases List.mem_append.mp hq with z | z
            · exact hal q z
            · rw [List.mem_singleton.mp z, e5, e0, c1]
    · rintro σ' H3 ⟨s3, hw, hal, v4, rfl⟩
      rw [lu, List.take_length] at hal
      obtain ⟨w, hw⟩ := hw (by rw [lu, hs]; simp)
      exact ⟨s3, ⟨w, hw, fun p hp => by rw [hal p hp, hw]⟩, v4, rfl⟩
  rintro _ H3 ⟨s3, ⟨w, hw, hal⟩, v4, rfl⟩
  tm_at "go"
  refine k _ _ (s1.trans (s2.trans s3)) ?_
  rw [only_some hi hs hw hal]
  have := h0.mono (tp_same s3)
  rw [hw] at this
  exact this
end K

namespace K
open PySem PySem.Spec PyProof.Rows L2 G
variable {M : Md}
def fold (rs : List Row) : Ex → Ex
  | .int i => .int i
  | .nm s => match only rs (.nm s) with | some v => .int v | none => .nm s
  | .at t a => match only rs (.at t a) with | some v => .int v | none => .at t (fold rs a)
  | .un op a => match only rs (.un op a) with | some v => .int v | none => .un op (fold rs a)
  | .bin op a b => match only rs (.bin op a b) with | some v => .int v | none => .bin op (fold rs a) (fold rs b)
  | .kk op a n => match only rs (.kk op a n) with | some v => .int v | none => .kk op (fold rs a) n
  | .ite a b c => match only rs (.ite a b c) with | some v => .int v | none => .ite (fold rs a) (fold rs b) (fold rs c)
theorem fold_some {rs : List Row} {e : Ex} {v : Int} (h : only rs e = some v) : fold rs e = .int v := by
  cases e with
  | int i => simp only [only] at h; cases h; rfl
  | _ => simp only [fold, h]
def spFold (m : Nat) (K : PySem.W.Frag) : Sp := fun vs H Q _ => ∃ rs e vc vx l us, vs = [vc, .ref l, vx] ∧ Ask K H rs e vc vx l us ∧ e.dep ≤ m ∧ ∀ v H', Same H H' → Dt K H' v (fold rs e).d → Q v H'
abbrev dcFold (M : Md) (m : Nat) : Prop := Dc M "_folded_in" ["cells", "states", "expression"] (m + 15) (spFold m M.K)
/-- the parts of a tuple, as they stand behind its word -/
def tailE : Ex → List Ex
  | .int _ => []
  | .nm _ => []
  | .at t a => [.nm t, a]
  | .un _ a => [a]
  | .bin _ a b => [a, b]
  | .kk _ a n => [a, .int n]
  | .ite a b c => [a, b, c]
def wordE : Ex → Str
  | .int _ => ""
  | .nm _ => ""
  | .at _ _ => "at"
  | .un o _ => o
  | .bin o _ _ => o
  | .kk o _ _ => o
  | .ite _ _ _ => "if"
theorem tail_d {e : Ex} (hi : isInt e.d = false) (hs : isStr e.d = false) : e.d = .tuple (.str (wordE e) :: (tailE e).map Ex.d) := by
  cases e <;> first | (simp only [Ex.d, isInt] at hi; cases hi; done) | (simp only [Ex.d, isStr] at hs; cases hs; done) | rfl
theorem fold_none {rs : List Row} {e : Ex} (hi : isInt e.d = false) (hs : isStr e.d = false) (ha : wordE e ≠ "at") (h : only rs e = none) : (fold rs e).d = .tuple (.str (wordE e) :: (tailE e).map fun p => (fold rs p).d) := by
  cases e <;> first | (simp only [Ex.d, isInt] at hi; cases hi; done) | (simp only [Ex.d, isStr] at hs; cases hs; done) | (exact absurd rfl ha) | (simp only [fold, h]; rfl)
theorem tail_fit {rs : List Row} {e : Ex} {m : Nat} (hf : Fit rs e) (ha : wordE e ≠ "at") (hd : e.dep ≤ m + 1) : ∀ p ∈ tailE e, Fit rs p ∧ p.dep ≤ m := by
  intro p hp
  cases e with
  | int => cases hp
  | nm => cases hp
  | «at» t a => exact absurd rfl ha
  | un o a =>
    rw [List.mem_singleton.mp hp]
    exact ⟨hf.2, by simp only [Ex.dep] at hd; omega⟩
  | bin o a b =>
    simp only [tailE, List.mem_cons, List.not_mem_nil, or_false] at hp
    simp only [Ex.dep] at hd
    rcases hp with rfl | rfl
    · exact ⟨hf.2.1, by omega⟩
    · exact ⟨hf.2.2, by omega⟩
  | kk o a n =>
    simp only [tailE, List.mem_cons, List.not_mem_nil, or_false] at hp
    simp only [Ex.dep] at hd
    rcases hp with rfl | rfl
    · exact ⟨hf.2.1, by omega⟩
    · have := hf.2.2
      exact ⟨by show -1000000 ≤ n ∧ n ≤ 1000000; omega, Nat.zero_le _⟩
  | ite a b c =>
    simp only [tailE, List.mem_cons, List.not_mem_nil, or_false] at hp
    simp only [Ex.dep] at hd
    rcases hp with rfl | rfl | rfl
    · exact ⟨hf.1, by omega⟩
    · exact ⟨hf.2.1, by omega⟩
    · exact ⟨hf.2.2, by omega⟩
theorem lcT_M {c : Cd} {σ : L2.St} {H : Hp} {Q : VK} {elt tg iter : Expr} {ifs : List Expr} {scope : Scope} {vs : List Nat} (es : List PyData) (q : RE c iter σ H fun x H1 => ∃ ds, Dt c.K H1 x (.tuple ds) ∧ ds.length ≤ 1000 ∧ es.length = ds.length ∧
      (∀ (i : Nat) d e x H', ds[i]? = some d → es[i]? = some e → Same H1 H' → Dt c.K H' x d → TurnF (blkCd c scope) tg ifs elt vs σ c.K x H' (some e)) ∧ ∀ p us H2, Same H1 H2 → H1 p = none → H2 p = some (.lst us) → DtAll c.K H2 us es → Q (.ref p) H2) :
    tLc (RI c tg iter) (RG (blkCd c scope) tg) (RTs (blkCd c scope) ifs) (RE (blkCd c scope) elt) vs σ H Q := by
  refine lc_T (RE.mono (fun x H1 z => ?_) q)
  obtain ⟨ds, hx, hl, le, t, k⟩ := z
  obtain ⟨a, xs, rfl, ht, ha⟩ := hx.tupE
  have hle := ha.len
  refine ⟨a, xs, rfl, ht, by omega, fun D hD => ⟨fun i acc H' => acc.length ≤ i ∧ H' D = some (.lst acc) ∧ Same H1 H' ∧ DtAll c.K H' acc (es.take i), ⟨Nat.le_refl _, upd_same, same_new hD, .nil⟩, ?_, ?_, ?_⟩⟩
  · rintro i acc H' _ ⟨l, _, s, _⟩
    exact ⟨(tp_same s).sqt ht, l⟩
  · rintro i x acc H' hx ⟨l, h1, s, h2⟩
    obtain ⟨d, hd, hx'⟩ := ha.getV hx
    have hi : i < es.length := by rw [le]; exact (List.getElem?_eq_some_iff.mp hd).1
    have T := TurnF.one hD s h1 h2 (t i d es[i] x H' hd (List.getElem?_eq_getElem hi) s (hx'.mono (tp_same s)))
    have step : es.take i ++ (some es[i]).toList = es.take (i + 1) := (List.take_succ_eq_append_getElem hi).symm
    refine RG.mono (fun σ2 H2 z => ⟨z.1, RTs.mono (fun b H3 z => ?_) z.2⟩) T
    cases b with
    | true => exact RE.mono (fun y H4 z => ⟨z.1, by rw [List.length_append, List.length_singleton]; omega, z.2.1, z.2.2.1, by rw [← step]; exact z.2.2.2⟩) z
    | false => exact ⟨by omega, z.1, z.2.1, by rw [← step]; exact z.2.2⟩
  · rintro acc H' ⟨l, h1, s, h2⟩
    refine k D acc H' s hD h1 ?_
    rw [List.take_of_length_le (by omega)] at h2
    exact h2
set_option maxHeartbeats 1000000 in
theorem ok_fold (m : Nat) {f fd} (F : Fun M.K "_folded_in" "_folded_in" s__folded_in f fd) (b : Bl M) (don : Dc M "_only_value" ["cells", "states", "expression"] 14 (spOnly M.K)) (ih : ∀ j, m = j + 1 → dcFold M j) :
    FnG M.prog M.w M.K M.mg M.base CX0 (m + 15) f fd ["cells", "states", "expression"] (spFold m M.K) := by
  refine fn_ok F sc__folded_in (fun vs H Q E h => ?_) (fun H vs Q E h => ?_)
  · obtain ⟨rs, e, vc, vx, l, us, rfl, _⟩ := h
    rfl
  obtain ⟨rs, e, vc, vx, l, us, rfl, A0, hd, k⟩ := h
  refine b_cut (fun σ1 H1 => ∃ v0, Same H H1 ∧ Dt M.K H1 v0 (optD (only rs e)) ∧ σ1 = [some vc, some (.ref l), some vx, some v0, none]) ?_ ?_
  · tm_at "go"
    refine e_call don ?_ (by show 14 ≤ m + 14; omega)
    tm_at "go"
    exact ⟨rs, e, vc, vx, l, us, rfl, A0, fun v1 H1 s1 h1 => ⟨v1, s1, h1, rfl⟩⟩
  rintro _ H1 ⟨v0, s1, h0, rfl⟩
  have A1 := A0.same s1
  refine b_cut (fun σ1 H2 => H1 = H2 ∧ only rs e = none ∧ σ1 = [some vc, some (.ref l), some vx, some v0, none]) ?_ ?_
  · tm_at "go"
    rcases optN h0 with ⟨e0, rfl⟩ | ⟨w, e0, rfl⟩
    · tm_at "go"
      exact ⟨rfl, e0, rfl⟩
    · tm_at "go"
      refine k _ _ s1 ?_
      rw [fold_some e0]
      exact .int w
  rintro _ _ ⟨rfl, e0, rfl⟩
  have hi : isInt e.d = false := by
    cases e with
    | int i => simp only [only] at e0; cases e0
    | _ => rfl
  refine b_cut (fun σ1 H2 => H1 = H2 ∧ isStr e.d = false ∧ σ1 = [some vc, some (.ref l), some vx, some v0, none]) ?_ ?_
  · tm_at "go"
    refine t_val ?_
    tm_at "go"
    refine rc_isStr A1.x ?_
    refine ⟨_, rfl, ?_⟩
    cases hs : isStr e.d with
    | false =>
      refine iff0 ?_
      tm_at "go"
      exact ⟨rfl, rfl, rfl⟩
    | true =>
      refine ift ?_
      tm_at "go"
      refine k _ _ s1 ?_
      cases e with
      | nm s =>
        have : fold rs (.nm s) = .nm s := by simp only [fold, e0]
        rw [this]
        exact A1.x
      | _ => simp only [Ex.d, isStr] at hs; cases hs
  rintro _ _ ⟨rfl, hs, rfl⟩
  obtain ⟨j, rfl⟩ : ∃ j, m = j + 1 := by
    cases m with
    | zero =>
      cases e with
      | int i => simp only [Ex.d, isInt] at hi; cases hi
      | nm s => simp only [Ex.d, isStr] at hs; cases hs
      | _ => simp only [Ex.dep] at hd; omega
    | succ j => exact ⟨j, rfl⟩
  have hxt := A1.x
  rw [tail_d hi hs] at hxt
  have tl : (tailE e).length ≤ 3 := by cases e <;> simp [tailE]
  by_cases ha : wordE e = "at"
  · obtain ⟨t, a, rfl⟩ : ∃ t a, e = .at t a := by
      have hf := A0.fit
      have oU := opf.1
      have oB := opf.2.1
      have oK := opf.2.2
      cases e with
      | «at» t a => exact ⟨t, a, rfl⟩
      | un o a => exact absurd ha (oU _ hf.1).1
      | bin o a c => exact absurd ha (oB _ hf.1).1
      | kk o a n => exact absurd ha (oK _ hf.1)
      | ite a c d => exact absurd ha (show ¬ ("if" : Str) = "at" by decide +kernel)
      | _ => exact absurd ha (show ¬ ("" : Str) = "at" by decide +kernel)
    have hx1 : Dt M.K H1 vx (.tuple [.str "at", .str t, a.d]) := A1.x
    tm_at "go"
    refine e_tupD ?_
    tm_at "go"
    refine e_call (ih j rfl) ?_ (by show j + 15 ≤ j + 1 + 14; omega)
    tm_at "go"
    refine rx_tup hx1 (d := a.d) (pl_at (j := 2) rfl rfl) fun v2 h2 => ?_
    tm_at "go"
    refine ⟨rs, a, vc, v2, l, us, rfl, ⟨A1.R, A0.fit.2, by have := A0.dep; simp only [Ex.dep] at this; omega, A1.c, h2, A1.g, A1.d⟩, by simp only [Ex.dep] at hd; omega, fun v3 H3 s3 h3 => ?_⟩
    tm_at "go"
    refine tupend (.cons (.str _) (.cons (.str _) (.cons h3 .nil))) (Nat.le_of_ble_eq_true rfl) fun v4 H4 s4 h4 => ?_
    refine k _ _ (s1.trans (s3.trans s4)) ?_
    have : fold rs (.at t a) = .at t (fold rs a) := by simp only [fold, e0]
    rw [this]
    exact h4
  · have tf := tail_fit A0.fit ha hd
    have h4 := A0.dep
    have tf4 := tail_fit (m := 4) A0.fit ha (by omega)
    tm_at "go"
    refine rx_tup hxt (d := .str (wordE e)) (pl_at (j := 0) rfl rfl) fun v2 h2 => ?_
    cases h2
    tm_at "go"
    refine ifd (fun z => absurd z ha) (fun _ => ?_)
    tm_at "go"
    refine e_lstD ?_
    tm_at "go"
    refine rx_tup hxt (d := .str (wordE e)) (pl_at (j := 0) rfl rfl) fun v2 h2 => ?_
    cases h2
    tm_at "go"
    refine ⟨(Nat.le_of_ble_eq_true rfl), fun l3 H3 s3 n3 g3 => ?_⟩
    have A3 := A1.same s3
    have hx3 := hxt.mono (tp_same s3)
    refine e_lc (own := [("part", 4)]) (Blk.of (N := N__folded_in) (sc := defScope s__folded_in) rfl rfl (by decide +kernel)) ?_
    refine lcT_M ((tailE e).map fun p => (fold rs p).d) ?_
    tm_at "go"
    refine rsl_tup hx3 fun v5 H5 s5 h5 => ?_
    have cutD1 : ∀ (a : PyData) (l : List PyData), G.cutD (a :: l) (some 1) none = l := fun a l => by
      show ((a :: l).drop (HT.sIx (l.length + 1) 0 (some ((1 : Nat) : Int)))).take ((l.length + 1) - HT.sIx (l.length + 1) 0 (some ((1 : Nat) : Int))) = l
      rw [HT.sIx_nat, Nat.min_eq_left (by omega)]
      exact List.take_of_length_le (by simp)
    rw [cutD1] at h5
    have A5 := A3.same s5
    refine ⟨_, h5, by rw [List.length_map]; omega, by rw [List.length_map, List.length_map], fun i d e' x H' hdi hei s6 hx6 => ?_, fun p us7 H7 s7 n7 g7 h7 => ?_⟩
    · rw [List.getElem?_map] at hdi hei
      obtain ⟨q, hq, rfl⟩ := Option.map_eq_some_iff.mp hdi
      rw [hq] at hei
      cases hei
      obtain ⟨f1, f2⟩ := tf q (List.mem_of_getElem? hq)
      have A6 := A5.same s6
      refine g_name (by tm_at "at") ⟨rfl, rfl, ts_nil ⟨Same.refl _, ift ?_⟩⟩
      refine e_call (ih j rfl) ?_ (by show j + 15 ≤ j + 1 + 14; omega)
      tm_at "go"
      exact ⟨rs, q, vc, x, l, us, rfl, ⟨A6.R, f1, (tf4 q (List.mem_of_getElem? hq)).2, A6.c, hx6, A6.g, A6.d⟩, f2, fun v8 H8 s8 h8 => ⟨s8, _, rfl, h8⟩⟩
    · refine ro_cat ((s5.trans s7) _ _ g3) g7 (by have := h7.len; rw [List.length_map] at this; simp only [List.length_cons, List.length_nil]; omega) fun l9 H9 s9 n9 g9 => ?_
      tm_at "go"
      refine rc_tupL (.of g9) (ds := .str (wordE e) :: (tailE e).map fun p => (fold rs p).d) (.cons (.str _) (h7.mono (tp_same s9))) fun vA HA sA hA => ?_
      refine k _ _ (s1.trans (s3.trans (s5.trans (s7.trans (s9.trans sA))))) ?_
      rw [fold_none hi hs ha e0]
      exact hA
end K

namespace K
open PySem PySem.Spec PyProof.Rows L2 G
variable {M : Md}
def rFolded : List PyData → PyData → Prop := fun ds d => ∃ rs e, ds = [cellsD rs, e.d] ∧ RowsS rs ∧ Fit rs e ∧ e.dep ≤ 4 ∧ d = (fold rs e).d
theorem ok_folded {f fd} (F : Fun M.K "folded" "folded" s_folded f fd) (b : Bl M) (dso : Dc M "_states_of" ["cells"] 4 (spL rSof M.K)) (df : dcFold M 4) : FnG M.prog M.w M.K M.mg M.base CX0 20 f fd ["cells", "expression"] (spF rFolded M.K) := by
  refine fn_ok F sc_folded (fun vs H Q E h => ?_) (fun H vs Q E h => ?_)
  · obtain ⟨ds, d, h, ⟨rs, e, rfl, _⟩, _⟩ := h
    exact h.len
  obtain ⟨ds, d, h, ⟨rs, e, rfl, R, hf, hd, rfl⟩, k⟩ := h
  obtain _ | ⟨hc, h⟩ := h
  obtain _ | ⟨hx, h⟩ := h
  cases h
  rename_i vc vx
  tm_at "go"
  refine e_call df ?_
  tm_at "go"
  refine e_callL dso ?_
  tm_at "go"
  refine ⟨_, _, .cons hc .nil, ⟨rs, rfl, R.sm, rfl⟩, fun l us H1 s1 n1 g1 h1 => ?_⟩
  tm_at "go"
  exact ⟨rs, e, vc, vx, l, us, rfl, ⟨R, hf, hd, hc.mono (tp_same s1), hx.mono (tp_same s1), g1, h1⟩, hd, fun v H2 s2 h2 => k _ _ (s1.trans s2) h2⟩
def rSame : List PyData → PyData → Prop := fun ds d => ∃ rs e1 e2, ds = [cellsD rs, e1.d, e2.d] ∧ RowsS rs ∧ (Fit rs e1 ∧ e1.dep ≤ 4) ∧ (Fit rs e2 ∧ e2.dep ≤ 4) ∧ d = .bool (decide (vals rs e1 = vals rs e2))
def oV : Option Int → V
  | some i => .int i
  | none => .non
theorem optV {K : PySem.W.Frag} {H : Hp} {v : V} {o : Option Int} (h : Dt K H v (optD o)) : v = oV o := by
  cases o <;> cases h <;> rfl
theorem oV_eq (o p : Option Int) : decide (oV o = oV p) = decide (o = p) := by
  cases o <;> cases p <;> simp [oV]
theorem ro_neO {c : Cd} {H H1 H2 : Hp} {Q : VK} {v w : V} {o p : Option Int} (hv : Dt c.K H1 v (optD o)) (hw : Dt c.K H2 w (optD p)) (q : Q (.bl (!decide (o = p))) H) : RQ c .NotEq v w H Q := by
  rw [optV hv, optV hw]
  refine ro_ne (by cases o <;> cases p <;> rfl) ?_
  rw [oV_eq]
  exact q
set_option maxHeartbeats 1000000 in
theorem ok_same {f fd} (F : Fun M.K "are_same" "are_same" s_are_same f fd) (b : Bl M) (dso : Dc M "_states_of" ["cells"] 4 (spL rSof M.K)) (dv : dcVin M) : FnG M.prog M.w M.K M.mg M.base CX0 14 f fd ["cells", "one", "other"] (spF rSame M.K) := by
  refine fn_ok F sc_are_same (fun vs H Q E h => ?_) (fun H vs Q E h => ?_)
  · obtain ⟨ds, d, h, ⟨rs, e1, e2, rfl, _⟩, _⟩ := h
    exact h.len
  obtain ⟨ds, d, h, ⟨rs, e1, e2, rfl, R, ⟨f1, d1⟩, ⟨f2, d2⟩, rfl⟩, k⟩ := h
  obtain _ | ⟨hc, h⟩ := h
  obtain _ | ⟨hx, h⟩ := h
  obtain _ | ⟨hy, h⟩ := h
  cases h
  rename_i vc vx vy
  refine b_cut (fun σ1 H1 => Same H H1 ∧ vals rs e1 = vals rs e2 ∧ ∃ v, σ1 = [some vc, some vx, some vy, v]) ?_ ?_
  · refine s_forL ?_
    refine e_callL dso ?_
    tm_at "go"
    refine ⟨_, _, .cons hc .nil, ⟨rs, rfl, R.sm, rfl⟩, fun l us H1 s1 n1 g1 h1 => ?_⟩
    have lu := h1.len
    rw [List.length_map] at lu
    refine ⟨l, us, rfl, .of g1, fun i σ1 H2 => Same H1 H2 ∧ (∀ p ∈ (statesOf (rg rs)).take i, (ev rs p e1).1 = (ev rs p e2).1) ∧ ∃ v, σ1 = [some vc, some vx, some vy, v], ⟨Same.refl _, (fun p hp => by simp at hp), _, rfl⟩, ?_, ?_, ?_⟩
    · rintro i σ' H' _ ⟨s, _⟩
      exact .of (s _ _ g1)
    · rintro i x σ' H3 hx3 ⟨s3, hal, v, rfl⟩
      obtain ⟨d, hdi, hx'⟩ := h1.getV hx3
      rw [List.getElem?_map] at hdi
      obtain ⟨p, hp, rfl⟩ := Option.map_eq_some_iff.mp hdi
      have pm := List.mem_of_getElem? hp
      have S := st_ok R pm
      have s13 := s1.trans s3
      refine g_name (by tm_at "at") ?_
      tm_at "go"
      refine e_callF dv ?_
      tm_at "go"
      refine ⟨_, _, .cons (hc.mono (tp_same s13)) (.cons (hx'.mono (tp_same s3)) (.cons (hx.mono (tp_same s13)) .nil)), ⟨rs, p, e1, rfl, ⟨S, f1, d1, by decide⟩, rfl⟩, fun v4 H4 s4 h4 => ?_⟩
      refine e_callF dv ?_
      tm_at "go"
      refine ⟨_, _, .cons (hc.mono (tp_same (s13.trans s4))) (.cons (hx'.mono (tp_same (s3.trans s4))) (.cons (hy.mono (tp_same (s13.trans s4))) .nil)), ⟨rs, p, e2, rfl, ⟨S, f2, d2, by decide⟩, rfl⟩, fun v5 H5 s5 h5 => ?_⟩
      refine ro_neO h4 h5 ?_
      refine ⟨_, rfl, ifnd (fun c1 => ?_) (fun c1 => ?_)⟩
      · tm_at "go"
        refine k _ _ (s13.trans (s4.trans s5)) ?_
        have : ¬ vals rs e1 = vals rs e2 := fun z => c1 (by
          obtain ⟨hlt, rfl⟩ := List.getElem?_eq_some_iff.mp hp
          have z2 := congrArg (fun l => l[i]?) z
          simp only [vals, List.getElem?_map, hp, Option.map_some] at z2
          exact Option.some.inj z2)
        rw [decide_eq_false this]
        exact .bl _
      · tm_at "go"
        obtain ⟨hlt, rfl⟩ := List.getElem?_eq_some_iff.mp hp
        refine ⟨s3.trans (s4.trans s5), fun q hq => ?_, _, rfl⟩
        rw [List.take_succ_eq_append_getElem hlt] at hq
        rcases List.mem_append.mp hq with z | z
        · exact hal q z
        · rw [List.mem_singleton.mp z]; exact c1
    · rintro σ' H3 ⟨s3, hal, v, rfl⟩
      rw [lu, List.take_length] at hal
      exact ⟨s1.trans s3, List.map_congr_left hal, v, rfl⟩
  rintro _ H1 ⟨s1, hv, v, rfl⟩
  tm_at "go"
  refine k _ _ s1 ?_
  rw [decide_eq_true hv]
  exact .bl _
end K

namespace K
open PySem PySem.Spec PyProof.Rows L2 G
variable {M : Md}
/-- over a list, told place by place -/
theorem lcL_M {c : Cd} {σ : L2.St} {H : Hp} {Q : VK} {elt tg iter : Expr} {ifs : List Expr} {scope : Scope} {vs : List Nat} (es : List PyData) (q : RE c iter σ H fun x H1 => ∃ a xs ds, x = .ref a ∧ SqL c.K H1 a xs ∧ DtAll c.K H1 xs ds ∧ ds.length ≤ 1000 ∧ es.length = ds.length ∧
      (∀ (i : Nat) d e x H', ds[i]? = some d → es[i]? = some e → Same H1 H' → Dt c.K H' x d → TurnF (blkCd c scope) tg ifs elt vs σ c.K x H' (some e)) ∧ ∀ p us H2, Same H1 H2 → H1 p = none → H2 p = some (.lst us) → DtAll c.K H2 us es → Q (.ref p) H2) :
    tLc (RI c tg iter) (RG (blkCd c scope) tg) (RTs (blkCd c scope) ifs) (RE (blkCd c scope) elt) vs σ H Q := by
  refine lc_L (RE.mono (fun x H1 z => ?_) q)
  obtain ⟨a, xs, ds, rfl, ht, ha, hl, le, t, k⟩ := z
  have hle := ha.len
  refine ⟨a, xs, rfl, ht, by omega, fun D hD => ⟨fun i acc H' => acc.length ≤ i ∧ H' D = some (.lst acc) ∧ Same H1 H' ∧ DtAll c.K H' acc (es.take i), ⟨Nat.le_refl _, upd_same, same_new hD, .nil⟩, ?_, ?_, ?_⟩⟩
  · rintro i acc H' _ ⟨l, _, s, _⟩
    exact ⟨s.seq ht, l⟩
  · rintro i x acc H' hx ⟨l, h1, s, h2⟩
    obtain ⟨d, hd, hx'⟩ := ha.getV hx
    have hi : i < es.length := by rw [le]; exact (List.getElem?_eq_some_iff.mp hd).1
    have T := TurnF.one hD s h1 h2 (t i d es[i] x H' hd (List.getElem?_eq_getElem hi) s (hx'.mono (tp_same s)))
    have step : es.take i ++ (some es[i]).toList = es.take (i + 1) := (List.take_succ_eq_append_getElem hi).symm
    refine RG.mono (fun σ2 H2 z => ⟨z.1, RTs.mono (fun b H3 z => ?_) z.2⟩) T
    cases b with
    | true => exact RE.mono (fun y H4 z => ⟨z.1, by rw [List.length_append, List.length_singleton]; omega, z.2.1, z.2.2.1, by rw [← step]; exact z.2.2.2⟩) z
    | false => exact ⟨by omega, z.1, z.2.1, by rw [← step]; exact z.2.2⟩
  · rintro acc H' ⟨l, h1, s, h2⟩
    refine k D acc H' s hD h1 ?_
    rw [List.take_of_length_le (by omega)] at h2
    exact h2
def spVals (K : PySem.W.Frag) : Sp := fun vs H Q _ => ∃ rs e vc vx l us, vs = [vc, .ref l, vx] ∧ Ask K H rs e vc vx l us ∧ ∀ p ys H', Same H H' → H p = none → H' p = some (.lst ys) → DtAll K H' ys ((vals rs e).map optD) → Q (.ref p) H'
theorem ok_vals {f fd} (F : Fun M.K "_law_values" "_law_values" s__law_values f fd) (b : Bl M) (dv : dcVin M) : FnG M.prog M.w M.K M.mg M.base CX0 14 f fd ["_law_rows_here", "_law_states", "_law_term_here"] (spVals M.K) := by
  refine fn_ok F sc__law_values (fun vs H Q E h => ?_) (fun H vs Q E h => ?_)
  · obtain ⟨rs, e, vc, vx, l, us, rfl, _⟩ := h
    rfl
  obtain ⟨rs, e, vc, vx, l, us, rfl, A0, k⟩ := h
  have cnt : (statesOf (rg rs)).length ≤ 256 := by rw [states_len]; exact A0.R.sm.many
  refine b_one ?_
  refine s_ret ?_
  refine e_lc (own := [("_law_stand", 3)]) (Blk.of (N := N__law_values) (sc := defScope s__law_values) rfl rfl (by decide +kernel)) ?_
  refine lcL_M ((vals rs e).map optD) ?_
  tm_at "go"
  refine ⟨l, us, _, rfl, .of A0.g, A0.d, by rw [List.length_map]; omega, by simp [vals], fun i d e' x H' hdi hei s hx => ?_, fun p ys H2 s2 n2 g2 h2 => k p ys H2 s2 n2 g2 h2⟩
  rw [List.getElem?_map] at hdi
  obtain ⟨o, ho, rfl⟩ := Option.map_eq_some_iff.mp hdi
  rw [vals, List.getElem?_map, List.getElem?_map, ho] at hei
  cases hei
  have A1 := A0.same s
  refine g_name (by tm_at "at") ⟨rfl, rfl, ts_nil ⟨Same.refl _, ift ?_⟩⟩
  refine e_callF dv ?_
  tm_at "go"
  exact ⟨_, _, .cons A1.c (.cons hx (.cons A1.x .nil)), ⟨rs, o, e, rfl, A1.ev (List.mem_of_getElem? ho), rfl⟩, fun v4 H4 s4 h4 => ⟨s4, _, rfl, h4⟩⟩
end K

namespace K
open PySem PySem.Spec PyProof.Rows L2 G
variable {M : Md}
def subs : Ex → List Ex
  | .int i => [.int i]
  | .nm s => [.nm s]
  | .at t a => .at t a :: subs a
  | .un o a => .un o a :: subs a
  | .bin o a b => .bin o a b :: (subs a ++ subs b)
  | .kk o a n => .kk o a n :: subs a
  | .ite a b c => .ite a b c :: (subs a ++ (subs b ++ subs c))
theorem subs_eq {e : Ex} (h : isTup e.d = true) : subs e = e :: (prts e).flatMap subs := by
  cases e <;> first | (simp only [Ex.d, isTup] at h; cases h; done) | simp [subs, prts]
theorem subs_leaf {e : Ex} (h : isTup e.d = false) : subs e = [e] := by
  cases e <;> first | rfl | (simp only [Ex.d, isTup] at h; cases h; done)
theorem subs_len : ∀ e : Ex, (subs e).length ≤ 4 ^ (e.dep + 1)
  | .int _ => by simp [subs, Ex.dep]
  | .nm _ => by simp [subs, Ex.dep]
  | .at t e => by
    have := subs_len e
    have p : 1 ≤ 4 ^ (e.dep + 1) := Nat.one_le_pow _ _ (by decide)
    simp only [subs, Ex.dep, List.length_cons]
    rw [Nat.pow_succ]
    omega
  | .un _ e => by
    have := subs_len e
    have p : 1 ≤ 4 ^ (e.dep + 1) := Nat.one_le_pow _ _ (by decide)
    simp only [subs, Ex.dep, List.length_cons]
    rw [Nat.pow_succ]
    omega
  | .bin _ a b => by
    have h1 := subs_len a
    have h2 := subs_len b
    have m1 := Nat.pow_le_pow_right (n := 4) (by decide) (Nat.succ_le_succ (Nat.le_max_left a.dep b.dep))
    have m2 := Nat.pow_le_pow_right (n := 4) (by decide) (Nat.succ_le_succ (Nat.le_max_right a.dep b.dep))
    have p : 1 ≤ 4 ^ (max a.dep b.dep + 1) := Nat.one_le_pow _ _ (by decide)
    simp only [subs, Ex.dep, List.length_cons, List.length_append]
    rw [Nat.pow_succ]
    simp only [Nat.succ_eq_add_one] at m1 m2
    omega
  | .kk _ e _ => by
    have := subs_len e
    have p : 1 ≤ 4 ^ (e.dep + 1) := Nat.one_le_pow _ _ (by decide)
    simp only [subs, Ex.dep, List.length_cons]
    rw [Nat.pow_succ]
    omega
  | .ite a b e => by
    have h1 := subs_len a
    have h2 := subs_len b
    have h3 := subs_len e
    have m1 := Nat.pow_le_pow_right (n := 4) (by decide) (Nat.succ_le_succ (Nat.le_max_left a.dep (max b.dep e.dep)))
    have m2 := Nat.pow_le_pow_right (n := 4) (by decide) (Nat.succ_le_succ (Nat.le_trans (Nat.le_max_left b.dep e.dep) (Nat.le_max_right a.dep (max b.dep e.dep))))
    have m3 := Nat.pow_le_pow_right (n := 4) (by decide) (Nat.succ_le_succ (Nat.le_trans (Nat.le_max_right b.dep e.dep) (Nat.le_max_right a.dep (max b.dep e.dep))))
    have p : 1 ≤ 4 ^ (max a.dep (max b.dep e.dep) + 1) := Nat.one_le_pow _ _ (by decide)
    simp only [subs, Ex.dep, List.length_cons, List.length_append]
    rw [Nat.pow_succ]
    simp only [Nat.succ_eq_add_one] at m1 m2 m3
    omega
theorem subs_mem {rs : List Row} : ∀ (e : Ex), Fit rs e → ∀ p ∈ subs e, Fit rs p ∧ p.dep ≤ e.dep
  | .int _, h, p, hp => by rw [List.mem_singleton.mp hp]; exact ⟨h, Nat.le_refl _⟩
  | .nm _, h, p, hp => by rw [List.mem_singleton.mp hp]; exact ⟨h, Nat.le_refl _⟩
  | .at t e, h, p, hp => by
    rcases List.mem_cons.mp hp with rfl | hp
    · exact ⟨h, Nat.le_refl _⟩
    · obtain ⟨a, b⟩ := subs_mem e h.2 p hp
      exact ⟨a, by simp only [Ex.dep]; omega⟩
  | .un _ e, h, p, hp => by
    rcases List.mem_cons.mp hp with rfl | hp
    · exact ⟨h, Nat.le_refl _⟩
    · obtain ⟨a, b⟩ := subs_mem e h.2 p hp
      exact ⟨a, by simp only [Ex.dep]; omega⟩
  | .bin _ a b, h, p, hp => by
    rcases List.mem_cons.mp hp with rfl | hp
    · exact ⟨h, Nat.le_refl _⟩
    rcases List.mem_append.mp hp with hp | hp
    · obtain ⟨x, y⟩ := subs_mem a h.2.1 p hp
      exact ⟨x, by simp only [Ex.dep]; omega⟩
    · obtain ⟨x, y⟩ := subs_mem b h.2.2 p hp
      exact ⟨x, by simp only [Ex.dep]; omega⟩
  | .kk _ e _, h, p, hp => by
    rcases List.mem_cons.mp hp with rfl | hp
    · exact ⟨h, Nat.le_refl _⟩
    · obtain ⟨a, b⟩ := subs_mem e h.2.1 p hp
      exact ⟨a, by simp only [Ex.dep]; omega⟩
  | .ite a b e, h, p, hp => by
    rcases List.mem_cons.mp hp with rfl | hp
    · exact ⟨h, Nat.le_refl _⟩
    rcases List.mem_append.mp hp with hp | hp
    · obtain ⟨x, y⟩ := subs_mem a h.1 p hp
      exact ⟨x, by simp only [Ex.dep]; omega⟩
    rcases List.mem_append.mp hp with hp | hp
    · obtain ⟨x, y⟩ := subs_mem b h.2.1 p hp
      exact ⟨x, by simp only [Ex.dep]; omega⟩
    · obtain ⟨x, y⟩ := subs_mem e h.2.2 p hp
      exact ⟨x, by simp only [Ex.dep]; omega⟩
end K

namespace K
open PySem PySem.Spec PyProof.Rows L2 G
variable {M : Md}
theorem subs_small {rs : List Row} {e : Ex} {n : Nat} (h : GoodE rs e n) (hn : n ≤ 4) : (subs e).length ≤ 1024 := by
  have h1 := subs_len e
  have h2 := Nat.pow_le_pow_right (n := 4) (by decide) (show e.dep + 1 ≤ 5 by have := h.dep; omega)
  have h3 : 4 ^ 5 = 1024 := by decide
  omega
theorem flat_subs {rs : List Row} {n : Nat} (hn : n ≤ 4) : ∀ {ps : List Ex}, (∀ p ∈ ps, GoodE rs p n) → (ps.flatMap subs).length ≤ ps.length * 1024
  | [], _ => by simp
  | p :: ps, h => by
    have h1 := subs_small (h p (List.mem_cons_self ..)) hn
    have h2 := flat_subs hn fun q hq => h q (List.mem_cons_of_mem _ hq)
    rw [List.flatMap_cons, List.length_append, List.length_cons, Nat.succ_mul]
    omega
def rSubs (n : Nat) : List PyData → List PyData → Prop := fun ds es => ∃ rs e, ds = [e.d] ∧ GoodE rs e n ∧ es = (subs e).map Ex.d
abbrev dcSubs (M : Md) (n : Nat) : Prop := Dc M "_law_subterms" ["_law_term_here"] (n + 1) (spL (rSubs n) M.K)
set_option maxHeartbeats 1000000 in
theorem ok_subs (n : Nat) (hn : n ≤ 4) {f fd} (F : Fun M.K "_law_subterms" "_law_subterms" s__law_subterms f fd) (b : Bl M) (ih : ∀ m, n = m + 1 → dcSubs M m) :
    FnG M.prog M.w M.K M.mg M.base CX0 (n + 1) f fd ["_law_term_here"] (spL (rSubs n) M.K) := by
  refine fn_ok F sc__law_subterms (fun vs H Q E h => ?_) (fun H vs Q E h => ?_)
  · obtain ⟨ds, d, h, ⟨rs, e, rfl, _⟩, _⟩ := h
    exact h.len
  obtain ⟨ds, d, h, ⟨rs, e, rfl, G0, rfl⟩, k⟩ := h
  obtain _ | ⟨hx, h⟩ := h
  cases h
  rename_i vx
  refine b_cut (fun σ1 H1 => H = H1 ∧ isTup e.d = true ∧ σ1 = [some vx, none, none, none]) ?_ ?_
  · tm_at "go"
    refine t_val ?_
    tm_at "go"
    refine rc_isTup hx ?_
    refine ⟨_, rfl, ?_⟩
    cases ht : isTup e.d with
    | true =>
      refine iff0 ?_
      tm_at "go"
      exact ⟨rfl, rfl, rfl⟩
    | false =>
      refine ift ?_
      tm_at "go"
      refine e_lstD ?_
      tm_at "go"
      refine ⟨(Nat.le_of_ble_eq_true rfl), fun l H2 s2 n2 g2 => ?_⟩
      refine k _ _ _ s2 n2 g2 ?_
      rw [subs_leaf ht]
      exact .cons (hx.mono (tp_same s2)) .nil
  rintro _ _ ⟨rfl, ht, rfl⟩
  refine b_cut (fun σ1 H1 => ∃ l us, σ1 = [some vx, some (.ref l), none, none] ∧ Same H H1 ∧ H l = none ∧ H1 l = some (.lst us) ∧ DtAll M.K H1 us [e.d]) ?_ ?_
  · refine s_set (by tm_at "at") ?_
    refine e_lstD (a_cons (e_var (by tm_at "at") (a_nil ⟨(Nat.le_of_ble_eq_true rfl), fun l H1 s1 n1 g1 => ?_⟩)))
    exact ⟨l, _, rfl, s1, n1, g1, .cons (hx.mono (tp_same s1)) .nil⟩
  rintro _ H1 ⟨l1, u1, rfl, s1, n1, g1, h1⟩
  have hx1 := hx.mono (tp_same s1)
  have hf := G0.fit
  obtain ⟨oU, oB, oK⟩ := opf
  have hi : isInt e.d = false := by cases e <;> first | rfl | (simp only [Ex.d, isTup] at ht; cases ht)
  have hs : isStr e.d = false := by cases e <;> first | rfl | (simp only [Ex.d, isTup] at ht; cases ht)
  have hxt := hx1
  rw [tail_d hi hs] at hxt
  have cutD1 : ∀ (a : PyData) (l : List PyData), G.cutD (a :: l) (some 1) none = l := fun a l => by
    show ((a :: l).drop (HT.sIx (l.length + 1) 0 (some ((1 : Nat) : Int)))).take ((l.length + 1) - HT.sIx (l.length + 1) 0 (some ((1 : Nat) : Int))) = l
    rw [HT.sIx_nat, Nat.min_eq_left (by omega)]
    exact List.take_of_length_le (by simp)
  have cutD2 : ∀ (a c : PyData) (l : List PyData), G.cutD (a :: c :: l) (some 2) none = l := fun a c l => by
    show ((a :: c :: l).drop (HT.sIx (l.length + 2) 0 (some ((2 : Nat) : Int)))).take ((l.length + 2) - HT.sIx (l.length + 2) 0 (some ((2 : Nat) : Int))) = l
    rw [HT.sIx_nat, Nat.min_eq_left (by omega)]
    exact List.take_of_length_le (by simp)
  have cut12 : ∀ (a c : PyData) (l : List PyData), G.cutD (a :: c :: l) (some 1) (some 2) = [c] := fun a c l => by
    show ((a :: c :: l).drop (HT.sIx (l.length + 2) 0 (some ((1 : Nat) : Int)))).take (HT.sIx (l.length + 2) (l.length + 2) (some ((2 : Nat) : Int)) - HT.sIx (l.length + 2) 0 (some ((1 : Nat) : Int))) = [c]
    rw [HT.sIx_nat, HT.sIx_nat, Nat.min_eq_left (by omega), Nat.min_eq_left (by omega)]
    rfl
  refine b_cut (fun σ1 H2 => ∃ vp, Same H1 H2 ∧ (wordE e ≠ "at" → Dt M.K H2 vp (.tuple ((prts e).map Ex.d))) ∧ σ1 = [some vx, some (.ref l1), some vp, none]) ?_ ?_
  · tm_at "go"
    refine rx_tup hxt (d := .str (wordE e)) (pl_at (j := 0) rfl rfl) fun v2 h2 => ?_
    cases h2
    refine e_tupD ?_
    tm_at "go"
    refine tupend (.cons (.str _) (.cons (.str _) .nil)) (Nat.le_of_ble_eq_true rfl) fun v3 H3 s3 h3 => ?_
    refine ro_inST (ws := kks) h3 ?_
    refine ⟨_, rfl, ifd (fun c1 => ?_) (fun c1 => ?_)⟩
    · tm_at "go"
      refine rsl_tup (hxt.mono (tp_same s3)) fun v4 H4 s4 h4 => ?_
      refine ⟨v4, s3.trans s4, fun _ => ?_, rfl⟩
      cases e with
      | kk o a n => rw [show (tailE (.kk o a n)).map Ex.d = [a.d, .int n] from rfl, cut12] at h4; exact h4
      | un o a => exact absurd c1 (oU _ hf.1).2.1
      | bin o a c => exact absurd c1 (oB _ hf.1).2.1
      | «at» t a => exact absurd c1 (show ¬ ("at" : Str) ∈ kks by decide +kernel)
      | ite a c d => exact absurd c1 (show ¬ ("if" : Str) ∈ kks by decide +kernel)
      | _ => simp only [Ex.d, isTup] at ht; cases ht
    · tm_at "go"
      refine rsl_tup (hxt.mono (tp_same s3)) fun v4 H4 s4 h4 => ?_
      refine ⟨v4, s3.trans s4, fun ha => ?_, rfl⟩
      rw [cutD1] at h4
      cases e with
      | kk o a n => exact absurd hf.1 c1
      | «at» t a => exact absurd rfl ha
      | un o a => exact h4
      | bin o a c => exact h4
      | ite a c d => exact h4
      | _ => simp only [Ex.d, isTup] at ht; cases ht
  rintro _ H2 ⟨vp, s2, hp, rfl⟩
  have s12 := s1.trans s2
  refine b_cut (fun σ1 H3 => ∃ l us v2, σ1 = [some vx, some (.ref l), some vp, v2] ∧ Same H H3 ∧ H l = none ∧ H3 l = some (.lst us) ∧ DtAll M.K H3 us ((subs e).map Ex.d)) ?_ ?_
  · refine s_forT ?_
    have hxt2 := hxt.mono (tp_same s2)
    refine RE.mono (Q := fun v H3 => Same H2 H3 ∧ Dt M.K H3 v (.tuple ((prts e).map Ex.d))) (fun v H3 z => ?_) ?_
    · obtain ⟨s3, hv⟩ := z
      obtain ⟨a, xs, rfl, ht3, hd⟩ := hv.tupE
      have lx := hd.len
      rw [List.length_map] at lx
      have g2 := s2 _ _ g1
      refine ⟨a, xs, rfl, ht3, fun i σ1 H4 => ∃ l us v2, σ1 = [some vx, some (.ref l), some vp, v2] ∧ Same H3 H4 ∧ H l = none ∧ H4 l = some (.lst us) ∧ DtAll M.K H4 us ((e :: ((prts e).take i).flatMap subs).map Ex.d), ⟨l1, u1, none, rfl, Same.refl _, n1, s3 _ _ g2, h1.mono (tp_same (s2.trans s3))⟩, ?_, ?_, ?_⟩
      · rintro i σ' H' _ ⟨_, _, _, _, s, _⟩
        exact (tp_same s).sqt ht3
      · rintro i x σ' H4 hxi ⟨l, us, v2, rfl, s4, n4, g4, h4⟩
        obtain ⟨d, hdi, hx'⟩ := hd.getV hxi
        rw [List.getElem?_map] at hdi
        obtain ⟨p, hpi, rfl⟩ := Option.map_eq_some_iff.mp hdi
        have pm := List.mem_of_getElem? hpi
        obtain ⟨m, rfl⟩ : ∃ m, n = m + 1 := by
          have := G0.dep
          cases n with
          | zero =>
            cases e <;> first | (cases pm; done) | (simp only [Ex.dep] at this; omega)
          | succ m => exact ⟨m, rfl⟩
        refine g_name (by tm_at "at") ?_
        tm_at "go"
        refine e_callL (ih m rfl) ?_ (Nat.le_refl _)
        tm_at "go"
        refine ⟨_, _, .cons (hx'.mono (tp_same s4)) .nil, ⟨rs, p, rfl, G0.part p pm, rfl⟩, fun l5 u5 H5 s5 n5 g5' h5 => ?_⟩
        have lu := h4.len
        have lu5 := h5.len
        have c1 := subs_small (G0.part p pm) (by omega)
        have c2 := flat_subs (n := m) (by omega) (ps := (prts e).take i) fun q hq => G0.part q (List.mem_of_mem_take hq)
        have c3 := prts_len e
        rw [List.length_map, List.length_cons] at lu
        rw [List.length_map] at lu5
        rw [List.length_take] at c2
        have c5 : min i (prts e).length * 1024 ≤ 3 * 1024 := Nat.mul_le_mul_right _ (by omega)
        refine ro_cat (s5 _ _ g4) g5' (by omega) fun l6 H6 s6 n6 g6 => ?_
        refine ⟨l6, _, _, rfl, s4.trans (s5.trans s6), same_none (s12.trans (s3.trans (s4.trans s5))) n6, g6, ?_⟩
        obtain ⟨hlt, rfl⟩ := List.getElem?_eq_some_iff.mp hpi
        rw [List.take_succ_eq_append_getElem hlt, List.flatMap_append, ← List.cons_append, List.map_append]
        refine (h4.mono (tp_same (s5.trans s6))).app ?_
        simpa using h5.mono (tp_same s6)
      · rintro σ' H4 ⟨l, us, v2, rfl, s4, n4, g4, h4⟩
        rw [lx, List.take_length, ← subs_eq ht] at h4
        exact ⟨l, us, v2, rfl, s12.trans (s3.trans s4), n4, g4, h4⟩
    · tm_at "go"
      refine rx_tup hxt2 (d := .str (wordE e)) (pl_at (j := 0) rfl rfl) fun v2 h2 => ?_
      cases h2
      tm_at "go"
      refine ifd (fun ha => ?_) (fun ha => ?_)
      · tm_at "go"
        refine rsl_tup hxt2 fun v4 H4 s4 h4 => ?_
        refine ⟨s4, ?_⟩
        cases e with
        | «at» t a => rw [show (tailE (.at t a)).map Ex.d = [.str t, a.d] from rfl, cutD2] at h4; exact h4
        | un o a => exact absurd ha (oU _ hf.1).1
        | bin o a c => exact absurd ha (oB _ hf.1).1
        | kk o a n => exact absurd ha (oK _ hf.1)
        | ite a c d => exact absurd ha (show ¬ ("if" : Str) = "at" by decide +kernel)
        | _ => simp only [Ex.d, isTup] at ht; cases ht
      · tm_at "go"
        exact ⟨Same.refl _, hp ha⟩
  rintro _ H3 ⟨l3, u3, v2, rfl, s3, n3, g3, h3⟩
  tm_at "go"
  exact k _ _ _ s3 n3 g3 h3
end K

namespace K
open PySem PySem.Spec PyProof.Rows L2 G
variable {M : Md}
def spSrc (K : PySem.W.Frag) : Sp := fun vs H Q _ => ∃ (sl : Addr) (ns : List Int), vs = [.ref sl] ∧ SqL K H sl (ns.map V.int) ∧ ∀ p cl H', Same H H' → H p = none → H cl = none → Feed K H' p cl 0 → Q (.ref p) H'
theorem ok_src {f fd} (F : Fun M.K "_law_source" "_law_source" s__law_source f fd) (b : Bl M) : FnG M.prog M.w M.K M.mg M.base CX0 1 f fd ["_law_script"] (spSrc M.K) := by
  refine fn_ok F sc__law_source (fun vs H Q E h => ?_) (fun H vs Q E h => ?_)
  · obtain ⟨sl, ns, rfl, _⟩ := h
    rfl
  obtain ⟨sl, ns, rfl, hs, k⟩ := h
  tm_at "go"
  refine e_disp (fun X h => pps_cons (pe_re h) (pe_re h) (pps_cons (pe_re h) (pe_re h) (pps_cons (pe_re h) (pe_re h) (pps_cons (pe_re h) (pe_re h) pps_nil)))) rfl rfl (by intro e; cases e) (by decide) ?_
  intro p hp
  simp only [tPairs]
  have s0 := same_new (o := .dK []) hp
  tm_at "go"
  refine rsl_list (s0.seq hs) fun l1 H1 s1 n1 g1 => ?_
  tm_at "go"
  have gp : H1 p = some (.dK []) := s1 _ _ upd_same
  have np : p ≠ l1 := by
    rintro rfl
    rw [upd_same] at n1
    cases n1
  rw [show cutV (ns.map V.int) none (some 63) = (G.cutD ns none (some 63)).map V.int from by simp only [cutV, G.cutD, List.length_map, List.map_take, List.map_drop]] at g1
  have hl : (G.cutD ns none (some 63)).length ≤ 63 := by
    show ((ns.drop 0).take (HT.sIx ns.length ns.length (some ((63 : Nat) : Int)) - 0)).length ≤ 63
    rw [HT.sIx_nat, List.length_take]
    omega
  refine ⟨gp, fkv (.ref l1) 0 0 0, rfl, by rw [fkv_len]; decide, ?_⟩
  rw [show mergeK [] (fkv (.ref l1) 0 0 0) = fkv (.ref l1) 0 0 0 by rfl]
  refine k p l1 _ (same_mut (s0.trans s1) hp) hp (same_none s0 n1) ⟨_, 0, 0, 0, upd_same, ?_, hl, Int.le_refl _, Int.le_refl _⟩
  rw [upd_ne (fun e => np e.symm)]
  exact g1
theorem only_all {rs : List Row} {e : Ex} {v : Int} (h : only rs e = some v) : ∀ o ∈ statesOf (rg rs), (ev rs o e).1 = some v := by
  intro o ho
  have hm : ∀ e : Ex, (ev rs o e).1 ∈ vals rs e := fun e => List.mem_map.mpr ⟨o, ho, rfl⟩
  cases e with
  | int i => simp only [only] at h; cases h; rfl
  | _ =>
    simp only [only] at h
    split at h
    · rename_i w r hv
      split at h
      · rename_i hal
        cases h
        have hm2 := hv ▸ hm _
        rcases List.mem_cons.mp hm2 with z | z
        · exact z
        · simpa using List.all_eq_true.mp hal _ z
      · cases h
    · cases h
theorem thn1_fst (r : Res) (g : Int → Res) : (thn1 r g).1 = r.1.bind fun v => (g v).1 := by
  unfold thn1
  cases r.1 <;> rfl
theorem keyed_fst (rs : List Row) (t : Str) {r r' : Res} (h : r.1 = r'.1) : (keyed rs t r).1 = (keyed rs t r').1 := by
  unfold keyed
  rw [h]
  cases r'.1 <;> rfl
/-- folding keeps the values -/
theorem ev_fold {rs : List Row} {o : St1} (ho : o ∈ statesOf (rg rs)) : ∀ e : Ex, (ev rs o (fold rs e)).1 = (ev rs o e).1
  | .int i => rfl
  | .nm s => by
    simp only [fold]
    cases hon : only rs (.nm s) with
    | some v => exact (only_all hon o ho).symm
    | none => rfl
  | .at t a => by
    have ih := ev_fold ho a
    simp only [fold]
    cases hon : only rs (.at t a) with
    | some v => exact (only_all hon o ho).symm
    | none => simp only [ev, thn1_fst, keyed_fst rs t ih]
  | .un op a => by
    have ih := ev_fold ho a
    simp only [fold]
    cases hon : only rs (.un op a) with
    | some v => exact (only_all hon o ho).symm
    | none => simp only [ev, thn1_fst, ih]
  | .bin op a b => by
    have ih := ev_fold ho a
    have ih2 := ev_fold ho b
    simp only [fold]
    cases hon : only rs (.bin op a b) with
    | some v => exact (only_all hon o ho).symm
    | none =>
      simp only [ev]
      split
      · simp only [thn1_fst, ih]
        congr 1
        funext v
        split
        · rfl
        · simp only [thn1_fst, ih2]
      · simp only [thn1_fst, ih, ih2]
  | .kk op a n => by
    have ih := ev_fold ho a
    simp only [fold]
    cases hon : only rs (.kk op a n) with
    | some v => exact (only_all hon o ho).symm
    | none => simp only [ev, thn1_fst, ih]
  | .ite a b c => by
    have ih := ev_fold ho a
    have ih2 := ev_fold ho b
    have ih3 := ev_fold ho c
    simp only [fold]
    cases hon : only rs (.ite a b c) with
    | some v => exact (only_all hon o ho).symm
    | none =>
      simp only [ev, thn1_fst, ih]
      congr 1
      funext v
      split
      · exact ih2
      · exact ih3
theorem vals_fold (rs : List Row) (e : Ex) : vals rs (fold rs e) = vals rs e := List.map_congr_left fun o ho => ev_fold ho e
theorem dep_fold (rs : List Row) : ∀ e : Ex, (fold rs e).dep ≤ e.dep
  | .int i => Nat.le_refl _
  | .nm s => by
    simp only [fold]
    cases only rs (.nm s) <;> exact Nat.zero_le _
  | .at t a => by
    have := dep_fold rs a
    simp only [fold]
    cases only rs (.at t a) <;> simp only [Ex.dep] <;> omega
  | .un op a => by
    have := dep_fold rs a
    simp only [fold]
    cases only rs (.un op a) <;> simp only [Ex.dep] <;> omega
  | .bin op a b => by
    have := dep_fold rs a
    have := dep_fold rs b
    simp only [fold]
    cases only rs (.bin op a b) <;> simp only [Ex.dep] <;> omega
  | .kk op a n => by
    have := dep_fold rs a
    simp only [fold]
    cases only rs (.kk op a n) <;> simp only [Ex.dep] <;> omega
  | .ite a b c => by
    have := dep_fold rs a
    have := dep_fold rs b
    have := dep_fold rs c
    simp only [fold]
    cases only rs (.ite a b c) <;> simp only [Ex.dep] <;> omega
end K

namespace K
open PySem PySem.Spec PyProof.Rows L2 G
def onlyV : List (Option Int) → Option Int
  | some v :: r => if r.all (fun x => x == some v) then some v else none
  | _ => none
theorem only_V {rs : List Row} {e : Ex} (h : isInt e.d = false) : only rs e = onlyV (vals rs e) := by
  cases e with
  | int i => simp only [Ex.d, isInt] at h; cases h
  | _ =>
    simp only [only]
    unfold onlyV
    rfl
theorem only_fold {rs : List Row} {e : Ex} (h : isInt (fold rs e).d = false) (h2 : isInt e.d = false) : only rs (fold rs e) = only rs e := by
  rw [only_V h, only_V h2, vals_fold]
/-- no part of a folded expression but a number has one value -/
theorem fold_done (rs : List Row) : ∀ e : Ex, ∀ p ∈ subs (fold rs e), isInt p.d = true ∨ only rs p = none
  | .int i, p, hp => by rw [List.mem_singleton.mp hp]; exact .inl rfl
  | .nm s, p, hp => by
    cases hon : only rs (.nm s) with
    | some v =>
      rw [fold_some hon] at hp
      rw [List.mem_singleton.mp hp]; exact .inl rfl
    | none =>
      simp only [fold, hon] at hp
      rw [List.mem_singleton.mp hp]; exact .inr hon
  | .at t a, p, hp => by
    cases hon : only rs (.at t a) with
    | some v =>
      rw [fold_some hon] at hp
      rw [List.mem_singleton.mp hp]; exact .inl rfl
    | none =>
      have e : fold rs (.at t a) = .at t (fold rs a) := by simp only [fold, hon]
      have on2 := only_fold (rs := rs) (e := .at t a) (by rw [e]; rfl) rfl
      rw [e] at hp on2
      rcases List.mem_cons.mp hp with rfl | hp
      · exact .inr (on2.trans hon)
      · exact fold_done rs a p hp
  | .un op a, p, hp => by
    cases hon : only rs (.un op a) with
    | some v =>
      rw [fold_some hon] at hp
      rw [List.mem_singleton.mp hp]; exact .inl rfl
    | none =>
      have e : fold rs (.un op a) = .un op (fold rs a) := by simp only [fold, hon]
      have on2 := only_fold (rs := rs) (e := .un op a) (by rw [e]; rfl) rfl
      rw [e] at hp on2
      rcases List.mem_cons.mp hp with rfl | hp
      · exact .inr (on2.trans hon)
      · exact fold_done rs a p hp
  | .bin op a b, p, hp => by
    cases hon : only rs (.bin op a b) with
    | some v =>
      rw [fold_some hon] at hp
      rw [List.mem_singleton.mp hp]; exact .inl rfl
    | none =>
      have e : fold rs (.bin op a b) = .bin op (fold rs a) (fold rs b) := by simp only [fold, hon]
      have on2 := only_fold (rs := rs) (e := .bin op a b) (by rw [e]; rfl) rfl
      rw [e] at hp on2
      rcases List.mem_cons.mp hp with rfl | hp
      · exact .inr (on2.trans hon)
      rcases List.mem_append.mp hp with hp | hp
      · exact fold_done rs a p hp
      · exact fold_done rs b p hp
  | .kk op a n, p, hp => by
    cases hon : only rs (.kk op a n) with
    | some v =>
      rw [fold_some hon] at hp
      rw [List.mem_singleton.mp hp]; exact .inl rfl
    | none =>
      have e : fold rs (.kk op a n) = .kk op (fold rs a) n := by simp only [fold, hon]
      have on2 := only_fold (rs := rs) (e := .kk op a n) (by rw [e]; rfl) rfl
      rw [e] at hp on2
      rcases List.mem_cons.mp hp with rfl | hp
      · exact .inr (on2.trans hon)
      · exact fold_done rs a p hp
  | .ite a b c, p, hp => by
    cases hon : only rs (.ite a b c) with
    | some v =>
      rw [fold_some hon] at hp
      rw [List.mem_singleton.mp hp]; exact .inl rfl
    | none =>
      have e : fold rs (.ite a b c) = .ite (fold rs a) (fold rs b) (fold rs c) := by simp only [fold, hon]
      have on2 := only_fold (rs := rs) (e := .ite a b c) (by rw [e]; rfl) rfl
      rw [e] at hp on2
      rcases List.mem_cons.mp hp with rfl | hp
      · exact .inr (on2.trans hon)
      rcases List.mem_append.mp hp with hp | hp
      · exact fold_done rs a p hp
      rcases List.mem_append.mp hp with hp | hp
      · exact fold_done rs b p hp
      · exact fold_done rs c p hp
/-- numbers of a part that are small stay small in what folds it -/
theorem fit_fold {rs : List Row} (small : Int → Prop) (hs : ∀ i, small i → -1000000 ≤ i ∧ i ≤ 1000000) : ∀ e : Ex, Fit rs e → (∀ p ∈ subs e, ∀ v, only rs p = some v → small v) → Fit rs (fold rs e)
  | .int i, h, _ => h
  | .nm s, h, hb => by
    simp only [fold]
    cases hon : only rs (.nm s) with
    | some v => exact hs v (hb _ (List.mem_singleton.mpr rfl) v hon)
    | none => exact h
  | .at t a, h, hb => by
    have ih := fit_fold small hs a h.2 fun p hp => hb p (List.mem_cons_of_mem _ hp)
    simp only [fold]
    cases hon : only rs (.at t a) with
    | some v => exact hs v (hb _ (List.mem_cons_self ..) v hon)
    | none => exact ⟨h.1, ih⟩
  | .un op a, h, hb => by
    have ih := fit_fold small hs a h.2 fun p hp => hb p (List.mem_cons_of_mem _ hp)
    simp only [fold]
    cases hon : only rs (.un op a) with
    | some v => exact hs v (hb _ (List.mem_cons_self ..) v hon)
    | none => exact ⟨h.1, ih⟩
  | .bin op a b, h, hb => by
    have ih := fit_fold small hs a h.2.1 fun p hp => hb p (List.mem_cons_of_mem _ (List.mem_append_left _ hp))
    have ih2 := fit_fold small hs b h.2.2 fun p hp => hb p (List.mem_cons_of_mem _ (List.mem_append_right _ hp))
    simp only [fold]
    cases hon : only rs (.bin op a b) with
    | some v => exact hs v (hb _ (List.mem_cons_self ..) v hon)
    | none => exact ⟨h.1, ih, ih2⟩
  | .kk op a n, h, hb => by
    have ih := fit_fold small hs a h.2.1 fun p hp => hb p (List.mem_cons_of_mem _ hp)
    simp only [fold]
    cases hon : only rs (.kk op a n) with
    | some v => exact hs v (hb _ (List.mem_cons_self ..) v hon)
    | none => exact ⟨h.1, ih, h.2.2⟩
  | .ite a b c, h, hb => by
    have ih := fit_fold small hs a h.1 fun p hp => hb p (List.mem_cons_of_mem _ (List.mem_append_left _ hp))
    have ih2 := fit_fold small hs b h.2.1 fun p hp => hb p (List.mem_cons_of_mem _ (List.mem_append_right _ (List.mem_append_left _ hp)))
    have ih3 := fit_fold small hs c h.2.2 fun p hp => hb p (List.mem_cons_of_mem _ (List.mem_append_right _ (List.mem_append_right _ hp)))
    simp only [fold]
    cases hon : only rs (.ite a b c) with
    | some v => exact hs v (hb _ (List.mem_cons_self ..) v hon)
    | none => exact ⟨ih, ih2, ih3⟩
end K

namespace K
open PySem PySem.Spec PyProof.Rows L2 G
variable {M : Md}
def tLenSetA (K : PySem.W.Frag) (ta : TE) : TE := fun σ H Q => ta σ H fun x H1 => ∃ (l : Addr) (ns : List Int), x = .ref l ∧ SqL K H1 l (ns.map V.int) ∧ ns.length ≤ 4000 ∧ Q (.int ((firsts ns).length : Nat)) H1
theorem met_firsts (ns : List Int) : firstMet (fun i => ns.getD i 0) ns.length = firsts ns := by
  have e : (List.range ns.length).map (fun i => ns.getD i 0) = ns := by
    apply List.ext_getElem
    · simp
    · intro i h1 h2
      simp [List.getD_eq_getElem?_getD, List.getElem?_eq_getElem h2]
  have e2 : (fun (seen : List Int) (j : Int) => if j ∈ seen then seen else seen ++ [j]) = step_dedup := by
    funext seen j
    unfold step_dedup
    by_cases h : j ∈ seen
    · rw [if_pos h, if_pos (by simpa [List.any_eq_true] using h)]
    · rw [if_neg h, if_neg (by simpa [List.any_eq_true] using h)]
  unfold firstMet firsts
  rw [e, e2]
theorem pe_lenSetA {X : Cx} {a : Expr} {ta : TE} {p p2 q pos : Pos} (hc : X.calm = true) (hg : Gl X "len") (hm : X.mg "len" = none) (hg2 : Gl X "set") (hm2 : X.mg "set" = none) (ha : PE X a ta)
    (na : starEach [a] X.env = (false, eval a X.env) :: starEach [] X.env := by rfl) : PE X (.Call (.Name "len" p) [.Call (.Name "set" p2) [a] [] q] [] pos) (tLenSetA X.K ta) := by
  constructor
  intro ps s0 σ H Q J w
  apply Call_ (ld_blt J hg hm boot_len _)
  apply PyProof.Rows.callWith_builtin1 (PyProof.Rows.args_cons _ rfl) rfl rfl
  apply Call_ (ld_blt J hg2 hm2 boot_set _)
  apply PyProof.Rows.callWith_type1 (PyProof.Rows.args_cons (thn (ha.run ps s0 σ H _ J w) _) na) na rfl
  rintro u t0 ⟨x, H1, J1, ru, l, ns, rfl, isL, few, k⟩
  cases ru
  apply PyProof.Rows.args_nil
  obtain ⟨ws, rw0, plain, _⟩ := J1.list isL
  have size : ws.toArray.size = ns.length := by rw [List.size_toArray, ← rw0.length, List.length_map]
  refine call_set_list (J1.ok.hd hc) plain.isList (by simpa using RZ.intsAre_vals rw0) (by rw [size]; unfold scanBound; omega) fun hp tk isS keep => ?_
  rw [size, met_firsts] at isS
  have few2 := firsts_len ns
  obtain ⟨ob, es, ep, tt, a1, a2, a3, -, -, -, a4, a5⟩ := isS
  apply PyProof.Rows.args_nil
  exact call_len_set a1 a2 a3 a4 (by rw [a5] <;> omega) ⟨.int (firsts ns).length, H1, (J1.kept (fun b o e => keep b o (Heap.lt_size e)  e)).tok _, ⟨_, by rw [a5]⟩, k⟩
theorem e_lenSet {c : Cd} {σ : L2.St} {H : Hp} {Q : VK} {a : Expr} {p p2 q pos : Pos} (b : Bl c.toMd) (w : RE c a σ H fun x H1 => ∃ (l : Addr) (ns : List Int), x = .ref l ∧ SqL c.K H1 l (ns.map V.int) ∧ ns.length ≤ 4000 ∧ Q (.int ((firsts ns).length : Nat)) H1)
    (hg : c.sc.names.lookup ("len" : Str) = some .globalImplicit := by rfl) (hg2 : c.sc.names.lookup ("set" : Str) = some .globalImplicit := by rfl) (na : ∀ env, starEach [a] env = (false, eval a env) :: starEach [] env := by intro _; rfl) : RE c (.Call (.Name "len" p) [.Call (.Name "set" p2) [a] [] q] [] pos) σ H Q :=
  re_of (t := tLenSetA c.K (RE c a)) (fun X h => by rw [← h.K]; exact pe_lenSetA h.calm (gl_of h hg) (by rw [h.mg]; exact b.len) (gl_of h hg2) (by rw [h.mg]; exact b.set) (pe_re h) (na _)) w
end K

local macro_rules | `(tactic| tm_at "s") => `(tactic| (refine gRE ?_; refine K.e_lenSet (by assumption) ?_))
namespace K
open PySem PySem.Spec PyProof.Rows L2 G
variable {M : Md}
theorem ro_notInDL {c : Cd} {H : Hp} {Q : VK} {x : V} {d : PyData} {l : Addr} {us : List V} {ds : List PyData} {n : Nat} (hx : Dt c.K H x d) (hl : H l = some (.lst us)) (hd : DtAll c.K H us ds) (s1 : Shp n d) (s2 : ∀ e ∈ ds, Shp n e) (hn : n + 1 ≤ 64) (q : Q (.bl (!ds.any fun z => PyData.eqv z d)) H) : RQ c .NotIn x (.ref l) H Q :=
  rq_of (r := rNotInD c.K) (fun X h => by rw [← h.K]; exact op_notInD (by have := h.room.un; omega)) ⟨d, ds, hx.dp, .lst (.of hl) hd.dp, s1.ok (by omega), (shp_lst s2).ok hn, q⟩
theorem dtInts_eq {K : PySem.W.Frag} {H : Hp} : ∀ {ns : List Int} {xs : List V}, DtAll K H xs (ns.map (optD ∘ some)) → xs = ns.map .int
  | [], _, h => by cases h; rfl
  | n :: ns, _, h => by
    obtain _ | ⟨h1, h2⟩ := h
    cases h1
    rw [dtInts_eq h2]; rfl
theorem firsts_one {ns : List Int} (h : (firsts ns).length = 1) : ∃ v, ∀ w ∈ ns, w = v := by
  match hf : firsts ns, h with
  | [v], _ =>
    refine ⟨v, fun w hw => ?_⟩
    have := firsts_mem.mpr hw
    rw [hf] at this
    exact List.mem_singleton.mp this
theorem only_of_all {rs : List Row} {e : Ex} {ns : List Int} {v : Int} (R : RowsS rs) (hi : isInt e.d = false) (hv : vals rs e = ns.map some) (h : ∀ w ∈ ns, w = v) : only rs e = some v := by
  have hp := states_pos R.sm
  have hl : (vals rs e).length = (statesOf (rg rs)).length := by simp [vals]
  rw [only_V hi, hv]
  cases ns with
  | nil => rw [hv] at hl; simp at hl; omega
  | cons a as =>
    have ha := h a (List.mem_cons_self ..)
    subst ha
    have hal : ((as.map some).all fun x => x == some a) = true := List.all_eq_true.mpr fun x hx => by
      obtain ⟨w, hw, rfl⟩ := List.mem_map.mp hx
      rw [h w (List.mem_cons_of_mem _ hw)]
      simp
    simp only [List.map_cons, onlyV, hal, if_true]
theorem opts_all : ∀ (os : List (Option Int)), (os.any fun o => o.isNone) = false → ∃ ns : List Int, os = ns.map some
  | [], _ => ⟨[], rfl⟩
  | o :: os, h => by
    simp only [List.any_cons, Bool.or_eq_false_iff] at h
    obtain ⟨ns, rfl⟩ := opts_all os h.2
    cases o with
    | none => cases h.1
    | some v => exact ⟨v :: ns, rfl⟩
theorem any_none (os : List (Option Int)) : ((os.map optD).any fun z => PyData.eqv z .none) = os.any fun o => o.isNone := by
  rw [List.any_map]
  congr 1
  funext o
  cases o <;> rfl
def spIsf (K : PySem.W.Frag) : Sp := fun vs H Q _ => ∃ rs e vc vx l us, vs = [vc, .ref l, vx] ∧ Ask K H rs e vc vx l us ∧ (∀ p ∈ subs e, isInt p.d = true ∨ only rs p = none) ∧ ∀ H', Same H H' → Q (.bl true) H'
set_option maxHeartbeats 1000000 in
theorem ok_isf {f fd} (F : Fun M.K "_law_is_folded" "_law_is_folded" s__law_is_folded f fd) (b : Bl M) (dsu : dcSubs M 4) (dvl : Dc M "_law_values" ["_law_rows_here", "_law_states", "_law_term_here"] 14 (spVals M.K)) :
    FnG M.prog M.w M.K M.mg M.base CX0 15 f fd ["_law_rows_here", "_law_states", "_law_term_here"] (spIsf M.K) := by
  refine fn_ok F sc__law_is_folded (fun vs H Q E h => ?_) (fun H vs Q E h => ?_)
  · obtain ⟨rs, e, vc, vx, l, us, rfl, _⟩ := h
    rfl
  obtain ⟨rs, e, vc, vx, l, us, rfl, A0, done, k⟩ := h
  refine b_cut (fun σ1 H1 => Same H H1 ∧ ∃ v3 v4, σ1 = [some vc, some (.ref l), some vx, v3, v4]) ?_ ?_
  · refine s_forL ?_
    refine e_callL dsu ?_
    tm_at "go"
    refine ⟨_, _, .cons A0.x .nil, ⟨rs, e, rfl, A0.good, rfl⟩, fun l1 u1 H1 s1 n1 g1 h1 => ?_⟩
    refine ⟨l1, u1, rfl, .of g1, fun i σ1 H2 => Same H1 H2 ∧ ∃ v3 v4, σ1 = [some vc, some (.ref l), some vx, v3, v4], ⟨Same.refl _, _, _, rfl⟩, ?_, ?_, ?_⟩
    · rintro i σ' H' _ ⟨s, _⟩
      exact .of (s _ _ g1)
    · rintro i x σ' H3 hx ⟨s3, v3, v4, rfl⟩
      obtain ⟨d, hdi, hx'⟩ := h1.getV hx
      rw [List.getElem?_map] at hdi
      obtain ⟨p, hp, rfl⟩ := Option.map_eq_some_iff.mp hdi
      have pm := List.mem_of_getElem? hp
      obtain ⟨pf, pd⟩ := subs_mem e A0.fit p pm
      have A3 := A0.same (s1.trans s3)
      have hx3 := hx'.mono (tp_same s3)
      refine g_name (by tm_at "at") ?_
      tm_at "go"
      refine e_call dvl ?_
      tm_at "go"
      refine ⟨rs, p, vc, x, l, us, rfl, ⟨A3.R, pf, Nat.le_trans pd A3.dep, A3.c, hx3, A3.g, A3.d⟩, fun l4 u4 H4 s4 n4 g4 h4 => ?_⟩
      tm_at "go"
      refine ro_notInDL (n := 1) (d := .none) .non g4 h4 shp_non (fun z hz => ?_) (by decide) ?_
      · obtain ⟨o, _, rfl⟩ := List.mem_map.mp hz
        cases o
        · exact shp_non
        · exact shp_int _
      rw [any_none]
      refine ⟨_, rfl, ?_⟩
      cases hn : ((vals rs p).any fun o => o.isNone) with
      | true =>
        refine iff0 ?_
        tm_at "go"
        exact ⟨s3.trans s4, _, _, rfl⟩
      | false =>
        obtain ⟨ns, hns⟩ := opts_all _ hn
        rw [hns, List.map_map] at h4
        obtain rfl := dtInts_eq h4
        have fin : Same H1 H4 ∧ ∃ w3 w4, [some vc, some (V.ref l), some vx, some x, some (V.ref l4)] = [some vc, some (.ref l), some vx, w3, w4] := ⟨s3.trans s4, _, _, rfl⟩
        have nl : ns.length ≤ 256 := by
          have h1 := congrArg List.length hns
          rw [List.length_map, vals, List.length_map, states_len] at h1
          have := A0.R.sm.many
          omega
        refine ift ?_
        tm_at "go"
        refine ⟨l4, ns, rfl, .of g4, by omega, ?_⟩
        tm_at "go"
        refine ifd (fun c1 => ?_) (fun c1 => ?_)
        · have hi : isInt p.d = true := by
            rcases done p pm with z | z
            · exact z
            · cases hi : isInt p.d with
              | true => rfl
              | false =>
                obtain ⟨v, hv⟩ := firsts_one (ns := ns) (by omega)
                rw [only_of_all A0.R hi hns hv] at z
                cases z
          tm_at "go"
          refine t_val ?_
          tm_at "go"
          refine rc_isInt (hx3.mono (tp_same s4)) ?_
          refine ⟨_, rfl, ?_⟩
          have : isIntB p.d = true := by
            cases p <;> first | rfl | (simp only [Ex.d, isInt] at hi; cases hi)
          rw [this]
          refine iff0 ?_
          tm_at "go"
          exact fin
        · tm_at "go"
          exact fin
    · rintro σ' H3 ⟨s3, v3, v4, rfl⟩
      exact ⟨s1.trans s3, _, _, rfl⟩
  rintro _ H1 ⟨s1, v3, v4, rfl⟩
  tm_at "go"
  exact k _ s1
end K

namespace K
open PySem PySem.Spec PyProof.Rows L2 G
variable {M : Md}
/-! ### how large values grow -/
def Bn (A : Nat) : Nat → Nat
  | 0 => A
  | n + 1 => Bn A n * Bn A n
/-- numbers within A -/
def Sml (A : Nat) : Ex → Prop
  | .int i => i.natAbs ≤ A
  | .nm _ => True
  | .at _ e => Sml A e
  | .un _ e => Sml A e
  | .bin _ a b => Sml A a ∧ Sml A b
  | .kk _ e _ => Sml A e
  | .ite a b c => Sml A a ∧ Sml A b ∧ Sml A c
theorem bn_step {b : Nat} (h : 2 ≤ b) : 2 * b ≤ b * b := Nat.mul_le_mul_right b h
theorem bn_ge {A : Nat} (hA : 2 ≤ A) : ∀ n, 2 ≤ Bn A n
  | 0 => hA
  | n + 1 => by
    have := bn_ge hA n
    have := bn_step this
    simp only [Bn]; omega
theorem bn_mono {A : Nat} (hA : 2 ≤ A) {m n : Nat} (h : m ≤ n) : Bn A m ≤ Bn A n := by
  induction h with
  | refl => exact Nat.le_refl _
  | @step n _ ih =>
    have := bn_step (bn_ge hA n)
    simp only [Bn]; omega
theorem bin2_le {op : Str} (ho : op ∈ bins) {a b : Int} {B : Nat} (hB : 2 ≤ B) (ha : a.natAbs ≤ B) (hb : b.natAbs ≤ B) : (bin2 op a b).natAbs ≤ B * B := by
  have h2 := bn_step hB
  have hm : (a * b).natAbs ≤ B * B := by rw [Int.natAbs_mul]; exact Nat.mul_le_mul ha hb
  have nd : ("div" : Str) ∉ bins := by decide +kernel
  have nm : ("mod" : Str) ∉ bins := by decide +kernel
  generalize B * B = BB at *
  unfold bin2
  repeat' split
  all_goals first
    | (subst_vars; contradiction)
    | omega
theorem kk2_le {op : Str} (ho : op ∈ kks) {a n : Int} {B : Nat} (hB : 2 ≤ B) (ha : a.natAbs ≤ B) (hn : 1 ≤ n ∧ n ≤ 5) : (bin2 op a n).natAbs ≤ B * B := by
  have h2 := bn_step hB
  have e : op = "div" ∨ op = "mod" := by simpa [kks] using ho
  generalize B * B = BB at *
  have hd : bin2 "div" a n = a / n := by
    unfold bin2
    rw [if_neg (by decide +kernel), if_neg (by decide +kernel), if_neg (by decide +kernel), if_pos rfl]
  have hm : bin2 "mod" a n = a % n := by
    unfold bin2
    rw [if_neg (by decide +kernel), if_neg (by decide +kernel), if_neg (by decide +kernel), if_neg (by decide +kernel), if_pos rfl]
  have hn2 : n = 1 ∨ n = 2 ∨ n = 3 ∨ n = 4 ∨ n = 5 := by omega
  rcases e with rfl | rfl
  · rw [hd]
    rcases hn2 with rfl | rfl | rfl | rfl | rfl <;> omega
  · rw [hm]
    rcases hn2 with rfl | rfl | rfl | rfl | rfl <;> omega
theorem b2_le (p : Prop) [Decidable p] : (b2 p).natAbs ≤ 1 := by
  unfold b2
  split <;> decide
theorem val_le {rs : List Row} {o : St1} {A : Nat} (hA : 2 ≤ A) (ho : ∀ j, (gt o j).natAbs ≤ A) : ∀ (e : Ex) (v : Int), Fit rs e → Sml A e → (ev rs o e).1 = some v → v.natAbs ≤ Bn A e.dep
  | .int i, v, _, h, e => by
    simp only [ev] at e
    cases e
    exact h
  | .nm s, v, _, _, e => by
    simp only [ev] at e
    cases e
    exact ho _
  | .at t a, v, _, _, e => by
    simp only [ev, thn1_fst] at e
    obtain ⟨j, _, hj⟩ := Option.bind_eq_some_iff.mp e
    cases hj
    exact Nat.le_trans (ho _) (bn_mono hA (Nat.zero_le _))
  | .un op a, v, hf, hs, e => by
    simp only [ev, thn1_fst] at e
    obtain ⟨w, hw, hv⟩ := Option.bind_eq_some_iff.mp e
    have ih := val_le hA ho a w hf.2 hs hw
    cases hv
    have g := bn_ge hA a.dep
    have st := bn_step g
    simp only [Ex.dep, Bn]
    unfold un1
    split
    · have := b2_le (w = 0)
      omega
    · omega
  | .bin op a b, v, hf, hs, e => by
    have g := bn_ge hA (max a.dep b.dep)
    have st := bn_step g
    have m1 := bn_mono hA (Nat.le_max_left a.dep b.dep)
    have m2 := bn_mono hA (Nat.le_max_right a.dep b.dep)
    simp only [ev] at e
    simp only [Ex.dep, Bn]
    split at e
    · simp only [thn1_fst] at e
      obtain ⟨w, hw, hv⟩ := Option.bind_eq_some_iff.mp e
      split at hv
      · cases hv
        have := b2_le (w ≠ 0)
        omega
      · simp only [thn1_fst] at hv
        obtain ⟨u, hu, hv⟩ := Option.bind_eq_some_iff.mp hv
        cases hv
        have := b2_le (u ≠ 0)
        omega
    · simp only [thn1_fst] at e
      obtain ⟨w, hw, hv⟩ := Option.bind_eq_some_iff.mp e
      obtain ⟨u, hu, hv⟩ := Option.bind_eq_some_iff.mp hv
      cases hv
      exact bin2_le hf.1 g (Nat.le_trans (val_le hA ho a w hf.2.1 hs.1 hw) m1) (Nat.le_trans (val_le hA ho b u hf.2.2 hs.2 hu) m2)
  | .kk op a n, v, hf, hs, e => by
    simp only [ev, thn1_fst] at e
    obtain ⟨w, hw, hv⟩ := Option.bind_eq_some_iff.mp e
    have ih := val_le hA ho a w hf.2.1 hs hw
    cases hv
    exact kk2_le hf.1 (bn_ge hA a.dep) ih hf.2.2
  | .ite a b c, v, hf, hs, e => by
    have g := bn_ge hA (max a.dep (max b.dep c.dep))
    have st := bn_step g
    have m2 := bn_mono hA (Nat.le_trans (Nat.le_max_left b.dep c.dep) (Nat.le_max_right a.dep (max b.dep c.dep)))
    have m3 := bn_mono hA (Nat.le_trans (Nat.le_max_right b.dep c.dep) (Nat.le_max_right a.dep (max b.dep c.dep)))
    simp only [ev, thn1_fst] at e
    obtain ⟨w, hw, hv⟩ := Option.bind_eq_some_iff.mp e
    simp only [Ex.dep, Bn]
    split at hv
    · have := val_le hA ho b v hf.2.1 hs.2.1 hv
      omega
    · have := val_le hA ho c v hf.2.2 hs.2.2 hv
      omega
theorem subs_sml {A : Nat} : ∀ (e : Ex), Sml A e → ∀ p ∈ subs e, Sml A p
  | .int _, h, p, hp => by rw [List.mem_singleton.mp hp]; exact h
  | .nm _, h, p, hp => by rw [List.mem_singleton.mp hp]; exact h
  | .at t e, h, p, hp => by
    rcases List.mem_cons.mp hp with rfl | hp
    · exact h
    · exact subs_sml e h p hp
  | .un _ e, h, p, hp => by
    rcases List.mem_cons.mp hp with rfl | hp
    · exact h
    · exact subs_sml e h p hp
  | .bin _ a b, h, p, hp => by
    rcases List.mem_cons.mp hp with rfl | hp
    · exact h
    rcases List.mem_append.mp hp with hp | hp
    · exact subs_sml a h.1 p hp
    · exact subs_sml b h.2 p hp
  | .kk _ e _, h, p, hp => by
    rcases List.mem_cons.mp hp with rfl | hp
    · exact h
    · exact subs_sml e h p hp
  | .ite a b e, h, p, hp => by
    rcases List.mem_cons.mp hp with rfl | hp
    · exact h
    rcases List.mem_append.mp hp with hp | hp
    · exact subs_sml a h.1 p hp
    rcases List.mem_append.mp hp with hp | hp
    · exact subs_sml b h.2.1 p hp
    · exact subs_sml e h.2.2 p hp
/-- values of the cells are small -/
def Low (A : Nat) (rs : List Row) : Prop := ∀ p ∈ rg rs, p.1.natAbs ≤ A ∧ p.2.natAbs ≤ A
theorem gt_low {A : Nat} {rs : List Row} (R : RowsS rs) (h : Low A rs) {o : St1} (ho : o ∈ statesOf (rg rs)) (j : Int) : (gt o j).natAbs ≤ A := by
  have S := st_ok R ho
  by_cases hj : j.toNat < o.length
  · have hl := states_mem ho
    have hr : (rg rs)[j.toNat]? = some ((rg rs)[j.toNat]'(by omega)) := List.getElem?_eq_getElem (by omega)
    have b1 := S.rng _ _ hr
    have b2 := h _ (List.mem_of_getElem? hr)
    have e : gt o ((j.toNat : Nat) : Int) = gt o j := by unfold gt; rfl
    rw [e] at b1
    omega
  · have : gt o j = 0 := by
      unfold gt
      rw [List.getD_eq_getElem?_getD, List.getElem?_eq_none (by omega)]
      rfl
    rw [this]
    exact Nat.zero_le _
/-- what is folded fits -/
theorem fold_fit {A : Nat} {rs : List Row} (hA : 2 ≤ A) (R : RowsS rs) (hl : Low A rs) {e : Ex} (hf : Fit rs e) (hs : Sml A e) (hb : Bn A e.dep ≤ 1000000) : Fit rs (fold rs e) := by
  refine fit_fold (fun i => i.natAbs ≤ 1000000) (fun i h => by omega) e hf fun p hp v hv => ?_
  obtain ⟨o, os, hos⟩ : ∃ o os, statesOf (rg rs) = o :: os := by
    have := states_pos R.sm
    cases h : statesOf (rg rs) with
    | nil => rw [h] at this; cases this
    | cons o os => exact ⟨o, os, rfl⟩
  have om : o ∈ statesOf (rg rs) := by rw [hos]; exact List.mem_cons_self ..
  obtain ⟨pf, pd⟩ := subs_mem e hf p hp
  have := val_le hA (gt_low R hl om) p v pf (subs_sml e hs p hp) (only_all hv o om)
  have := bn_mono hA pd
  show v.natAbs ≤ 1000000
  omega
/-- folding what is done changes nothing -/
theorem fold_same {rs : List Row} : ∀ e : Ex, (∀ p ∈ subs e, isInt p.d = true ∨ only rs p = none) → fold rs e = e
  | .int i, _ => rfl
  | .nm s, h => by
    rcases h _ (List.mem_singleton.mpr rfl) with z | z
    · cases z
    · simp only [fold, z]
  | .at t a, h => by
    have ih := fold_same (rs := rs) a fun p hp => h p (List.mem_cons_of_mem _ hp)
    rcases h _ (List.mem_cons_self ..) with z | z
    · cases z
    · simp only [fold, z, ih]
  | .un op a, h => by
    have ih := fold_same (rs := rs) a fun p hp => h p (List.mem_cons_of_mem _ hp)
    rcases h _ (List.mem_cons_self ..) with z | z
    · cases z
    · simp only [fold, z, ih]
  | .bin op a b, h => by
    have ih := fold_same (rs := rs) a fun p hp => h p (List.mem_cons_of_mem _ (List.mem_append_left _ hp))
    have ih2 := fold_same (rs := rs) b fun p hp => h p (List.mem_cons_of_mem _ (List.mem_append_right _ hp))
    rcases h _ (List.mem_cons_self ..) with z | z
    · cases z
    · simp only [fold, z, ih, ih2]
  | .kk op a n, h => by
    have ih := fold_same (rs := rs) a fun p hp => h p (List.mem_cons_of_mem _ hp)
    rcases h _ (List.mem_cons_self ..) with z | z
    · cases z
    · simp only [fold, z, ih]
  | .ite a b c, h => by
    have ih := fold_same (rs := rs) a fun p hp => h p (List.mem_cons_of_mem _ (List.mem_append_left _ hp))
    have ih2 := fold_same (rs := rs) b fun p hp => h p (List.mem_cons_of_mem _ (List.mem_append_right _ (List.mem_append_left _ hp)))
    have ih3 := fold_same (rs := rs) c fun p hp => h p (List.mem_cons_of_mem _ (List.mem_append_right _ (List.mem_append_right _ hp)))
    rcases h _ (List.mem_cons_self ..) with z | z
    · cases z
    · simp only [fold, z, ih, ih2, ih3]
theorem fold_twice (rs : List Row) (e : Ex) : fold rs (fold rs e) = fold rs e := fold_same _ (fold_done rs e)
end K

namespace K
open PySem PySem.Spec PyProof.Rows L2 G
variable {M : Md}
theorem strOk_of (s : String) : PyData.strOk (Str.ofString s) = true := by
  rw [Str.ofString_eq_toList]
  show (s.toList.map Char.toNat).toArray.all (· < 0x110000) = true
  rw [← Array.all_toList, List.all_eq_true]
  intro c hc
  obtain ⟨ch, _, rfl⟩ := List.mem_map.mp hc
  have := ch.valid
  refine decide_eq_true ?_
  rcases ch.valid with h | h
  · exact Nat.lt_trans h (by decide)
  · exact h.2
/-! ### the text of data is made of proper signs -/
def okC (l : List Nat) : Prop := ∀ c ∈ l, c < 0x110000
theorem strOk_iff {s : Str} : PyData.strOk s = true ↔ okC s.cps.toList := by
  show s.cps.all (· < 0x110000) = true ↔ _
  rw [← Array.all_toList, List.all_eq_true]
  exact ⟨fun h c hc => of_decide_eq_true (h c hc), fun h c hc => decide_eq_true (h c hc)⟩
theorem okC_app {a b : List Nat} : okC (a ++ b) ↔ okC a ∧ okC b := by
  unfold okC
  simp only [List.mem_append]
  exact ⟨fun h => ⟨fun c hc => h c (.inl hc), fun c hc => h c (.inr hc)⟩, fun h c hc => hc.elim (h.1 c) (h.2 c)⟩
theorem strOk_app {a b : Str} : PyData.strOk (a ++ b) = true ↔ PyData.strOk a = true ∧ PyData.strOk b = true := by
  rw [strOk_iff, strOk_iff, strOk_iff]
  have e : (a ++ b).cps.toList = a.cps.toList ++ b.cps.toList := by
    show (a.cps ++ b.cps).toList = _
    rw [Array.toList_append]
  rw [e, okC_app]
theorem okC_chars (l : List Char) : okC (l.map Char.toNat) := by
  intro c hc
  obtain ⟨ch, _, rfl⟩ := List.mem_map.mp hc
  rcases ch.valid with h | h
  · exact Nat.lt_trans h (by decide)
  · exact h.2
theorem okC_char {q c : Nat} (hc : c < 0x110000) : okC (Builtin.Str.reprChar q c) := by
  have hx : ∀ w : Nat, okC (List.replicate (w - ((Nat.toDigits 16 c).map Char.toNat).length) 48 ++ (Nat.toDigits 16 c).map Char.toNat) := fun w => okC_app.mpr ⟨fun d hd => by rw [(List.mem_replicate.mp hd).2]; decide, okC_chars _⟩
  unfold Builtin.Str.reprChar
  simp only
  repeat' split
  all_goals first
    | (intro d hd; simp only [List.mem_cons, List.not_mem_nil, or_false] at hd; rcases hd with rfl | rfl <;> first | decide | exact hc)
    | (intro d hd; simp only [List.mem_cons, List.not_mem_nil, or_false] at hd; subst hd; exact hc)
    | exact okC_app.mpr ⟨fun d hd => by simp only [List.mem_cons, List.not_mem_nil, or_false] at hd; rcases hd with rfl | rfl <;> decide, hx _⟩
theorem okC_fold {q : Nat} : ∀ (l : List Nat) (acc : Array Nat), okC l → okC acc.toList → okC (l.foldl (fun out c => out ++ (Builtin.Str.reprChar q c).toArray) acc).toList
  | [], acc, _, h => h
  | c :: l, acc, hl, h => by
    rw [List.foldl_cons]
    refine okC_fold l _ (fun d hd => hl d (List.mem_cons_of_mem _ hd)) ?_
    rw [Array.toList_append]
    exact okC_app.mpr ⟨h, okC_char (hl c (List.mem_cons_self ..))⟩
theorem strOk_repr {s : Str} (h : PyData.strOk s = true) : PyData.strOk (reprText s) = true := by
  rw [strOk_iff] at h ⊢
  have hq : reprQuote s < 0x110000 := by unfold reprQuote; split <;> decide
  unfold reprText
  generalize reprQuote s = q at *
  obtain ⟨⟨l⟩⟩ := s
  have e : Array.foldl (fun out c => out ++ (Builtin.Str.reprChar q c).toArray) #[q] (⟨l⟩ : Array Nat) = l.foldl (fun out c => out ++ (Builtin.Str.reprChar q c).toArray) #[q] := by simp
  show okC (Array.push (Array.foldl (fun out c => out ++ (Builtin.Str.reprChar q c).toArray) #[q] (⟨l⟩ : Array Nat)) q).toList
  have e2 : ∀ A : Array Nat, (Array.push A q).toList = A.toList ++ [q] := fun A => by simp
  rw [e2]
  refine okC_app.mpr ⟨?_, fun d hd => ?_⟩
  · rw [e]
    refine okC_fold _ _ h fun d hd => ?_
    have h2 : d ∈ [q] := by simpa using hd
    rw [List.mem_singleton.mp h2]; exact hq
  · rw [List.mem_singleton.mp hd]; exact hq
theorem strOk_from : ∀ (ts : List Str) (k : Nat) (acc : Str), (∀ t ∈ ts, PyData.strOk t = true) → PyData.strOk acc = true → PyData.strOk (textFrom k acc ts) = true
  | [], _, _, _, h => h
  | t :: ts, k, acc, ht, h => by
    refine strOk_from ts (k + 1) _ (fun u hu => ht u (List.mem_cons_of_mem _ hu)) ?_
    exact strOk_app.mpr ⟨strOk_app.mpr ⟨h, strOk_of _⟩, ht t (List.mem_cons_self ..)⟩
theorem strOk_join {sep : Str} (hs : PyData.strOk sep = true) : ∀ ts : List Str, (∀ t ∈ ts, PyData.strOk t = true) → PyData.strOk (Str.join sep ts) = true
  | [], _ => strOk_iff.mpr fun c hc => nomatch hc
  | [t], h => h t (List.mem_cons_self ..)
  | t :: u :: ts, h => strOk_app.mpr ⟨strOk_app.mpr ⟨h t (List.mem_cons_self ..), hs⟩, strOk_join hs (u :: ts) fun x hx => h x (List.mem_cons_of_mem _ hx)⟩
mutual
theorem shown_ok {L : Nat} : ∀ d : PyData, gd L d = true → PyData.strOk d.shown = true
  | .none, _ => by simp only [PyData.shown]; exact strOk_of _
  | .bool b, _ => by simp only [PyData.shown]; cases b <;> exact strOk_of _
  | .int i, _ => by simp only [PyData.shown]; exact strOk_of _
  | .str s, h => by simp only [PyData.shown]; exact strOk_repr (by simpa [gd] using h)
  | .list ds, h => by
    simp only [PyData.shown]
    exact strOk_app.mpr ⟨strOk_from _ _ _ (shown_oks ds (by simpa [gd] using h)) (strOk_of _), strOk_of _⟩
  | .tuple ds, h => by
    simp only [PyData.shown]
    exact strOk_app.mpr ⟨strOk_app.mpr ⟨strOk_of _, strOk_join (strOk_of _) _ (shown_oks ds (by simpa [gd] using h))⟩, strOk_of _⟩
  | .dict _, h => by simp [gd] at h
theorem shown_oks {L : Nat} : ∀ ds : List PyData, gds L ds = true → ∀ t ∈ PyData.shownAll ds, PyData.strOk t = true
  | [], _, t, ht => by simp only [PyData.shownAll] at ht; cases ht
  | d :: ds, h, t, ht => by
    have h1 : gd L d = true ∧ gds L ds = true := by simpa [gds] using h
    simp only [PyData.shownAll] at ht
    rcases List.mem_cons.mp ht with rfl | ht
    · exact shown_ok d h1.1
    · exact shown_oks ds h1.2 t ht
end
/-! ### repr(v) of any data -/
def rRepG (K : PySem.W.Frag) : List V → Hp → VK → Prop := fun vs H Q => ∃ x d, vs = [x] ∧ Dt K H x d ∧ Shw 60 1000000 d ∧ Q (.str d.shown) H
theorem cr_repG {X : Cx} (quiet : X.A.guards = some []) (hu : X.A.units + 64 < cLine) : CallR X (.builtin "repr") (rRepG X.K) := by
  intro pins st σ H vs us Q J rv z
  obtain ⟨x, d, rfl, hd, sw, k⟩ := z
  obtain ⟨u, rfl, ru⟩ := vals1 rv
  have h2 := sw.len
  cases hd with
  | non =>
    cases ru
    exact P.repr_of_none ⟨.str _, H, J.tok _, ⟨_, rfl⟩, k⟩
  | bl b =>
    cases ru
    refine P.repr_of_bool ⟨.str _, H, J.tok _, ⟨_, rfl⟩, ?_⟩
    cases b <;> exact k
  | int i =>
    obtain ⟨t, rfl⟩ := ru
    have hs : i.natAbs.log2 < 1920 := by have := sw.ok; simpa [PyData.showable] using this
    exact P.repr_of_int hs ⟨.str _, H, J.tok _, ⟨_, rfl⟩, k⟩
  | str s =>
    obtain ⟨t, rfl⟩ := ru
    simp only [PyData.shown] at h2
    exact P.repr_of_str ⟨.str _, H, J.tok _, ⟨_, rfl⟩, by simpa only [PyData.shown] using k⟩ (by rw [sizeLine_eq]; omega)
  | tup h1 h3 =>
    obtain ⟨as, rd⟩ := Dp.reads J _ _ u (Dt.dp (.tup h1 h3)) ru
    cases ru
    have h1 := sw.dep
    refine repr_of_reads' rd sw.ok (fun h => by rw [sw.nod] at h; cases h) quiet (by omega) (fun _ _ e => e) (fun h' u tk keep => ?_) (by rw [sizeLine_eq]; omega)
    exact ⟨.str _, H, J.kept (t' := tk) keep, ⟨u, rfl⟩, k⟩
  | lst h1 h3 =>
    obtain ⟨as, rd⟩ := Dp.reads J _ _ u (Dt.dp (.lst h1 h3)) ru
    cases ru
    have h1 := sw.dep
    refine repr_of_reads' rd sw.ok (fun h => by rw [sw.nod] at h; cases h) quiet (by omega) (fun _ _ e => e) (fun h' u tk keep => ?_) (by rw [sizeLine_eq]; omega)
    exact ⟨.str _, H, J.kept (t' := tk) keep, ⟨u, rfl⟩, k⟩
theorem rc_repG {c : Cd} {H : Hp} {Q : VK} {x : V} {d : PyData} (hd : Dt c.K H x d) (sw : Shw 60 1000000 d) (q : Q (.str d.shown) H) (hq : c.g = true := by rfl) : RC c (.builtin "repr") [x] H Q :=
  rc_of (r := rRepG c.K) (fun X h => by rw [← h.K]; exact cr_repG (h.gd hq) h.room.units) ⟨x, d, rfl, hd, sw, q⟩
end K

namespace G
open PySem PySem.Spec PyProof.Rows L2
/-! ### calls with keywords only -/
section
variable {X : Cx} {k : Nat} {f : Addr} {fd : FuncData} {ps ks : List Str} {sp : Sp} {x : Str} {p pos : Pos} {kws : List Keyword} {t : TA} {E : XK} {CX : CXT}
/-- with keywords only -/
theorem peE_kw {g : List Value → List Value} {gV : List V → List V} (F : FnOk X.prog X.w X.K X.mg X.base CX k f fd ps sp) (room : Room k X.A) (hx : Passes CX X E) (gl : Gl X x) (hm : X.mg x = some (.ref f)) (kp : PySem.W.keepIn X.K (.ref f) = true)
    (bn : ∀ (s : Shared) (ws : List Value), ws.length = ks.length → BindsTo s fd ⟨[], ks.zip ws⟩ (ps.zip (g ws))) (rel : ∀ (zs : List V) (ws : List Value), Vals zs ws → zs.length = ks.length → Vals (gV zs) (g ws)) (hkw : PK X kws t)
    (h1 : (backToKw pos (keywordEach kws X.env)).all (·.1.isSome) = true) (h2 : (backToKw pos (keywordEach kws X.env)).filterMap (·.1) = ks) (hdb : (x == ("__debug__" : Str)) = false)
    (h3 : ((backTo pos (starEach [] X.env)).any (·.1) || (backToKw pos (keywordEach kws X.env)).any (·.1.isNone)) = false) :
    PE X (.Call (.Name x p) [] kws pos) (fun σ H Q => t σ H fun zs H2 => zs.length = ks.length ∧ sp (gV zs) H2 Q E) := by
  constructor
  intro pins st σ H Q J z
  apply wpAny_Call_Name_kw
  apply ld_glob J gl hm _ hdb
  refine PySem.W.callWith_KW0 (h₀ := X.base) J.ok.mod.kin kp h1 ?_ h3
  refine thn (hkw.run pos pins st σ H _ J z) fun ws s1 ⟨zs, H1, J1, rz, lz, q⟩ => ⟨J1.kIn, ?_⟩
  rw [h2]
  have r2 := rel zs ws rz lz
  refine wpAny_call (codeAny_mono (F.run X.A X.stack s1 H1 ⟨[], ks.zip ws⟩ (g ws) (gV zs) Q E room J1.env0 (bn s1 ws (rz.length.symm.trans lz)) r2 q) fun r s2 z => ?_)
  match r, z with
  | .ok (.ret u), z => exact J1.after z
  | .error u, z => exact hx _ _ _ _ u s2 J1 z
end
/-- a def that is called with keywords only -/
structure DcK (c : Md) (x : Str) (ps ks : List Str) (gV : List V → List V) (k : Nat) (sp : Sp) : Prop where
  ex : ∃ (f : Addr) (fd : FuncData) (g : List Value → List Value), FnG c.prog c.w c.K c.mg c.base noX k f fd ps sp ∧ c.mg x = some (.ref f) ∧ PySem.W.keepIn c.K (.ref f) = true ∧ (∀ (s : Shared) (ws : List Value), ws.length = ks.length → BindsTo s fd ⟨[], ks.zip ws⟩ (ps.zip (g ws))) ∧
    ∀ (zs : List V) (ws : List Value), Vals zs ws → zs.length = ks.length → Vals (gV zs) (g ws)
section
variable {c : Cd} {σ : L2.St} {H : Hp} {Q : VK} {pos : Pos}
theorem k_nil {Q : List V → Hp → Prop} (q : Q [] H) : RPK c [] σ H Q := rk_of (fun _ _ => pk_nil) q
theorem k_cons {Q : List V → Hp → Prop} {nm : Option Str} {e : Expr} {kpos : Pos} {kws : List Keyword} (q : RE c e σ H fun x H1 => RPK c kws σ H1 fun xs H2 => Q (x :: xs) H2) : RPK c (⟨nm, e, kpos⟩ :: kws) σ H Q :=
  rk_of (fun X h => pk_cons (pe_re h) (pk_rk h)) q
theorem e_kw {x : Str} {p : Pos} {kws : List Keyword} {ps ks : List Str} {gV : List V → List V} {k : Nat} {sp : Sp} (D : DcK c.toMd x ps ks gV k sp) (q : RPK c kws σ H fun zs H1 => zs.length = ks.length ∧ sp (gV zs) H1 Q fun _ _ _ => False) (hk : k ≤ c.k := by exact Nat.le_of_ble_eq_true rfl) (hg : c.sc.names.lookup x = some .globalImplicit := by rfl)
    (h1 : ∀ env, (backToKw pos (keywordEach kws env)).all (·.1.isSome) = true := by intro _; rfl) (h2 : ∀ env, (backToKw pos (keywordEach kws env)).filterMap (·.1) = ks := by intro _; rfl) (hdb : (x == ("__debug__" : Str)) = false := by decide)
    (h3 : ∀ env, ((backTo pos (starEach [] env)).any (·.1) || (backToKw pos (keywordEach kws env)).any (·.1.isNone)) = false := by intro _; rfl) : RE c (.Call (.Name x p) [] kws pos) σ H Q := by
  obtain ⟨f, fd, g, F, hm, hkp, hb, hr⟩ := D.ex
  refine re_of (t := fun σ H Q => RPK c kws σ H fun zs H2 => zs.length = ks.length ∧ sp (gV zs) H2 Q fun _ _ _ => False) (fun X h => ?_) q
  refine peE_kw (CX := noX) (E := fun _ _ _ => False) (k := k) (f := f) (fd := fd) (ps := ps) (ks := ks) (sp := sp) (g := g) (gV := gV) ?_ (h.room.mono hk) (fun _ _ _ _ _ _ _ z => z.elim) (gl_of h hg) (by rw [h.mg]; exact hm) (by rw [h.K]; exact hkp) hb hr (pk_rk h) (h1 _) (h2 _) hdb (h3 _)
  rw [h.prog, h.w, h.K, h.mg, h.base]; exact F
end
end G

namespace K
open PySem PySem.Spec PyProof.Rows L2 G
variable {M : Md}
theorem ro_isB {c : Cd} {H : Hp} {Q : VK} {a b : Bool} (q : Q (.bl (decide (a = b))) H) : RQ c .Is (.bl a) (.bl b) H Q := rq_of (r := rIsB) (fun _ _ => op_isBl) ⟨a, b, rfl, rfl, q⟩
theorem ro_notB {c : Cd} {H : Hp} {Q : VK} {a b : Bool} (q : Q (.bl (!decide (a = b))) H) : RQ c .IsNot (.bl a) (.bl b) H Q := rq_of (r := rNotB) (fun _ _ => op_notBl) ⟨a, b, rfl, rfl, q⟩
theorem eqv_optD (o p : Option Int) : PyData.eqv (optD o) (optD p) = decide (o = p) := by
  cases o <;> cases p <;> first | (simp [optD, PyData.eqv]; done) | (rw [Bool.eq_iff_iff]; simp [optD, PyData.eqv])
theorem eqv_opts : ∀ vs ws : List (Option Int), PyData.eqvAll (vs.map optD) (ws.map optD) = decide (vs = ws)
  | [], [] => by simp [PyData.eqvAll]
  | [], _ :: _ => by simp [PyData.eqvAll]
  | _ :: _, [] => by simp [PyData.eqvAll]
  | v :: vs, w :: ws => by
    simp only [List.map_cons, PyData.eqvAll, eqv_optD, eqv_opts vs ws, List.cons.injEq]
    rw [Bool.eq_iff_iff]
    simp
theorem eqv_optL (vs ws : List (Option Int)) : PyData.eqv (.list (vs.map optD)) (.list (ws.map optD)) = decide (vs = ws) := by
  simp only [PyData.eqv, eqv_opts]
theorem sh_opts (vs : List (Option Int)) : SeqAt.shaped (.list (vs.map optD)) = true := (shp_lst (n := 1) fun d hd => by
  obtain ⟨o, _, rfl⟩ := List.mem_map.mp hd
  cases o
  · exact shp_non
  · exact shp_int _).ok (by decide)
theorem gd_bool (b : Bool) : GdL 1000 0 13 (.bool b) := ⟨by simp [gd], by simp [PyData.depth], by simp [wt]⟩
/-- rows whose text is short -/
abbrev GdR (rs : List Row) : Prop := GdL 1000 3 2000 (cellsD rs)
theorem shw_three {rs : List Row} (rn : RowsN rs) (g : GdR rs) {e1 e2 : Ex} (f1 : Fit rs e1) (f2 : Fit rs e2) (d1 : e1.dep ≤ 3) (d2 : e2.dep ≤ 3) : Shw 60 1000000 (.tuple [cellsD rs, e1.d, e2.d]) := by
  obtain ⟨a1, a2, a3⟩ := gdE rn e1 f1
  obtain ⟨b1, b2, b3⟩ := gdE rn e2 f2
  have m1 := wE_mono d1
  have m2 := wE_mono d2
  have e3 : wE 3 = 6756 := by decide
  have g1 := g.g
  have g2 := g.dep
  have g3 := g.wt
  have : GdL 1000 (3 + 1) (20000 + 13) (.tuple [cellsD rs, e1.d, e2.d]) := gd_tup.mpr ⟨fun d hd => by
      simp only [List.mem_cons, List.not_mem_nil, or_false] at hd
      rcases hd with rfl | rfl | rfl <;> assumption, fun d hd => by
      simp only [List.mem_cons, List.not_mem_nil, or_false] at hd
      rcases hd with rfl | rfl | rfl <;> omega, by simp only [wts]; omega⟩
  exact this.shw (by decide) (by decide) (by decide)
theorem sh_strs {a c : Str} (ha : PyData.strOk a = true) (hc : PyData.strOk c = true) : SeqAt.shaped (.list [.str a, .str c]) = true := by
  have g : GdL 1000 1 (wt (.list [.str a, .str c])) (.list [.str a, .str c]) := ⟨by simp [gd, gds, ha, hc], by simp [PyData.depth, PyData.depthAll], Nat.le_refl _⟩
  exact g.shaped (by decide)
def spRight (K : PySem.W.Frag) : Sp := fun vs H Q _ => ∃ rs e1 e2 vc vx vy l us, vs = [vc, .ref l, vx, vy] ∧ Ask K H rs e1 vc vx l us ∧ Ask K H rs e2 vc vy l us ∧ e1.dep ≤ 3 ∧ e2.dep ≤ 3 ∧ Fit rs (fold rs e1) ∧ GdR rs ∧ ∀ H', Same H H' → Q (.bl true) H'
set_option maxHeartbeats 4000000 in
theorem ok_right {f fd} (F : Fun M.K "_law_is_right" "_law_is_right" s__law_is_right f fd) (b : Bl M) (b2 : Bl2 M) (dfo : Dc M "folded" ["cells", "expression"] 20 (spF rFolded M.K)) (dfk : DcK M "folded" ["cells", "expression"] ["expression", "cells"] List.reverse 20 (spF rFolded M.K))
    (dft : DcV M "fits_expression" ["cells", "thing", "only_inputs"] [.bl false] 8 (spF rFits M.K)) (dif : Dc M "_law_is_folded" ["_law_rows_here", "_law_states", "_law_term_here"] 15 (spIsf M.K)) (dvl : Dc M "_law_values" ["_law_rows_here", "_law_states", "_law_term_here"] 14 (spVals M.K))
    (dsa : Dc M "are_same" ["cells", "one", "other"] 14 (spF rSame M.K)) (dsk : DcK M "are_same" ["cells", "one", "other"] ["other", "one", "cells"] List.reverse 14 (spF rSame M.K)) :
    FnQ M.prog M.w M.K M.mg M.base CX0 21 f fd ["_law_rows_here", "_law_states", "_law_left", "_law_two"] (spRight M.K) := by
  refine fn_okQ F sc__law_is_right (fun vs H Q E h => ?_) (fun H vs Q E h => ?_)
  · obtain ⟨rs, e1, e2, vc, vx, vy, l, us, rfl, _⟩ := h
    rfl
  obtain ⟨rs, e1, e2, vc, vx, vy, l, us, rfl, A1, A2, d1, d2, ff, gr, k⟩ := h
  have sw := shw_three A1.R.rn gr A1.fit A2.fit d1 d2
  have rsa1 : rFolded [cellsD rs, e1.d] (fold rs e1).d := ⟨rs, e1, rfl, A1.R, A1.fit, A1.dep, rfl⟩
  refine b_cut (fun σ1 HA => ∃ v5, Same H HA ∧ Dt M.K HA v5 (fold rs e1).d ∧ σ1 = [some vc, some (.ref l), some vx, some vy, some (.str (PyData.shown (.tuple [cellsD rs, e1.d, e2.d]))), some v5, none, none]) ?_ ?_
  · refine s_par2 (by tm_at "at") (by tm_at "at") ?_
    refine e_callB (id := "repr") b2.repr (by decide +kernel) ?_
    refine a_cons (e_tupD ?_)
    tm_at "go"
    refine tupend (.cons A1.c (.cons A1.x (.cons A2.x .nil))) (Nat.le_of_ble_eq_true rfl) fun v1 H1 s1 h1 => ?_
    refine a_nil ?_
    refine rc_repG h1 sw ?_
    refine e_callF dfo ?_
    tm_at "go"
    exact ⟨_, _, .cons (A1.c.mono (tp_same s1)) (.cons (A1.x.mono (tp_same s1)) .nil), rsa1, fun v2 H2 s2 h2 => ⟨v2, s1.trans s2, h2, rfl⟩⟩
  rintro _ HA ⟨v5, sA, h5, rfl⟩
  have B1 := A1.same sA
  have B2 := A2.same sA
  have dF : (fold rs e1).dep ≤ 4 := Nat.le_trans (dep_fold rs e1) (by omega)
  have BF : Ask M.K HA rs (fold rs e1) vc v5 l us := ⟨A1.R, ff, dF, B1.c, h5, B1.g, B1.d⟩
  refine b_cut (fun σ1 HB => Same HA HB ∧ σ1 = [some vc, some (.ref l), some vx, some vy, some (.str (PyData.shown (.tuple [cellsD rs, e1.d, e2.d]))), some v5, none, none]) ?_ ?_
  · tm_at "go"
    refine t_val ?_
    refine e_callV dft ?_
    tm_at "go"
    refine ⟨_, _, .cons BF.c (.cons BF.x (.cons (.bl _) .nil)), ⟨rs, fold rs e1, rfl, BF.good, rfl⟩, fun v3 H3 s3 h3 => ?_⟩
    cases h3
    refine ⟨_, rfl, iff0 ?_⟩
    tm_at "go"
    refine t_val ?_
    refine e_call dif ?_
    tm_at "go"
    refine ⟨rs, fold rs e1, vc, v5, l, us, rfl, BF.same s3, fold_done rs e1, fun H4 s4 => ⟨_, rfl, iff0 ?_⟩⟩
    tm_at "go"
    exact ⟨s3.trans s4, rfl⟩
  rintro _ HB ⟨sB, rfl⟩
  have C1 := B1.same sB
  have C2 := B2.same sB
  have CF := BF.same sB
  refine b_cut (fun σ1 HC => Same HB HC ∧ ∃ v6, σ1 = [some vc, some (.ref l), some vx, some vy, some (.str (PyData.shown (.tuple [cellsD rs, e1.d, e2.d]))), some v5, v6, none]) ?_ ?_
  · refine s_forT ?_
    refine e_tupD ?_
    tm_at "go"
    refine e_kw dfk ?_
    refine k_cons ?_
    tm_at "go"
    refine k_cons ?_
    tm_at "go"
    refine k_nil ⟨rfl, [cellsD rs, e1.d], _, .cons C1.c (.cons C1.x .nil), rsa1, fun v6 H6 s6 h6 => ?_⟩
    tm_at "go"
    refine e_callF dfo ?_
    tm_at "go"
    have D6 := CF.same s6
    refine ⟨_, _, .cons D6.c (.cons D6.x .nil), ⟨rs, fold rs e1, rfl, D6.R, ff, dF, rfl⟩, fun v7 H7 s7 h7 => ?_⟩
    rw [fold_twice] at h7
    tm_at "go"
    refine tupend (.cons (D6.x.mono (tp_same s7)) (.cons (h6.mono (tp_same s7)) (.cons h7 .nil))) (Nat.le_of_ble_eq_true rfl) fun v8 H8 s8 h8 => ?_
    have s08 := s6.trans (s7.trans s8)
    obtain ⟨a, xs, rfl, ht, hd⟩ := h8.tupE
    refine ⟨a, xs, rfl, ht, fun i σ' H' => Same H8 H' ∧ ∃ v6, σ' = [some vc, some (.ref l), some vx, some vy, some (.str (PyData.shown (.tuple [cellsD rs, e1.d, e2.d]))), some v5, v6, none], ⟨Same.refl _, _, rfl⟩, ?_, ?_, ?_⟩
    · rintro i σ' H' _ ⟨s, _⟩
      exact (tp_same s).sqt ht
    · rintro i x σ' H9 hx ⟨s9, v9, rfl⟩
      obtain ⟨d, hdi, hx'⟩ := hd.getV hx
      have ed : d = (fold rs e1).d := by
        have := List.mem_of_getElem? hdi
        simpa using this
      subst ed
      have s09 := s08.trans s9
      have E1 := C1.same s09
      have EF : Ask M.K H9 rs (fold rs e1) vc x l us := ⟨E1.R, ff, dF, E1.c, hx'.mono (tp_same s9), E1.g, E1.d⟩
      refine g_name (by tm_at "at") ?_
      tm_at "go"
      refine e_call dvl ?_
      tm_at "go"
      refine ⟨rs, fold rs e1, vc, x, l, us, rfl, EF, fun pa ya Ha sa na ga ha => ?_⟩
      refine e_call dvl ?_
      tm_at "go"
      refine ⟨rs, e1, vc, vx, l, us, rfl, E1.same sa, fun pb yb Hb sb nb gb hb => ?_⟩
      refine ro_neD (.lst (.of (sb _ _ ga)) (ha.mono (tp_same sb)).dp) (.lst (.of gb) hb.dp) (sh_opts _) (sh_opts _) ?_
      rw [eqv_optL, vals_fold, decide_eq_true rfl]
      refine ⟨_, rfl, iff0 ?_⟩
      tm_at "go"
      have sab := sa.trans sb
      have G1 := E1.same sab
      have GF := EF.same sab
      refine e_callF dsa ?_
      tm_at "go"
      refine ⟨_, _, .cons G1.c (.cons G1.x (.cons GF.x .nil)), ⟨rs, e1, fold rs e1, rfl, G1.R, ⟨G1.fit, G1.dep⟩, ⟨ff, dF⟩, rfl⟩, fun vk Hk sk hk => ?_⟩
      rw [vals_fold, decide_eq_true rfl] at hk
      cases hk
      tm_at "go"
      refine ro_notB ?_
      refine ⟨_, rfl, iff0 ?_⟩
      tm_at "go"
      exact ⟨s9.trans (sab.trans sk), _, rfl⟩
    · rintro σ' H9 ⟨s9, v9, rfl⟩
      exact ⟨s08.trans s9, _, rfl⟩
  rintro _ HC ⟨sC, v6, rfl⟩
  have D1 := C1.same sC
  have D2 := C2.same sC
  refine b_cut (fun σ1 HD => Same HC HD ∧ σ1 = [some vc, some (.ref l), some vx, some vy, some (.str (PyData.shown (.tuple [cellsD rs, e1.d, e2.d]))), some v5, v6, some (.bl (decide (vals rs e1 = vals rs e2)))]) ?_ ?_
  · tm_at "go"
    refine e_call dvl ?_
    tm_at "go"
    refine ⟨rs, e1, vc, vx, l, us, rfl, D1, fun pa ya Ha sa na ga ha => ?_⟩
    refine e_call dvl ?_
    tm_at "go"
    refine ⟨rs, e2, vc, vy, l, us, rfl, D2.same sa, fun pb yb Hb sb nb gb hb => ?_⟩
    refine ro_eqD (.lst (.of (sb _ _ ga)) (ha.mono (tp_same sb)).dp) (.lst (.of gb) hb.dp) (sh_opts _) (sh_opts _) ?_
    rw [eqv_optL]
    exact ⟨sa.trans sb, rfl⟩
  rintro _ HD ⟨sD, rfl⟩
  have E1 := D1.same sD
  have E2 := D2.same sD
  refine b_cut (fun σ1 HE => Same HD HE ∧ σ1 = [some vc, some (.ref l), some vx, some vy, some (.str (PyData.shown (.tuple [cellsD rs, e1.d, e2.d]))), some v5, v6, some (.bl (decide (vals rs e1 = vals rs e2)))]) ?_ ?_
  · have swb : Shw 60 1000000 (.bool (decide (vals rs e1 = vals rs e2))) := (gd_bool _).shw (Nat.le_of_ble_eq_true rfl) (Nat.le_of_ble_eq_true rfl) (Nat.le_of_ble_eq_true rfl)
    have hs := shown_ok (.bool (decide (vals rs e1 = vals rs e2))) (gd_bool _).g
    have hsym : decide (vals rs e2 = vals rs e1) = decide (vals rs e1 = vals rs e2) := decide_eq_decide.mpr ⟨Eq.symm, Eq.symm⟩
    tm_at "go"
    refine e_lstD ?_
    refine a_cons ?_
    refine e_callB (id := "repr") b2.repr (by decide +kernel) ?_
    refine a_cons ?_
    refine e_callF dsa ?_
    tm_at "go"
    refine ⟨_, _, .cons E1.c (.cons E1.x (.cons E2.x .nil)), ⟨rs, e1, e2, rfl, E1.R, ⟨E1.fit, E1.dep⟩, ⟨E2.fit, E2.dep⟩, rfl⟩, fun vk Hk sk hk => ?_⟩
    tm_at "go"
    refine rc_repG hk swb ?_
    have G1 := E1.same sk
    have G2 := E2.same sk
    refine a_cons ?_
    refine e_callB (id := "repr") b2.repr (by decide +kernel) ?_
    refine a_cons ?_
    refine e_kw dsk ?_
    refine k_cons ?_
    tm_at "go"
    refine k_cons ?_
    tm_at "go"
    refine k_cons ?_
    tm_at "go"
    refine k_nil ⟨rfl, [cellsD rs, e2.d, e1.d], _, .cons G1.c (.cons G2.x (.cons G1.x .nil)), ⟨rs, e2, e1, rfl, G1.R, ⟨G2.fit, G2.dep⟩, ⟨G1.fit, G1.dep⟩, rfl⟩, fun vm Hm sm hm => ?_⟩
    rw [hsym] at hm
    tm_at "go"
    refine rc_repG hm swb ?_
    refine a_nil ⟨(Nat.le_of_ble_eq_true rfl), fun pa Ha sa na ga => ?_⟩
    refine e_bin ?_
    refine e_lstD ?_
    refine a_cons ?_
    refine e_callB (id := "repr") b2.repr (by decide +kernel) ?_
    tm_at "go"
    refine rc_repG (.bl _) swb ?_
    refine a_nil ⟨(Nat.le_of_ble_eq_true rfl), fun pb Hb sb nb gb => ?_⟩
    tm_at "go"
    refine ro_rep gb (by decide) (Nat.le_of_ble_eq_true rfl) fun pc Hc sc nc gc => ?_
    refine ro_neD (.lst (.of ((sb.trans sc) _ _ ga)) (.cons (.str _) (.cons (.str _) .nil))) (.lst (.of gc) (.cons (.str _) (.cons (.str _) .nil))) (sh_strs hs hs) (sh_strs hs hs) ?_
    rw [show PyData.eqv (.list [.str (PyData.shown (.bool (decide (vals rs e1 = vals rs e2)))), .str (PyData.shown (.bool (decide (vals rs e1 = vals rs e2))))]) (.list [.str (PyData.shown (.bool (decide (vals rs e1 = vals rs e2)))), .str (PyData.shown (.bool (decide (vals rs e1 = vals rs e2))))]) = true from by simp [PyData.eqv, PyData.eqvAll]]
    refine ⟨_, rfl, iff0 ?_⟩
    tm_at "go"
    exact ⟨sk.trans (sm.trans (sa.trans (sb.trans sc))), rfl⟩
  rintro _ HE ⟨sE, rfl⟩
  have G1 := E1.same sE
  have G2 := E2.same sE
  refine b_one ?_
  refine s_ret ?_
  refine e_cmp ?_
  refine e_callB (id := "repr") b2.repr (by decide +kernel) ?_
  refine a_cons (e_tupD ?_)
  tm_at "go"
  refine tupend (.cons G1.c (.cons G1.x (.cons G2.x .nil))) (Nat.le_of_ble_eq_true rfl) fun v1 H1 s1 h1 => ?_
  refine a_nil ?_
  refine rc_repG h1 sw ?_
  tm_at "go"
  rw [decide_eq_true rfl]
  exact k _ (sA.trans (sB.trans (sC.trans (sD.trans (sE.trans s1)))))
end K

local macro_rules | `(tactic| tm_at "mk") => `(tactic| repeat (first | (refine gRE ?_; refine e_tupD ?_) | tm_at "s" | (refine gRB ?_; first | refine b_one ?_ | refine b_cons ?_) | (refine tupend (by tm_at "dts") (Nat.le_of_ble_eq_true rfl) fun v H s h => ?_)))
namespace K
open PySem PySem.Spec PyProof.Rows L2 G
variable {M : Md}
/-! ### expressions by hand -/
def rs3 : List Row := [("i", 0, 0, 1, true, false, 0), ("t", 2, 0, 1, false, true, 0), ("x", 0, 0, 1, true, true, 0)]
def rsW : List Row := [("x", 0, 0, 255, true, true, 0)]
theorem rows_fact : ∀ rs ∈ rsW :: rs4, (rs.length ≤ 10 ∧ (∀ r ∈ rs, PyData.strOk r.1 = true ∧ nameS r.1 = true) ∧ total rs ≤ 10) ∧ ((∀ p ∈ rg rs, 1 ≤ span p ∧ -1000 ≤ p.1 ∧ p.2 ≤ 1000) ∧ many (rg rs) ≤ 256 ∧ (rs.map nameOf).Nodup) ∧ gd 1000 (cellsD rs) = true ∧ (cellsD rs).depth ≤ 3 ∧ wt (cellsD rs) ≤ 2000 := by decide +kernel
theorem low_fact : ∀ rs ∈ rs4, ∀ p ∈ rg rs, p.1.natAbs ≤ 2 ∧ p.2.natAbs ≤ 2 := by decide +kernel
theorem rows_s {rs : List Row} (h : rs ∈ rsW :: rs4) : RowsS rs ∧ GdR rs := by
  obtain ⟨⟨a1, a2, a3⟩, ⟨b1, b2, b3⟩, c1, c2, c3⟩ := rows_fact rs h
  exact ⟨⟨⟨⟨a1, fun r hr => (a2 r hr).1⟩, fun r hr => (a2 r hr).2⟩, ⟨a3, b1, b2⟩, b3⟩, ⟨c1, c2, c3⟩⟩
def fitB (rs : List Row) : Ex → Bool
  | .int i => decide (-1000000 ≤ i) && decide (i ≤ 1000000)
  | .nm s => rs.any fun r => decide (r.1 = s) && decide (r.2.1 = 0)
  | .at t e => (rs.any fun r => decide (r.1 = t) && decide (0 < r.2.1)) && fitB rs e
  | .un op e => decide (op ∈ uns) && fitB rs e
  | .bin op a b => decide (op ∈ bins) && (fitB rs a && fitB rs b)
  | .kk op e n => decide (op ∈ kks) && (fitB rs e && (decide (1 ≤ n) && decide (n ≤ 5)))
  | .ite a b e => fitB rs a && (fitB rs b && fitB rs e)
theorem fitB_ok {rs : List Row} : ∀ e : Ex, fitB rs e = true → Fit rs e
  | .int i, h => by simp only [fitB, Bool.and_eq_true, decide_eq_true_eq] at h; exact h
  | .nm s, h => by
    simp only [fitB, List.any_eq_true, Bool.and_eq_true, decide_eq_true_eq] at h
    obtain ⟨r, h1, h2, h3⟩ := h
    exact ⟨r, h1, h2, h3⟩
  | .at t e, h => by
    simp only [fitB, List.any_eq_true, Bool.and_eq_true, decide_eq_true_eq] at h
    obtain ⟨⟨r, h1, h2, h3⟩, h4⟩ := h
    exact ⟨⟨r, h1, h2, h3⟩, fitB_ok e h4⟩
  | .un op e, h => by
    simp only [fitB, Bool.and_eq_true, decide_eq_true_eq] at h
    exact ⟨h.1, fitB_ok e h.2⟩
  | .bin op a b, h => by
    simp only [fitB, Bool.and_eq_true, decide_eq_true_eq] at h
    exact ⟨h.1, fitB_ok a h.2.1, fitB_ok b h.2.2⟩
  | .kk op e n, h => by
    simp only [fitB, Bool.and_eq_true, decide_eq_true_eq] at h
    exact ⟨h.1, fitB_ok e h.2.1, h.2.2⟩
  | .ite a b e, h => by
    simp only [fitB, Bool.and_eq_true] at h
    exact ⟨fitB_ok a h.1, fitB_ok b h.2.1, fitB_ok e h.2.2⟩
def smlB (A : Nat) : Ex → Bool
  | .int i => decide (i.natAbs ≤ A)
  | .nm _ => true
  | .at _ e => smlB A e
  | .un _ e => smlB A e
  | .bin _ a b => smlB A a && smlB A b
  | .kk _ e _ => smlB A e
  | .ite a b c => smlB A a && (smlB A b && smlB A c)
theorem smlB_ok {A : Nat} : ∀ e : Ex, smlB A e = true → Sml A e
  | .int i, h => of_decide_eq_true (p := i.natAbs ≤ A) h
  | .nm s, _ => trivial
  | .at t e, h => smlB_ok e h
  | .un op e, h => smlB_ok e h
  | .bin op a b, h => by
    simp only [smlB, Bool.and_eq_true] at h
    exact ⟨smlB_ok a h.1, smlB_ok b h.2⟩
  | .kk op e n, h => smlB_ok e h
  | .ite a b c, h => by
    simp only [smlB, Bool.and_eq_true] at h
    exact ⟨smlB_ok a h.1, smlB_ok b h.2.1, smlB_ok c h.2.2⟩
def hA : List Ex := [.bin "*" (.nm "x") (.int 0), .bin "-" (.nm "x") (.nm "x"), .bin "and" (.int 0) (.at "t" (.int 9)), .bin "or" (.bin "=" (.nm "x") (.nm "x")) (.at "t" (.int 9))]
def hB : List Ex := [.ite (.bin "<=" (.int 0) (.nm "x")) (.int 1) (.at "t" (.int 9)), .bin "+" (.at "t" (.int 9)) (.int 0), .at "t" (.bin "*" (.nm "x") (.int 0))]
def hC : List Ex := [.bin "least" (.int 0) (.nm "x"), .bin "most" (.un "neg" (.int 1)) (.kk "div" (.nm "x") 5), .kk "mod" (.bin "*" (.int 2) (.nm "x")) 2, .un "not" (.int 2), .int 7]
def hD : List Ex := [.bin "+" (.at "t" (.nm "i")) (.bin "-" (.int 3) (.int 3)), .ite (.nm "x") (.bin "+" (.int 1) (.int 1)) (.bin "*" (.int 2) (.bin "=" (.int 0) (.int 0))), .nm "x"]
def hE : List Ex := [.bin "and" (.bin "<" (.nm "i") (.int 2)) (.un "not" (.at "t" (.nm "i"))), .bin "*" (.int 0) (.at "t" (.int 5))]
abbrev dA : List PyData := [.tuple [.str "*", .str "x", .int 0], .tuple [.str "-", .str "x", .str "x"], .tuple [.str "and", .int 0, .tuple [.str "at", .str "t", .int 9]], .tuple [.str "or", .tuple [.str "=", .str "x", .str "x"], .tuple [.str "at", .str "t", .int 9]]]
abbrev dB : List PyData := [.tuple [.str "if", .tuple [.str "<=", .int 0, .str "x"], .int 1, .tuple [.str "at", .str "t", .int 9]], .tuple [.str "+", .tuple [.str "at", .str "t", .int 9], .int 0], .tuple [.str "at", .str "t", .tuple [.str "*", .str "x", .int 0]]]
abbrev dC : List PyData := [.tuple [.str "least", .int 0, .str "x"], .tuple [.str "most", .tuple [.str "neg", .int 1], .tuple [.str "div", .str "x", .int 5]], .tuple [.str "mod", .tuple [.str "*", .int 2, .str "x"], .int 2], .tuple [.str "not", .int 2], .int 7]
abbrev dD : List PyData := [.tuple [.str "+", .tuple [.str "at", .str "t", .str "i"], .tuple [.str "-", .int 3, .int 3]], .tuple [.str "if", .str "x", .tuple [.str "+", .int 1, .int 1], .tuple [.str "*", .int 2, .tuple [.str "=", .int 0, .int 0]]], .str "x"]
abbrev dE : List PyData := [.tuple [.str "and", .tuple [.str "<", .str "i", .int 2], .tuple [.str "not", .tuple [.str "at", .str "t", .str "i"]]], .tuple [.str "*", .int 0, .tuple [.str "at", .str "t", .int 5]]]
def handE : List Ex := hA ++ hB ++ hC ++ hD ++ hE
theorem hand_d : dA ++ dB ++ dC ++ dD ++ dE = handE.map Ex.d := rfl
theorem hand_fact : (handE.all fun e => fitB rs3 e && (decide (e.dep ≤ 3) && ((smlB 9 e && decide (Bn 9 e.dep ≤ 1000000)) || (smlB 2 e && decide (Bn 2 e.dep ≤ 1000000))))) = true := by decide +kernel
theorem rs3_in : rs3 ∈ rs4 := List.mem_cons_of_mem _ (List.mem_cons_of_mem _ (List.mem_cons_self ..))
theorem hand_ok {e : Ex} (h : e ∈ handE) : Fit rs3 e ∧ e.dep ≤ 3 ∧ Fit rs3 (fold rs3 e) := by
  have h1 := List.all_eq_true.mp hand_fact e h
  simp only [Bool.and_eq_true, Bool.or_eq_true, decide_eq_true_eq] at h1
  obtain ⟨f, d, z⟩ := h1
  have R := (rows_s (List.mem_cons_of_mem rsW rs3_in)).1
  have L := low_fact rs3 rs3_in
  refine ⟨fitB_ok e f, d, ?_⟩
  rcases z with ⟨s, bb⟩ | ⟨s, bb⟩
  · exact fold_fit (A := 9) (by decide) R (fun p hp => by have := L p hp; omega) (fitB_ok e f) (smlB_ok e s) bb
  · exact fold_fit (A := 2) (by decide) R L (fitB_ok e f) (smlB_ok e s) bb
/-- new tuples for a list -/
structure Nw (K : PySem.W.Frag) (H H1 : Hp) (l : Addr) (us : List V) (ds : List PyData) : Prop where
  s : Same H H1
  n : H l = none
  g : H1 l = some (.lst us)
  d : DtAll K H1 us ds
theorem ro_catW {c : Cd} {HB H0 H : Hp} {Q : VK} {a b : Addr} {xs ys : List V} {ds es : List PyData} (w : Nw c.K HB H0 a xs ds) (s : Same H0 H) (g : H b = some (.lst ys)) (d : DtAll c.K H ys es) (hl : ds.length + es.length ≤ 1000) (q : ∀ p us H2, Nw c.K HB H2 p us (ds ++ es) → Same H0 H2 → Q (.ref p) H2) : RO c .Add (.ref a) (.ref b) H Q := by
  refine ro_cat (s _ _ w.g) g (by rw [w.d.len, d.len]; omega) fun p HY sy ny gy => ?_
  exact q p _ _ ⟨w.s.trans (s.trans sy), same_none (w.s.trans s) ny, gy, ((w.d.mono (tp_same s)).app d).mono (tp_same sy)⟩ (s.trans sy)
def spHand (K : PySem.W.Frag) : Sp := fun vs H Q _ => vs = [] ∧ ∀ l us H', Same H H' → H l = none → H' l = some (.lst us) → DtAll K H' us (handE.map Ex.d) → Q (.ref l) H'
set_option maxHeartbeats 4000000 in
theorem ok_hand {f fd} (F : Fun M.K "_law_by_hand" "_law_by_hand" s__law_by_hand f fd) (b : Bl M) : FnG M.prog M.w M.K M.mg M.base CX0 1 f fd [] (spHand M.K) := by
  refine fn_ok F sc__law_by_hand (fun vs H Q E h => ?_) (fun H vs Q E h => ?_)
  · obtain ⟨rfl, _⟩ := h
    rfl
  obtain ⟨rfl, k⟩ := h
  refine b_cut (fun σ1 H1 => ∃ l us, σ1 = [some (.ref l)] ∧ Nw M.K H H1 l us dA) ?_ ?_
  · refine s_set (by tm_at "at") ?_
    refine e_lstD ?_
    refine a_cons (e_tupD ?_)
    tm_at "mk"
    refine ⟨(Nat.le_of_ble_eq_true rfl), fun l H' s n g => ?_⟩
    exact ⟨l, _, rfl, by tm_at "same", same_none (by tm_at "same") n, g, by tm_at "dts"⟩
  rintro _ H1 ⟨l1, u1, rfl, w1⟩
  refine b_cut (fun σ1 HH => ∃ l us, σ1 = [some (.ref l)] ∧ Nw M.K H HH l us (dA ++ dB)) ?_ ?_
  · refine s_set (by tm_at "at") ?_
    refine e_bin ?_
    refine e_var (by tm_at "at") ?_
    refine e_lstD ?_
    refine a_cons (e_tupD ?_)
    tm_at "mk"
    refine ⟨(Nat.le_of_ble_eq_true rfl), fun l HX s n g => ?_⟩
    refine ro_catW w1 (by tm_at "same") g (by tm_at "dts" : DtAll _ _ _ dB) (Nat.le_of_ble_eq_true rfl) fun p us HY wy sy => ⟨p, _, rfl, wy⟩
  rintro _ H2 ⟨l2, u2, rfl, w2⟩
  refine b_cut (fun σ1 HH => ∃ l us, σ1 = [some (.ref l)] ∧ Nw M.K H HH l us (dA ++ dB ++ dC)) ?_ ?_
  · refine s_set (by tm_at "at") ?_
    refine e_bin ?_
    refine e_var (by tm_at "at") ?_
    refine e_lstD ?_
    refine a_cons (e_tupD ?_)
    tm_at "mk"
    refine ⟨(Nat.le_of_ble_eq_true rfl), fun l HX s n g => ?_⟩
    refine ro_catW w2 (by tm_at "same") g (by tm_at "dts" : DtAll _ _ _ dC) (Nat.le_of_ble_eq_true rfl) fun p us HY wy sy => ⟨p, _, rfl, wy⟩
  rintro _ H3 ⟨l3, u3, rfl, w3⟩
  refine b_cut (fun σ1 HH => ∃ l us, σ1 = [some (.ref l)] ∧ Nw M.K H HH l us (dA ++ dB ++ dC ++ dD)) ?_ ?_
  · refine s_set (by tm_at "at") ?_
    refine e_bin ?_
    refine e_var (by tm_at "at") ?_
    refine e_lstD ?_
    refine a_cons (e_tupD ?_)
    tm_at "mk"
    refine ⟨(Nat.le_of_ble_eq_true rfl), fun l HX s n g => ?_⟩
    refine ro_catW w3 (by tm_at "same") g (by tm_at "dts" : DtAll _ _ _ dD) (Nat.le_of_ble_eq_true rfl) fun p us HY wy sy => ⟨p, _, rfl, wy⟩
  rintro _ H4 ⟨l4, u4, rfl, w4⟩
  refine b_one ?_
  refine s_ret ?_
  refine e_bin ?_
  refine e_var (by tm_at "at") ?_
  refine e_lstD ?_
  refine a_cons (e_tupD ?_)
  tm_at "mk"
  refine ⟨(Nat.le_of_ble_eq_true rfl), fun l HX s n g => ?_⟩
  refine ro_catW w4 (by tm_at "same") g (by tm_at "dts" : DtAll _ _ _ dE) (Nat.le_of_ble_eq_true rfl) fun p us HY wy sy => k p _ _ wy.s wy.n wy.g ?_
  rw [← hand_d]
  exact wy.d
end K

namespace G
open PySem PySem.Spec PyProof.Rows L2
theorem any_star2 (vs : List Expr) : (vs.any fun | .Starred .. => true | _ => false) = vs.any isStar := by
  congr 1
theorem sw2c {x y : Str} {px py pt : Pos} {kt k2 pt2} {a b : Expr} {env : Env} (hx : env.scope.names.lookup x = some .cell) (hy : env.scope.names.lookup y = some .cell) (hk : env.scope.kind = .function) (h1 : [a, b].any isStar = false) :
    swappedStores [.Tuple [.Name x px, .Name y py] kt pt] (.Tuple [a, b] k2 pt2) env = pure none := by
  have kx : env.kindOf x = some .cell := hx
  have ky : env.kindOf y = some .cell := hy
  have hb : env.blockKind = .function := by unfold Env.blockKind; rw [hk]; rfl
  have e0 : (some NameKind.cell == some NameKind.local) = false := by rfl
  have hn : ([Expr.Name x px, Expr.Name y py].filterMap fun
    | .Name id pos => if env.kindOf id == some .local && pos.line == px.line then some id else none
    | _ => none) = [] := by
    simp only [List.filterMap_cons, List.filterMap_nil, kx, ky, e0, Bool.false_and, Bool.false_eq_true, if_false]
  unfold swappedStores
  simp only [hb]
  show (if _ = true then _ else if ([a, b].any fun | .Starred .. => true | _ => false) = true then _ else _) = _
  rw [any_star2, h1]
  generalize hz : List.filterMap _ [Expr.Name x px, Expr.Name y py] = z
  have hz' : z = [] := by rw [← hz]; exact hn
  subst hz'
  rw [if_neg (by show ¬ (false = true); decide), if_neg (by decide), if_pos (by rfl)]
section
variable {c : Cd} {σ : L2.St} {H : Hp} {D : Ends} {pos : Pos}
theorem s_asgS {tg e : Expr} (q : RE c e σ H fun x H1 => RG c tg x σ H1 D.nx) (hw : ∀ env : Env, env.scope = c.sc → swappedStores [tg] e env = pure none) (hs : ∀ env, swapsWithSole [tg] e pos.line env = pure false := by intro _; rfl)
    (h1 : ∀ env, (assignEach [tg] env).map (·.2) = [assign tg env] := by intro _; rfl) : RS c (.Assign [tg] e pos) D σ H := rs_of (fun X h => ps_asg (pe_re h) (pg_rg h) (hs _) (hw _ h.sc) (h1 _)) q
/-- a, b = x, y where both names are looked at by an inner block -/
theorem s_par2c {i j : Nat} {x y : Str} {a b : Expr} {px py pt : Pos} {kt k2 pt2} (hi : At c.N i x) (hj : At c.N j y) (q : RE c a σ H fun v H1 => RE c b σ H1 fun w H2 => ∀ H3, Same H2 H3 → D.nx ((σ.set i (some v)).set j (some w)) H3)
    (hx : c.sc.names.lookup x = some .cell := by rfl) (hy : c.sc.names.lookup y = some .cell := by rfl) (ht : c.top = true := by rfl) (hk : c.sc.kind = .function := by rfl) (e1 : [a, b].any isStar = false := by rfl)
    (hs : ∀ env, swapsWithSole [.Tuple [.Name x px, .Name y py] kt pt] (.Tuple [a, b] k2 pt2) pos.line env = pure false := by intro _; rfl)
    (h0 : ∀ env, (assignEach [.Tuple [.Name x px, .Name y py] kt pt] env).map (·.2) = [assign (.Tuple [.Name x px, .Name y py] kt pt) env] := by intro _; rfl)
    (h1 : ∀ env, starEach [a, b] env = (false, eval a env) :: starEach [b] env := by intro _; rfl) (h2 : ∀ env, starEach [b] env = (false, eval b env) :: starEach [] env := by intro _; rfl)
    (hst : ∀ env, (assignEach [.Name x px, .Name y py] env).findIdx? (·.1) = none := by intro _; rfl) :
    RS c (.Assign [.Tuple [.Name x px, .Name y py] kt pt] (.Tuple [a, b] k2 pt2) pos) D σ H := by
  refine s_asgS (e_tup (a_cons (RE.mono (fun v H1 z => a_cons (RE.mono (fun w H2 z => a_nil ?_) z) h2) q) h1)) (fun env he => sw2c (by rw [he]; exact hx) (by rw [he]; exact hy) (by rw [he]; exact hk) e1) hs h0
  refine ⟨by show 2 ≤ sizeLine; decide, fun p hp => ?_⟩
  exact g_tup (.of upd_same) (gs_cons (g_name hi (gs_cons (g_name hj (gs_nil (z _ (same_new hp))) (.inr ⟨hy, ht⟩))) (.inr ⟨hx, ht⟩))) rfl (fun _ => rfl) hst
end
end G

local macro_rules | `(tactic| tm_at "mk") => `(tactic| repeat (first | (refine gRE ?_; refine e_tupD ?_) | tm_at "s" | (refine gRB ?_; first | refine b_one ?_ | refine b_cons ?_) | (refine tupend (by tm_at "dts") (Nat.le_of_ble_eq_true rfl) fun v H s h => ?_)))
namespace K
open PySem PySem.Spec PyProof.Rows L2 G
variable {M : Md}
/-! ### drawn expressions -/
def wT : Nat → Nat
  | 0 => 3
  | n + 1 => 3 * wT n + 3
def preTerm (n : Nat) : List PyData → Prop := fun ds => ∃ rs, rs ∈ rs4 ∧ ds = [cellsD rs, .int (n : Int)]
def rTerm (n : Nat) : List PyData → PyData → Prop := fun ds d => ∃ rs e, ds = [cellsD rs, .int (n : Int)] ∧ d = Ex.d e ∧ Fit rs e ∧ Sml 2 e ∧ e.dep ≤ n
abbrev dcTerm (M : Md) (n : Nat) : Prop := Dc M "_law_term" ["_law_source_here", "_law_rows_here", "_law_deep"] (n + 2) (spD (wT n) (preTerm n) (rTerm n) M.K)
theorem rs4_ok : ∀ rs ∈ rs4, rs.length ≤ 10 ∧ (plains rs).length ≤ 10 ∧ 0 < (plains rs).length ∧ (tabs rs).length ≤ 10 ∧ ∀ r ∈ rs, PyData.strOk r.1 = true := by decide +kernel
def wordsT : List Str := ["least", "if", "+", "-", "*", "<", "=", "and", "or"]
theorem wordsT_bins : ∀ i : Nat, i < 9 → i ≠ 1 → ∃ w, wordsT[i]? = some w ∧ w ∈ bins := by decide +kernel
theorem wT_ge (n : Nat) : 3 ≤ wT n := by cases n <;> simp [wT] <;> omega
set_option maxHeartbeats 2000000 in
theorem ok_term (n : Nat) {f fd} (F : Fun M.K "_law_term" "_law_term" s__law_term f fd) (b : Bl M) (hn9 : wT n ≤ 1000) (dn : dcNext M) (ih : ∀ m, n = m + 1 → dcTerm M m) :
    FnG M.prog M.w M.K M.mg M.base CX0 (n + 2) f fd ["_law_source_here", "_law_rows_here", "_law_deep"] (spD (wT n) (preTerm n) (rTerm n) M.K) := by
  refine fn_ok F sc__law_term (spD_len (n := 2) (by rintro ds ⟨_, _, rfl⟩; rfl)) (fun H vs Q E h => ?_)
  obtain ⟨fp, cl, rest, ds, n0, rfl, hf, hn, hds, ⟨rs, hrs, rfl⟩, k⟩ := h
  obtain _ | ⟨hc, hds⟩ := hds
  obtain _ | ⟨hdp, hds⟩ := hds
  cases hds
  cases hdp
  rename_i vr
  obtain ⟨l10, pl10, pl0, tl10, okn⟩ := rs4_ok rs hrs
  refine b_cons (s_setLc (own := [("_law_row", 10)]) (by tm_at "at") (Blk.of (N := N__law_term) (sc := defScope s__law_term) rfl rfl (by decide +kernel)) ?_)
  refine lcT_F gPlain ?_
  tm_at "go"
  refine ⟨rs.map rowD, hc, by rw [List.length_map]; omega, fun d x H' hd s hx => ?_, fun lp up H1 s1 np gp hp => ?_⟩
  · obtain ⟨r, hr, rfl⟩ := List.mem_map.mp hd
    refine g_name (by tm_at "at") ⟨rfl, rfl, ts_one ?_⟩
    tm_at "go"
    refine ⟨Same.refl _, ifd (fun c1 => ?_) (fun c1 => ?_)⟩
    · tm_at "go"
      exact ⟨Same.refl _, _, by show (if _ then _ else _) = _; rw [if_pos c1], .str _⟩
    · show (if _ then _ else _) = _
      rw [if_neg c1]
  rw [gPlain_all] at hp
  refine b_cons (s_setLc (own := [("_law_row", 10)]) (by tm_at "at") (Blk.of (N := N__law_term) (sc := defScope s__law_term) rfl rfl (by decide +kernel)) ?_)
  refine lcT_F gTab ?_
  tm_at "go"
  refine ⟨rs.map rowD, hc.mono (tp_same s1), by rw [List.length_map]; omega, fun d x H' hd s hx => ?_, fun lt ut H2 s2 nt gt ht => ?_⟩
  · obtain ⟨r, hr, rfl⟩ := List.mem_map.mp hd
    refine g_name (by tm_at "at") ⟨rfl, rfl, ts_one ?_⟩
    tm_at "go"
    refine ⟨Same.refl _, ifd (fun c1 => ?_) (fun c1 => ?_)⟩
    · tm_at "go"
      exact ⟨Same.refl _, _, by show (if _ then _ else _) = _; rw [if_pos c1], .str _⟩
    · show (if _ then _ else _) = _
      rw [if_neg c1]
  rw [gTab_all] at ht
  have f2 := (hf.same s1).same s2
  have k2 : Kp fp H H2 := kp_same (s1.trans s2)
  have nlp : lp ≠ fp := ne_feed hf (Same.refl _) np
  have nlt : lt ≠ fp := ne_feed (hf.same s1) (Same.refl _) nt
  have gp2 := s2 _ _ gp
  have hp2 := hp.mono (tp_same s2)
  have hc2 := hc.mono (tp_same (s1.trans s2))
  have lup := hp.len
  rw [List.length_map] at lup
  have w3 := wT_ge n
  refine b_cut (fun σ1 HA => ∃ r : Int, Kp fp H2 HA ∧ Feed M.K HA fp cl (n0 + 1) ∧ 0 ≤ r ∧ r < 13 ∧ (n = 0 → r < 3) ∧ σ1 = [some (.ref fp), some vr, some (.int (n : Int)), some (.ref lp), some (.ref lt), some (.int r), none, none, none, none, none]) ?_ ?_
  · refine s_set (by tm_at "at") ?_
    refine e_draw dn ?_
    tm_at "go"
    refine ifd (fun c1 => ?_) (fun c1 => ?_)
    · tm_at "go"
      exact ⟨fp, cl, n0, 13, rfl, rfl, f2, by omega, ⟨by decide, by decide⟩, fun r HA r0 r1 kA fA => ⟨r, kA, fA, r0, r1, fun z => by omega, rfl⟩⟩
    · tm_at "go"
      exact ⟨fp, cl, n0, 3, rfl, rfl, f2, by omega, ⟨by decide, by decide⟩, fun r HA r0 r1 kA fA => ⟨r, kA, fA, r0, by omega, fun _ => r1, rfl⟩⟩
  rintro _ HA ⟨r, kA, fA, r0, r13, rz, rfl⟩
  have gpA := kA.k _ _ nlp gp2
  have hpA := hp2.mono kA.t
  have gtA := kA.k _ _ nlt gt
  have htA := ht.mono kA.t
  have hcA := hc2.mono kA.t
  have kHA := k2.trans kA
  refine b_cut (fun σ1 H' => HA = H' ∧ r ≠ 0 ∧ σ1 = [some (.ref fp), some vr, some (.int (n : Int)), some (.ref lp), some (.ref lt), some (.int r), none, none, none, none, none]) ?_ ?_
  · tm_at "go"
    refine ifd (fun c1 => ?_) (fun c1 => ?_)
    · tm_at "go"
      refine e_draw dn ?_
      tm_at "go"
      refine ⟨fp, cl, _, 3, rfl, rfl, fA, by omega, ⟨by decide, by decide⟩, fun q HB q0 q1 kB fB => ?_⟩
      exact k _ _ _ ⟨rs, .int q, rfl, rfl, ⟨by omega, by omega⟩, by show q.natAbs ≤ 2; omega, Nat.zero_le _⟩ (kHA.trans kB) (fB.up (by omega)) (.int q)
    · tm_at "go"
      exact ⟨rfl, c1, rfl⟩
  rintro _ _ ⟨rfl, rn0, rfl⟩
  refine b_cut (fun σ1 H' => HA = H' ∧ 3 ≤ r ∧ σ1 = [some (.ref fp), some vr, some (.int (n : Int)), some (.ref lp), some (.ref lt), some (.int r), none, none, none, none, none]) ?_ ?_
  · tm_at "go"
    refine ifd (fun c1 => ?_) (fun c1 => ?_)
    · tm_at "go"
      refine e_draw dn ?_
      tm_at "go"
      refine rc_lenL (.of gpA) ?_
      refine ⟨fp, cl, _, _, rfl, rfl, fA, by omega, ⟨by omega, by omega⟩, fun q HB q0 q1 kB fB => ?_⟩
      rw [lup] at q1
      refine rx_pick (ds := (plains rs).map .str) (.of (kB.k _ _ nlp gpA)) (hpA.mono kB.t) q0 (by rw [List.length_map]; exact q1) fun v d hd hv => ?_
      rw [List.getElem?_map] at hd
      obtain ⟨s, hs, rfl⟩ := Option.map_eq_some_iff.mp hd
      exact k _ _ _ ⟨rs, .nm s, rfl, rfl, plains_mem (List.mem_of_getElem? hs), trivial, Nat.zero_le _⟩ (kHA.trans kB) (fB.up (by omega)) hv
    · tm_at "go"
      exact ⟨rfl, by omega, rfl⟩
  rintro _ _ ⟨rfl, r3, rfl⟩
  obtain ⟨m, rfl⟩ : ∃ m, n = m + 1 := ⟨n - 1, by omega⟩
  have dr := ih m rfl
  have e1 : (((m + 1 : Nat) : Int) - 1) = (m : Int) := by omega
  have w1 : wT (m + 1) = 3 * wT m + 3 := rfl
  refine b_cut (fun σ1 HB => ∃ eL vL, Kp fp HA HB ∧ Feed M.K HB fp cl (n0 + 1 + wT m) ∧ Dt M.K HB vL (Ex.d eL) ∧ Fit rs eL ∧ Sml 2 eL ∧ eL.dep ≤ m ∧ σ1 = [some (.ref fp), some vr, some (.int ((m + 1 : Nat) : Int)), some (.ref lp), some (.ref lt), some (.int r), some vL, none, none, none, none]) ?_ ?_
  · tm_at "go"
    refine e_callD dr ?_ (by show m + 2 ≤ m + 1 + 1; omega)
    tm_at "go"
    refine ⟨fp, cl, _, _, _, rfl, fA, by omega, .cons hcA (.cons (.int _) .nil), ⟨rs, hrs, by rw [e1]⟩, ?_⟩
    rintro d v HB ⟨rs', e, e2, rfl, fit, sml, dep⟩ kB fB hv
    obtain rfl : rs = rs' := cellsD_inj (List.cons.inj e2).1
    exact ⟨e, v, kB, fB, hv, fit, sml, dep, rfl⟩
  rintro _ HB ⟨eL, vL, kB, fB, hL, fitL, smlL, depL, rfl⟩
  have kHB := kHA.trans kB
  have gtB := kB.k _ _ nlt gtA
  have htB := htA.mono kB.t
  have hcB := hcA.mono kB.t
  refine b_cut (fun σ1 H' => HB = H' ∧ r ≠ 3 ∧ σ1 = [some (.ref fp), some vr, some (.int ((m + 1 : Nat) : Int)), some (.ref lp), some (.ref lt), some (.int r), some vL, none, none, none, none]) ?_ ?_
  · tm_at "go"
    refine ifd (fun c1 => ?_) (fun c1 => ?_)
    · refine b_cons ?_
      refine s_set (by tm_at "at") ?_
      refine e_lstD ?_
      refine a_cons (e_tupD ?_)
      tm_at "mk"
      refine ⟨(Nat.le_of_ble_eq_true rfl), fun lq HC sC nC gC => ?_⟩
      obtain ⟨uq, gq, hq⟩ : ∃ uq, HC lq = some (.lst uq) ∧ DtAll M.K HC uq [.tuple [.str "not", eL.d], .tuple [.str "neg", eL.d], .tuple [.str "div", eL.d, .int 2], .tuple [.str "mod", eL.d, .int 2]] := ⟨_, gC, by tm_at "dts"⟩
      have sBC : Same HB HC := by tm_at "same"
      have nq : lq ≠ fp := ne_feed fB (by tm_at "same") nC
      tm_at "go"
      refine e_draw dn ?_
      tm_at "go"
      refine ⟨fp, cl, _, 4, rfl, rfl, fB.same sBC, by omega, ⟨by decide, by decide⟩, fun q HD q0 q4 kD fD => ?_⟩
      refine rx_pick (ds := [Ex.un "not" eL, Ex.un "neg" eL, Ex.kk "div" eL 2, Ex.kk "mod" eL 2].map Ex.d) (.of (kD.k _ _ nq gq)) (hq.mono kD.t) q0 (by show q < 4; exact q4) fun v d hd hv => ?_
      rw [List.getElem?_map] at hd
      obtain ⟨e', he, rfl⟩ := Option.map_eq_some_iff.mp hd
      have hm := List.mem_of_getElem? he
      have all : Fit rs e' ∧ Sml 2 e' ∧ e'.dep ≤ m + 1 := by
        simp only [List.mem_cons, List.not_mem_nil, or_false] at hm
        rcases hm with rfl | rfl | rfl | rfl
        · exact ⟨⟨by decide +kernel, fitL⟩, smlL, Nat.succ_le_succ depL⟩
        · exact ⟨⟨by decide +kernel, fitL⟩, smlL, Nat.succ_le_succ depL⟩
        · exact ⟨⟨by decide +kernel, fitL, by decide⟩, smlL, Nat.succ_le_succ depL⟩
        · exact ⟨⟨by decide +kernel, fitL, by decide⟩, smlL, Nat.succ_le_succ depL⟩
      exact k _ _ _ ⟨rs, e', rfl, rfl, all⟩ (kHB.trans ((kp_same sBC).trans kD)) (fD.up (by omega)) hv
    · tm_at "go"
      exact ⟨rfl, c1, rfl⟩
  rintro _ _ ⟨rfl, rn3, rfl⟩
  refine b_cut (fun σ1 H' => Same HB H' ∧ σ1 = [some (.ref fp), some vr, some (.int ((m + 1 : Nat) : Int)), some (.ref lp), some (.ref lt), some (.int r), some vL, none, none, none, none]) ?_ ?_
  · tm_at "go"
    refine ifd (fun c1 => ?_) (fun c1 => ?_)
    · tm_at "go"
      refine e_lstD ?_
      tm_at "go"
      refine ⟨(Nat.le_of_ble_eq_true rfl), fun lz HC sC nC gC => ?_⟩
      refine ro_neNil (n := 1) (sC _ _ gtB) (htB.mono (tp_same sC)) (fun d hd => ?_) (by decide) gC ?_
      · obtain ⟨s, hs, rfl⟩ := List.mem_map.mp hd
        obtain ⟨r', hr', rfl, _⟩ := tabs_mem hs
        exact shp_str (okn r' hr')
      refine ⟨_, rfl, ifb (fun e => ?_) (fun e => ?_)⟩
      · have tpos : 0 < (tabs rs).length := by
          cases htb : tabs rs with
          | nil => rw [htb] at e; cases e
          | cons => exact Nat.succ_pos _
        tm_at "go"
        refine e_tupD ?_
        tm_at "go"
        refine rx_pick (ds := (tabs rs).map .str) (.of (sC _ _ gtB)) (htB.mono (tp_same sC)) (by decide) (by rw [List.length_map]; omega) fun v d hd hv => ?_
        rw [List.getElem?_map] at hd
        obtain ⟨s, hs, rfl⟩ := Option.map_eq_some_iff.mp hd
        tm_at "go"
        refine tupend (.cons (.str _) (.cons hv (.cons (hL.mono (tp_same sC)) .nil))) (Nat.le_of_ble_eq_true rfl) fun v4 HD sD hD => ?_
        exact k _ _ _ ⟨rs, .at s eL, rfl, rfl, ⟨tabs_mem (List.mem_of_getElem? hs), fitL⟩, smlL, Nat.succ_le_succ depL⟩ (kHB.trans (kp_same (sC.trans sD))) (((fB.same sC).same sD).up (by omega)) hD
      · tm_at "go"
        exact ⟨sC, rfl⟩
    · refine iff0 ?_
      tm_at "go"
      exact ⟨Same.refl _, rfl⟩
  rintro _ HC ⟨sC, rfl⟩
  have fC := fB.same sC
  have hLC := hL.mono (tp_same sC)
  have hcC := hcB.mono (tp_same sC)
  have kHC := kHB.trans (kp_same sC)
  refine b_cut (fun σ1 HD => ∃ eR vR, Kp fp HC HD ∧ Feed M.K HD fp cl (n0 + 1 + wT m + wT m) ∧ Dt M.K HD vR (Ex.d eR) ∧ Fit rs eR ∧ Sml 2 eR ∧ eR.dep ≤ m ∧ σ1 = [some (.ref fp), some vr, some (.int ((m + 1 : Nat) : Int)), some (.ref lp), some (.ref lt), some (.int r), some vL, none, some vR, none, none]) ?_ ?_
  · tm_at "go"
    refine e_callD dr ?_ (by show m + 2 ≤ m + 1 + 1; omega)
    tm_at "go"
    refine ⟨fp, cl, _, _, _, rfl, fC, by omega, .cons hcC (.cons (.int _) .nil), ⟨rs, hrs, by rw [e1]⟩, ?_⟩
    rintro d v HB ⟨rs', e, e2, rfl, fit, sml, dep⟩ kB fB hv
    obtain rfl : rs = rs' := cellsD_inj (List.cons.inj e2).1
    exact ⟨e, v, kB, fB, hv, fit, sml, dep, rfl⟩
  rintro _ HD ⟨eR, vR, kD, fD, hR, fitR, smlR, depR, rfl⟩
  have hLD := hLC.mono kD.t
  have hcD := hcC.mono kD.t
  have kHD := kHC.trans kD
  refine b_cut (fun σ1 H' => HD = H' ∧ r ≠ 5 ∧ σ1 = [some (.ref fp), some vr, some (.int ((m + 1 : Nat) : Int)), some (.ref lp), some (.ref lt), some (.int r), some vL, none, some vR, none, none]) ?_ ?_
  · tm_at "go"
    refine ifd (fun c1 => ?_) (fun c1 => ?_)
    · tm_at "go"
      refine e_tupD ?_
      tm_at "go"
      refine e_callD dr ?_ (by show m + 2 ≤ m + 1 + 1; omega)
      tm_at "go"
      refine ⟨fp, cl, _, _, _, rfl, fD, by omega, .cons hcD (.cons (.int _) .nil), ⟨rs, hrs, by rw [e1]⟩, ?_⟩
      rintro d v HE ⟨rs', e, e2, rfl, fit, sml, dep⟩ kE fE hv
      obtain rfl : rs = rs' := cellsD_inj (List.cons.inj e2).1
      tm_at "go"
      refine tupend (.cons (.str _) (.cons (hLD.mono kE.t) (.cons (hR.mono kE.t) (.cons hv .nil)))) (Nat.le_of_ble_eq_true rfl) fun v4 HF sF hF => ?_
      exact k _ _ _ ⟨rs, .ite eL eR e, rfl, rfl, ⟨fitL, fitR, fit⟩, ⟨smlL, smlR, sml⟩, by simp only [Ex.dep]; omega⟩ ((kHD.trans kE).trans (kp_same sF)) ((fE.same sF).up (by omega)) hF
    · tm_at "go"
      exact ⟨rfl, c1, rfl⟩
  rintro _ _ ⟨rfl, rn5, rfl⟩
  obtain ⟨w, hw, hwb⟩ := wordsT_bins (r - 4).toNat (by omega) (by omega)
  refine b_cons ?_
  refine s_set (by tm_at "at") ?_
  refine e_lstD ?_
  tm_at "go"
  refine ⟨(Nat.le_of_ble_eq_true rfl), fun lw HE sE nE gE => ?_⟩
  tm_at "go"
  refine e_tupD ?_
  tm_at "go"
  refine rx_pick (ds := wordsT.map .str) (.of gE) (dtStrs wordsT) (by omega) (by show r - 4 < 9; omega) fun v d hd hv => ?_
  rw [List.getElem?_map, hw] at hd
  cases hd
  tm_at "go"
  refine tupend (.cons hv (.cons (hLD.mono (tp_same sE)) (.cons (hR.mono (tp_same sE)) .nil))) (Nat.le_of_ble_eq_true rfl) fun v4 HF sF hF => ?_
  exact k _ _ _ ⟨rs, .bin w eL eR, rfl, rfl, ⟨hwb, fitL, fitR⟩, ⟨smlL, smlR⟩, by simp only [Ex.dep]; omega⟩ (kHD.trans (kp_same (sE.trans sF))) (((fD.same sE).same sF).up (by omega)) hF
end K

local macro_rules | `(tactic| tm_at "mk") => `(tactic| repeat (first | (refine gRE ?_; refine e_tupD ?_) | tm_at "s" | (refine gRB ?_; first | refine b_one ?_ | refine b_cons ?_) | (refine tupend (by tm_at "dts") (Nat.le_of_ble_eq_true rfl) fun v H s h => ?_)))
namespace K
open PySem PySem.Spec PyProof.Rows L2 G
variable {M : Md}
def spLaw (K : PySem.W.Frag) : Sp := fun vs H Q _ => ∃ (sl : Addr) (ns : List Int), vs = [.ref sl] ∧ SqL K H sl (ns.map V.int) ∧ ∀ H', Q (.bl true) H'
theorem wide_fact : decide (vals rsW (.nm "x") = vals rsW (.bin "least" (.nm "x") (.int 254))) = false ∧ decide (vals rsW (.nm "x") = vals rsW (.bin "least" (.nm "x") (.int 255))) = true := by decide +kernel
theorem prevE : ∀ t : Nat, t < 17 → ∃ e ∈ handE, atI (handE.map Ex.d) ((t : Int) - 1) = some e.d
  | 0, _ => ⟨.bin "*" (.int 0) (.at "t" (.int 5)), by simp [handE, hE], rfl⟩
  | t + 1, h => by
    have hl : t < handE.length := Nat.lt_of_succ_lt h
    refine ⟨handE[t], List.getElem_mem hl, ?_⟩
    refine pl_at (j := t) (by omega) ?_
    rw [List.getElem?_map, List.getElem?_eq_getElem hl]
    rfl
abbrev dcRight (M : Md) : Prop := DcQ M "_law_is_right" ["_law_rows_here", "_law_states", "_law_left", "_law_two"] 21 (spRight M.K)
set_option maxHeartbeats 8000000 in
theorem ok_law {f fd} (F : Fun M.K "law" "law" s_law f fd) (b : Bl M) (b2 : Bl2 M) (dsr : Dc M "_law_source" ["_law_script"] 1 (spSrc M.K)) (dro : Dc M "_law_rows" ["_law_source_here"] 2 (spD 1 pre0 rRows M.K)) (dal : DcG M "all_states" ["program"] 4 (spAll M.K)) (dt3 : dcTerm M 3) (dt2 : dcTerm M 2)
    (dri : dcRight M) (dsa : Dc M "are_same" ["cells", "one", "other"] 14 (spF rSame M.K)) (dha : Dc M "_law_by_hand" [] 1 (spHand M.K)) : FnQ M.prog M.w M.K M.mg M.base CX0 22 f fd ["_law_script"] (spLaw M.K) := by
  refine fn_okQ F sc_law (fun vs H Q E h => ?_) (fun H vs Q E h => ?_)
  · obtain ⟨sl, ns, rfl, _⟩ := h
    rfl
  obtain ⟨sl, ns, rfl, hs, k⟩ := h
  refine b_cut (fun σ1 H1 => ∃ fp cl, σ1 = [some (.ref sl), some (.ref fp), none, none, none, none, none, none, none, none] ∧ Feed M.K H1 fp cl 0) ?_ ?_
  · tm_at "go"
    refine e_call dsr ?_
    tm_at "go"
    exact ⟨sl, ns, rfl, hs, fun p cl H1 s1 _ _ f1 => ⟨p, cl, rfl, f1⟩⟩
  rintro _ H1 ⟨fp, cl, rfl, f1⟩
  have w3 : wT 3 = 120 := rfl
  have w2 : wT 2 = 39 := rfl
  refine b_cut (fun σ1 H2 => ∃ v2 v3 v4 v5 v6, σ1 = [some (.ref sl), some (.ref fp), v2, v3, v4, v5, v6, none, none, none]) ?_ ?_
  · refine s_forR1 b.range ?_
    tm_at "go"
    refine ⟨by decide, by decide, fun i σ' H' => ∃ v2 v3 v4 v5 v6, σ' = [some (.ref sl), some (.ref fp), v2, v3, v4, v5, v6, none, none, none] ∧ Feed M.K H' fp cl (160 * i), ⟨_, _, _, _, _, rfl, f1⟩, ?_, ?_⟩
    · rintro i σ' H2 hi ⟨v2, v3, v4, v5, v6, rfl, f2⟩
      have hi4 : i < 4 := hi
      refine g_name (by tm_at "at") ?_
      refine b_cons ?_
      refine s_set (by tm_at "at") ?_
      refine e_callD dro ?_
      tm_at "go"
      refine ⟨fp, cl, [], [], _, rfl, f2, by omega, .nil, rfl, ?_⟩
      rintro d vr H3 ⟨rs, hrs, rfl⟩ k3 f3 h3
      obtain ⟨R, gr⟩ := rows_s (List.mem_cons_of_mem rsW hrs)
      have L := low_fact rs hrs
      refine b_cons ?_
      refine s_set (by tm_at "at") ?_
      refine e_listG dal b.list ?_
      refine a_cons ?_
      refine e_tupD ?_
      refine a_cons (e_var (by tm_at "at") ?_)
      refine a_cons (e_tupD (a_nil ?_))
      refine tupend (ds := []) .nil (Nat.le_of_ble_eq_true rfl) fun x1 H4 s4 h4 => ?_
      refine a_cons (e_tupD (a_nil ?_))
      refine tupend (ds := []) .nil (Nat.le_of_ble_eq_true rfl) fun x2 H5 s5 h5 => ?_
      refine a_cons (e_int (a_nil ?_))
      refine tupend (.cons (h3.mono (tp_same (s4.trans s5))) (.cons (h4.mono (tp_same s5)) (.cons h5 (.cons (.int 1) .nil)))) (Nat.le_of_ble_eq_true rfl) fun x3 H6 s6 h6 => ?_
      refine a_nil ⟨x3, rs, _, rfl, h6, R.sm, fun out H7 s7 h7 l nl => ?_⟩
      have s8 := same_new (o := .lst out) nl
      have g8 : (upd H7 l (.lst out)) l = some (.lst out) := upd_same
      have h8 := h7.mono (tp_same s8)
      have s38 : Same H3 (upd H7 l (.lst out)) := s4.trans (s5.trans (s6.trans (s7.trans s8)))
      have nf : l ≠ fp := ne_feed f3 (s4.trans (s5.trans (s6.trans s7))) nl
      show RB _ _ _ _ (upd H7 l (.lst out))
      generalize upd H7 l (.lst out) = H8 at *
      have f8 := f3.same s38
      have c8 := h3.mono (tp_same s38)
      refine b_cut (fun σ1 H9 => ∃ e1 e2 x y, σ1 = [some (.ref sl), some (.ref fp), some (.int (i : Int)), some vr, some (.ref l), some x, some y, none, none, none] ∧ Feed M.K H9 fp cl (160 * i + 160) ∧ Ask M.K H9 rs e1 vr x l out ∧ Ask M.K H9 rs e2 vr y l out ∧ e1.dep ≤ 3 ∧ e2.dep ≤ 2 ∧ Sml 2 e1 ∧ Sml 2 e2) ?_ ?_
      · refine s_par2 (by tm_at "at") (by tm_at "at") ?_
        refine e_callD dt3 ?_
        tm_at "go"
        refine ⟨fp, cl, _, _, _, rfl, f8, by omega, .cons c8 (.cons (.int _) .nil), ⟨rs, hrs, rfl⟩, ?_⟩
        rintro d x HA ⟨rs', e1, q1, rfl, fit1, sml1, dep1⟩ kA fA hx
        obtain rfl : rs = rs' := cellsD_inj (List.cons.inj q1).1
        refine e_callD dt2 ?_
        tm_at "go"
        refine ⟨fp, cl, _, _, _, rfl, fA, by omega, .cons (c8.mono kA.t) (.cons (.int _) .nil), ⟨rs, hrs, rfl⟩, ?_⟩
        rintro d y HB ⟨rs', e2, q2, rfl, fit2, sml2, dep2⟩ kB fB hy
        obtain rfl : rs = rs' := cellsD_inj (List.cons.inj q2).1
        have kAB := kA.trans kB
        exact ⟨e1, e2, x, y, rfl, fB.up (by omega), ⟨R, fit1, by omega, c8.mono kAB.t, hx.mono kB.t, kAB.k _ _ nf g8, h8.mono kAB.t⟩, ⟨R, fit2, by omega, c8.mono kAB.t, hy, kAB.k _ _ nf g8, h8.mono kAB.t⟩, dep1, dep2, sml1, sml2⟩
      rintro _ H9 ⟨e1, e2, x, y, rfl, f9, A1, A2, d1, d2, m1, m2⟩
      have ff1 : Fit rs (fold rs e1) := fold_fit (A := 2) (by decide) R L A1.fit m1 (Nat.le_trans (bn_mono (by decide) d1) (by decide))
      have ff2 : Fit rs (fold rs e2) := fold_fit (A := 2) (by decide) R L A2.fit m2 (Nat.le_trans (bn_mono (by decide) d2) (by decide))
      tm_at "go"
      refine t_val ?_
      refine e_callQ dri ?_
      tm_at "go"
      refine ⟨rs, e1, e2, vr, x, y, l, out, rfl, A1, A2, d1, by omega, ff1, gr, fun HA sA => ⟨_, rfl, iff0 ?_⟩⟩
      have B2 := A2.same sA
      tm_at "go"
      refine t_val ?_
      refine e_callQ dri ?_
      tm_at "go"
      refine e_tupD ?_
      tm_at "go"
      refine tupend (.cons (.str _) (.cons B2.x (.cons (.int 0) .nil))) (Nat.le_of_ble_eq_true rfl) fun z HB sB hz => ?_
      refine a_nil ?_
      have C2 := B2.same sB
      refine ⟨rs, e2, .bin "+" e2 (.int 0), vr, y, z, l, out, rfl, C2, ⟨C2.R, ⟨by decide +kernel, C2.fit, ⟨by decide, by decide⟩⟩, by simp only [Ex.dep]; omega, C2.c, hz, C2.g, C2.d⟩, by omega, by simp only [Ex.dep]; omega, ff2, gr, fun HC sC => ⟨_, rfl, iff0 ?_⟩⟩
      tm_at "go"
      exact ⟨_, _, _, _, _, rfl, ((f9.same sA).same sB).same sC |>.up (by omega)⟩
    · rintro σ' H2 ⟨v2, v3, v4, v5, v6, rfl, _⟩
      exact ⟨_, _, _, _, _, rfl⟩
  rintro _ H2 ⟨v2, v3, v4, v5, v6, rfl⟩
  obtain ⟨R, gr⟩ := rows_s (List.mem_cons_of_mem rsW rs3_in)
  obtain ⟨RW, _⟩ := rows_s (List.mem_cons_self (a := rsW) (l := rs4))
  refine b_cut (fun σ1 H3 => ∃ vr, Dt M.K H3 vr (cellsD rs3) ∧ σ1 = [some (.ref sl), some (.ref fp), v2, some vr, v4, v5, v6, none, none, none]) ?_ ?_
  · refine s_set (by tm_at "at") ?_
    refine e_tupD ?_
    tm_at "mk"
    exact ⟨_, by assumption, rfl⟩
  rintro _ H3 ⟨vr, hr, rfl⟩
  refine b_cut (fun σ1 H4 => ∃ vw, Same H3 H4 ∧ Dt M.K H4 vw (cellsD rsW) ∧ σ1 = [some (.ref sl), some (.ref fp), v2, some vr, v4, v5, v6, some vw, none, none]) ?_ ?_
  · refine s_set (by tm_at "at") ?_
    refine e_tupD ?_
    tm_at "mk"
    exact ⟨_, by tm_at "same", by assumption, rfl⟩
  rintro _ H4 ⟨vw, s4, hw, rfl⟩
  refine b_cut (fun σ1 H5 => Same H4 H5 ∧ σ1 = [some (.ref sl), some (.ref fp), v2, some vr, v4, v5, v6, some vw, none, none]) ?_ ?_
  · tm_at "go"
    refine e_lstD ?_
    refine a_cons ?_
    refine e_callF dsa ?_
    tm_at "go"
    refine e_tupD ?_
    tm_at "go"
    refine tupend (.cons (.str _) (.cons (.str _) (.cons (.int 254) .nil))) (Nat.le_of_ble_eq_true rfl) fun x5 H5 s5 h5 => ?_
    have fx : Fit rsW (.nm "x") ∧ (Ex.nm "x").dep ≤ 4 := ⟨fitB_ok _ (by decide +kernel), Nat.zero_le _⟩
    refine a_nil ⟨_, _, .cons (hw.mono (tp_same s5)) (.cons (.str _) (.cons h5 .nil)), ⟨rsW, .nm "x", .bin "least" (.nm "x") (.int 254), rfl, RW, fx, ⟨fitB_ok _ (by decide +kernel), by decide⟩, rfl⟩, fun v6 H6 s6 h6 => ?_⟩
    rw [wide_fact.1] at h6
    cases h6
    refine a_cons ?_
    refine e_callF dsa ?_
    tm_at "go"
    refine e_tupD ?_
    tm_at "go"
    refine tupend (.cons (.str _) (.cons (.str _) (.cons (.int 255) .nil))) (Nat.le_of_ble_eq_true rfl) fun x7 H7 s7 h7 => ?_
    refine a_nil ⟨_, _, .cons (hw.mono (tp_same (s5.trans (s6.trans s7)))) (.cons (.str _) (.cons h7 .nil)), ⟨rsW, .nm "x", .bin "least" (.nm "x") (.int 255), rfl, RW, fx, ⟨fitB_ok _ (by decide +kernel), by decide⟩, rfl⟩, fun v8 H8 s8 h8 => ?_⟩
    rw [wide_fact.2] at h8
    cases h8
    refine a_nil ⟨(Nat.le_of_ble_eq_true rfl), fun pa Ha sa na ga => ?_⟩
    refine e_lstD ?_
    tm_at "go"
    refine ⟨(Nat.le_of_ble_eq_true rfl), fun pb Hb sb nb gb => ?_⟩
    refine ro_neD (d := .list [.bool false, .bool true]) (e := .list [.bool false, .bool true]) (.lst (.of (sb _ _ ga)) (.cons (.bl _) (.cons (.bl _) .nil))) (.lst (.of gb) (.cons (.bl _) (.cons (.bl _) .nil))) (by decide) (by decide) ?_
    rw [show PyData.eqv (.list [.bool false, .bool true]) (.list [.bool false, .bool true]) = true from by simp [PyData.eqv, PyData.eqvAll]]
    refine ⟨_, rfl, iff0 ?_⟩
    tm_at "go"
    exact ⟨s5.trans (s6.trans (s7.trans (s8.trans (sa.trans sb)))), rfl⟩
  rintro _ H5 ⟨s5, rfl⟩
  have c5 := hr.mono (tp_same (s4.trans s5))
  refine b_cut (fun σ1 H6 => ∃ l out lh uh, σ1 = [some (.ref sl), some (.ref fp), v2, some vr, some (.ref l), v5, v6, some vw, some (.ref lh), none] ∧ Dt M.K H6 vr (cellsD rs3) ∧ H6 l = some (.lst out) ∧ DtAll M.K H6 out ((statesOf (rg rs3)).map stD) ∧ H6 lh = some (.lst uh) ∧ DtAll M.K H6 uh (handE.map Ex.d)) ?_ ?_
  · refine s_par2c (by tm_at "at") (by tm_at "at") ?_
    refine e_listG dal b.list ?_
    refine a_cons ?_
    refine e_tupD ?_
    refine a_cons (e_var (by tm_at "at") ?_)
    refine a_cons (e_tupD (a_nil ?_))
    refine tupend (ds := []) .nil (Nat.le_of_ble_eq_true rfl) fun x1 H6 s6 h6 => ?_
    refine a_cons (e_tupD (a_nil ?_))
    refine tupend (ds := []) .nil (Nat.le_of_ble_eq_true rfl) fun x2 H7 s7 h7 => ?_
    refine a_cons (e_int (a_nil ?_))
    refine tupend (.cons (c5.mono (tp_same (s6.trans s7))) (.cons (h6.mono (tp_same s7)) (.cons h7 (.cons (.int 1) .nil)))) (Nat.le_of_ble_eq_true rfl) fun x3 H8 s8 h8 => ?_
    refine a_nil ⟨x3, rs3, _, rfl, h8, R.sm, fun out H9 s9 h9 l nl => ?_⟩
    have sn := same_new (o := .lst out) nl
    refine e_call0 dha ?_
    refine ⟨rfl, fun lh uh HZ sZ nB gZ hZ HB sY => ?_⟩
    have sB := sZ.trans sY
    have gB := sY _ _ gZ
    have hB := hZ.mono (tp_same sY)
    exact ⟨l, out, lh, uh, rfl, c5.mono (tp_same (s6.trans (s7.trans (s8.trans (s9.trans (sn.trans sB)))))), sB _ _ upd_same, h9.mono (tp_same (sn.trans sB)), gB, hB⟩
  rintro _ H6 ⟨l, out, lh, uh, rfl, c6, g6, h6, gh, hh⟩
  have lu := hh.len
  have lE : (handE.map Ex.d).length = 17 := rfl
  refine b_one ?_
  refine s_ret ?_
  refine e_cmp ?_
  refine e_lc (own := [("_law_k", 9)]) (Blk.of (N := N_law) (sc := defScope s_law) rfl rfl (by decide +kernel)) ?_
  refine lcR1_F (fun _ => none) b.range ?_
  tm_at "go"
  refine rc_lenL (.of gh) ?_
  rw [lu, lE]
  refine ⟨17, rfl, ⟨by decide, by decide⟩, fun t H7 ht s7 => ?_, fun p us H8 s8 n8 g8 h8 => ?_⟩
  · have ht17 : t < 17 := ht
    refine g_name (by tm_at "at") ⟨rfl, rfl, ts_one ?_⟩
    tm_at "go"
    refine t_val ?_
    refine e_callQ dri ?_
    tm_at "go"
    have hl : t < handE.length := ht17
    have hh7 := hh.mono (tp_same s7)
    obtain ⟨x, hx, dx⟩ := hh7.get (i := t) (d := (handE[t]).d) (by rw [List.getElem?_map, List.getElem?_eq_getElem hl]; rfl)
    refine rx_list (.of (s7 _ _ gh)) (pl_at (j := t) rfl hx) ?_
    tm_at "go"
    obtain ⟨e2, m2, q2⟩ := prevE t ht17
    obtain ⟨y, hy, dy⟩ := atI_map (R := fun v d => Dt M.K H7 v d) hh7.len q2 fun j y hj => hh7.get hj
    refine rx_list (.of (s7 _ _ gh)) hy ?_
    obtain ⟨a1, a2, a3⟩ := hand_ok (List.getElem_mem hl)
    obtain ⟨b1, b2', b3⟩ := hand_ok m2
    have c7 := c6.mono (tp_same s7)
    refine a_nil ⟨rs3, handE[t], e2, vr, x, y, l, out, rfl, ⟨R, a1, by omega, c7, dx, s7 _ _ g6, h6.mono (tp_same s7)⟩, ⟨R, b1, by omega, c7, dy, s7 _ _ g6, h6.mono (tp_same s7)⟩, a2, b2', a3, gr, fun H9 s9 => ⟨_, rfl, s9, rfl⟩⟩
  · have e : (List.range (17 : Int).toNat).filterMap (fun _ => (none : Option PyData)) = [] := by simp
    rw [e] at h8
    cases h8
    refine e_lstD ?_
    tm_at "go"
    refine ⟨(Nat.le_of_ble_eq_true rfl), fun q H9 s9 n9 g9 => ?_⟩
    refine ro_eqNil (ds := []) (n := 1) (s9 _ _ g8) .nil (fun d hd => nomatch hd) (by decide) g9 ?_
    exact k _
end K

namespace G
open PySem PySem.Spec PyProof.Rows L2
/-! ### the law's call, for a def that is proved where no text of an object is being written -/
section
variable {P : Program} {w : World} {K : PySem.W.Frag} {mg mb : Str → Option Value} {k : Nat}
variable {fa sc : Addr} {fd : FuncData} {x : Str} {sp : Sp} {st : Shared} {us : List Value} {ns : List Int}
abbrev scrO (us : List Value) : Obj := { cls := .type "list", data := .seq us.toArray }
/-- how the call ends -/
abbrev Ended (st : Shared) : Result → Shared → Prop := fun r s2 =>
  r = .ok (.ret (.bool true)) ∧ OldK st.heap s2.heap ∧ s2.os = st.os ∧ AllBare s2.gens
theorem begun {H : Hp} (kin : K.In st.heap) (nsg : st.heap.Ns mainGlobals mg) (nsb : st.heap.Ns builtinsNs mb)
    (bis : ∀ y : Str, y ≠ "__name__" → mb y = bootBuiltins y) (lim : st.heap.NoLimit) (gens : st.gens = #[])
    (obj : st.heap.get? sc = some (scrO us)) (ars : IntsAre us ns) (few : ns.length ≤ sizeLine) (room : Room k callerA)
    (F : ∀ bs : Heap, K.In bs → bs.Ns mainGlobals mg → FnQ P w K mg bs CX0 k fa fd [x] sp)
    (bnd : ∀ (s : Shared) (u : Value), BindsTo s fd ⟨[u], []⟩ [(x, u)])
    (seen : ∀ b u, H b = some u → b = sc ∧ K.lookup sc = none ∧ u = .frz (scrO us) (.lst (ns.map V.int)))
    (want : sp [.ref sc] H (fun v _ => v = .bl true) fun _ _ _ => False) :
    codeAny (model P w) callerA (.call (.ref fa) ⟨[.ref sc], []⟩) (Ended st) st := by
  have clear : ∀ {b : Addr}, b ≠ sc → H b = none := fun {b} nb => by
    cases e : H b with
    | none => rfl
    | some u => exact absurd (seen b u e).1 nb
  have far : ∀ {b : Addr} {m : Str → Option Value}, st.heap.Ns b m → (hidT st.heap H).Ns b m := by
    rintro b m ⟨o, es, ep, e, isd, r⟩
    refine ⟨o, es, ep, hidT_get e (clear fun q => ?_), isd, r⟩
    subst q
    cases obj.symm.trans e
    have isd2 : Data.seq us.toArray _ = Data.dict es ep := isd
    cases isd2
  have mod : Mod K mg (hidT st.heap H) := by
    refine ⟨fun b o e => hidT_get (kin b o e) ?_, far nsg, ⟨mb, far nsb, bis⟩, ?_⟩
    · cases q : H b with
      | none => rfl
      | some u =>
        obtain ⟨rfl, non, _⟩ := seen b u q
        cases non.symm.trans e
    · obtain ⟨mc, l1, l2⟩ := lim
      exact ⟨mc, far l1, l2⟩
  have laid : HOk P w H st.heap := fun b u q => by
    obtain ⟨rfl, _, rfl⟩ := seen b u q
    exact ⟨obj, by rw [List.length_map]; exact few, us, _, vals_ints ars, obj⟩
  have env : Env0 P w K mg (hidT st.heap H) callerA [] st H :=
    { frames := rfl
      mod := mod
      bs := fun _ _ => of_hidT
      bsz := Nat.le_of_eq (hidT_size ..)
      funs := trivial
      frf := fun b q => absurd (show b ∈ ([] : List Addr) from q) List.not_mem_nil
      hok := laid
      bare := .of_eq gens }
  have run := (F _ mod.kin mod.glob).run callerA [] st H ⟨[.ref sc], []⟩ [.ref sc] [.ref sc] _ _ rfl room env (bnd st _) (.cons rfl .nil) want
  refine codeAny_mono run fun r s2 z => ?_
  match r, z with
  | .ok (.ret u), ⟨v, H2, os2, bare2, un2, laid2, rv2, q2⟩ =>
    obtain rfl : v = .bl true := q2
    obtain rfl : u = Value.bool true := rv2
    refine ⟨rfl, .of_keep fun b o e => ?_, os2, bare2⟩
    cases q : H b with
    | none => exact un2.keep b o e q (fun m => absurd (show b ∈ ([] : List Addr) from m) List.not_mem_nil) List.not_mem_nil
    | some y =>
      obtain ⟨rfl, _, rfl⟩ := seen b y q
      obtain ⟨e2, _⟩ := laid2 b _ (un2.frzs b _ _ q)
      cases obj.symm.trans e
      exact e2
theorem begunAll (kin : K.In st.heap) (nsg : st.heap.Ns mainGlobals mg) (nsb : st.heap.Ns builtinsNs mb)
    (bis : ∀ y : Str, y ≠ "__name__" → mb y = bootBuiltins y) (lim : st.heap.NoLimit) (gens : st.gens = #[])
    (obj : st.heap.get? sc = some (scrO us)) (ars : IntsAre us ns) (few : ns.length ≤ sizeLine) (room : Room k callerA)
    (F : ∀ bs : Heap, K.In bs → bs.Ns mainGlobals mg → FnQ P w K mg bs CX0 k fa fd [x] sp)
    (bnd : ∀ (s : Shared) (u : Value), BindsTo s fd ⟨[u], []⟩ [(x, u)])
    (want : ∀ H : Hp, SqL K H sc (ns.map V.int) → sp [.ref sc] H (fun v _ => v = .bl true) fun _ _ _ => False) :
    codeAny (model P w) callerA (.call (.ref fa) ⟨[.ref sc], []⟩) (Ended st) st := by
  cases lk : K.lookup sc with
  | none =>
    let H1 : Hp := fun b => if b = sc then some (.frz (scrO us) (.lst (ns.map V.int))) else none
    have h1 : H1 sc = some (.frz (scrO us) (.lst (ns.map V.int))) := if_pos rfl
    refine begun (H := H1) kin nsg nsb bis lim gens obj ars few room F bnd (fun b u q => ?_) (want H1 (.inl (.inr ⟨_, h1⟩)))
    by_cases e : b = sc
    · subst e
      exact ⟨rfl, lk, Option.some.inj (q.symm.trans h1)⟩
    · have q2 : H1 b = none := if_neg e
      cases q2.symm.trans q
  | some o =>
    have len := ars.length
    cases obj.symm.trans (kin sc o lk)
    have sq : SqL K (fun _ => none) sc (ns.map V.int) := by
      refine .inr ⟨_, us.toArray, _, lk, rfl, rfl, rfl, ?_, ?_⟩
      · rw [List.size_toArray, len]
        exact few
      · simpa using vals_ints ars
    exact begun (H := fun _ => none) kin nsg nsb bis lim gens obj ars few room F bnd (fun _ _ q => nomatch q) (want _ sq)
end
end G
namespace G
open PySem PySem.Spec PyProof.Rows L2
theorem walk_begun {l : PySem.W.OpenLaw} {n k : Nat} {q : Program} {loose : List Str} {d : DefRec} {x : Str}
    {XP : (Str → Option Value) → Heap → Prop} {YP : World → Heap → Prop} (most : l.most = some n) (small : n ≤ sizeLine) (nod : d.params.defaults = [])
    (room : Room k callerA) (F : ∀ (w : World) (mg : Str → Option Value) (fa : Addr) (h : Heap), YP w h → h.Ns mainGlobals mg →
      mg d.name = some (.ref fa) → ∃ (K : PySem.W.Frag) (fd : FuncData) (sp : Sp), K.In h ∧
        (∀ (s : Shared) (u : Value), BindsTo s fd ⟨[u], []⟩ [(x, u)]) ∧
        (∀ (H : Hp) (a : Addr) (ns : List Int), ns.length ≤ n → SqL K H a (ns.map V.int) →
          sp [.ref a] H (fun v _ => v = .bl true) fun _ _ _ => False) ∧
        ∀ bs : Heap, K.In bs → bs.Ns mainGlobals mg → FnQ l.prog w K mg bs CX0 k fa fd [x] sp) :
    PySem.W.WalkO q loose XP YP l.row.toRowW d [] (fun f vs => PySem.call f vs) := by
  refine Att.attach_call most nod ?_
  intro w s0 s1 mg mb fa o pm cd doc a vs ns T Y _ _ _ hmg obj ars len gens
  obtain ⟨K, fd, sp, kin, bnd, want, ok⟩ := F w mg fa _ Y T.T.g hmg
  exact begunAll kin T.T.g T.T.b T.T.builtins T.T.nolimit gens obj ars (Nat.le_trans len small) room ok bnd fun H sq => want H a ns len sq
end G

namespace K
open PySem PySem.Spec PyProof.Rows L2 G
theorem fun_of {F : PySem.W.Frag} {x qual : Str} {st : Stmt} {f : Addr} {fd : FuncData} {kws : List (Str × V)} (z : FunD F x qual (defArgs st) (defBody st) (defScope st) [] kws f fd) : Fun F x qual st f fd := by
  obtain ⟨oc, od, dV, kV, doc, pm, an, cdv, ct, osl, e, lk, hcd, hD, _⟩ := z.ex
  rcases hD with ⟨_, rfl⟩ | ⟨h, _⟩
  · exact ⟨⟨oc, od, kV, doc, pm, an, cdv, ct, osl, e, lk, hcd⟩, z.kp⟩
  · exact absurd rfl h
theorem dc_of {M : Md} {x : Str} {st : Stmt} {f : Addr} {fd : FuncData} {ps : List Str} {k : Nat} {sp : Sp} (z : FunD M.K x x (defArgs st) (defBody st) (defScope st) [] [] f fd) (hm : M.mg x = some (.ref f))
    (hb : ∀ (kV doc pm : Value) (an : Option Addr) (cdv ct : Value) (us : List Value), us.length = ps.length → bindArgs (PySem.W.fnOf x x (defArgs st) (defBody st) (defScope st) .none kV doc pm an cdv ct) ⟨us, []⟩ = pure (ps.zip us))
    (ok : Fun M.K x x st f fd → FnG M.prog M.w M.K M.mg M.base CX0 k f fd ps sp) : Dc M x ps k sp := ⟨f, fd, ok (fun_of z), hm, z.kp, z.bindsN hb⟩
theorem kw_ofG {K : PySem.W.Frag} {x : Str} {st : Stmt} {f : Addr} {fd : FuncData} {kws : List (Str × V)} {ag : Args} {bs : List (Str × Value)} (z : FunD K x x (defArgs st) (defBody st) (defScope st) [] kws f fd)
    (h : ∀ (kV doc pm : Value) (an : Option Addr) (cdv ct : Value), bindArgs (PySem.W.fnOf x x (defArgs st) (defBody st) (defScope st) .none kV doc pm an cdv ct) ag = pure bs) (s : Shared) : BindsTo s fd ag bs := by
  obtain ⟨_, _, _, kV, doc, pm, an, cdv, ct, _, e, _, _, hD, _⟩ := z.ex
  subst e
  rcases hD with ⟨_, e⟩ | ⟨e, _⟩
  · subst e
    exact .of_eq (h kV doc pm an cdv ct)
  · exact absurd rfl e
set_option maxHeartbeats 4000000 in
theorem whole {M : Md} (b : Bl M) (b2 : Bl2 M) (g46 : Gl46 M) (lz : Lz M)
    (D : ∀ (i : Nat) (d : He.DefD), fns[i]? = some d → ∃ fd, FunD M.K d.name d.qual d.params d.body d.scope (d.dvs M.K) (d.kws M.K) (He.fAd M.K d.at_) fd) (g : ∀ (i : Nat) (x : Str), fas[i]? = some (.glo x) → M.mg x = some (.ref (He.ga M.K x)))
    {fd : FuncData} (zl : FunD M.K "law" "law" (defArgs s_law) (defBody s_law) (defScope s_law) [] [] (He.ga M.K "law") fd) : FnQ M.prog M.w M.K M.mg M.base CX0 22 (He.ga M.K "law") fd ["_law_script"] (spLaw M.K) := by
  obtain ⟨w_row_width, z_row_width⟩ : ∃ fd, FunD M.K "row_width" "row_width" (defArgs s_row_width) (defBody s_row_width) (defScope s_row_width) [] [] (He.ga M.K "row_width") fd := D 0 _ rfl
  have m_row_width : M.mg "row_width" = some (.ref (He.ga M.K "row_width")) := g 0 _ rfl
  obtain ⟨w_cell_ranges, z_cell_ranges⟩ : ∃ fd, FunD M.K "cell_ranges" "cell_ranges" (defArgs s_cell_ranges) (defBody s_cell_ranges) (defScope s_cell_ranges) [] [] (He.ga M.K "cell_ranges") fd := D 1 _ rfl
  have m_cell_ranges : M.mg "cell_ranges" = some (.ref (He.ga M.K "cell_ranges")) := g 1 _ rfl
  obtain ⟨w_found_index, z_found_index⟩ : ∃ fd, FunD M.K "found_index" "found_index" (defArgs s_found_index) (defBody s_found_index) (defScope s_found_index) [] [] (He.ga M.K "found_index") fd := D 2 _ rfl
  have m_found_index : M.mg "found_index" = some (.ref (He.ga M.K "found_index")) := g 2 _ rfl
  obtain ⟨w_cell_index, z_cell_index⟩ : ∃ fd, FunD M.K "cell_index" "cell_index" (defArgs s_cell_index) (defBody s_cell_index) (defScope s_cell_index) [] [("key", V.non)] (He.ga M.K "cell_index") fd := D 3 _ rfl
  have m_cell_index : M.mg "cell_index" = some (.ref (He.ga M.K "cell_index")) := g 3 _ rfl
  obtain ⟨w_value_in, z_value_in⟩ : ∃ fd, FunD M.K "value_in" "value_in" (defArgs s_value_in) (defBody s_value_in) (defScope s_value_in) [] [] (He.ga M.K "value_in") fd := D 4 _ rfl
  have m_value_in : M.mg "value_in" = some (.ref (He.ga M.K "value_in")) := g 4 _ rfl
  obtain ⟨w_evaluated, z_evaluated⟩ : ∃ fd, FunD M.K "evaluated" "evaluated" (defArgs s_evaluated) (defBody s_evaluated) (defScope s_evaluated) [] [] (He.ga M.K "evaluated") fd := D 5 _ rfl
  have m_evaluated : M.mg "evaluated" = some (.ref (He.ga M.K "evaluated")) := g 5 _ rfl
  obtain ⟨w_keyed_index, z_keyed_index⟩ : ∃ fd, FunD M.K "keyed_index" "keyed_index" (defArgs s_keyed_index) (defBody s_keyed_index) (defScope s_keyed_index) [] [] (He.ga M.K "keyed_index") fd := D 6 _ rfl
  have m_keyed_index : M.mg "keyed_index" = some (.ref (He.ga M.K "keyed_index")) := g 6 _ rfl
  obtain ⟨w__lazy_value, z__lazy_value⟩ : ∃ fd, FunD M.K "_lazy_value" "_lazy_value" (defArgs s__lazy_value) (defBody s__lazy_value) (defScope s__lazy_value) [] [] (He.ga M.K "_lazy_value") fd := D 7 _ rfl
  have m__lazy_value : M.mg "_lazy_value" = some (.ref (He.ga M.K "_lazy_value")) := g 7 _ rfl
  obtain ⟨w__full_value, z__full_value⟩ : ∃ fd, FunD M.K "_full_value" "_full_value" (defArgs s__full_value) (defBody s__full_value) (defScope s__full_value) [] [] (He.ga M.K "_full_value") fd := D 8 _ rfl
  have m__full_value : M.mg "_full_value" = some (.ref (He.ga M.K "_full_value")) := g 8 _ rfl
  obtain ⟨w__of_one, z__of_one⟩ : ∃ fd, FunD M.K "_of_one" "_of_one" (defArgs s__of_one) (defBody s__of_one) (defScope s__of_one) [] [] (He.ga M.K "_of_one") fd := D 9 _ rfl
  have m__of_one : M.mg "_of_one" = some (.ref (He.ga M.K "_of_one")) := g 9 _ rfl
  obtain ⟨w_value_of_two, z_value_of_two⟩ : ∃ fd, FunD M.K "value_of_two" "value_of_two" (defArgs s_value_of_two) (defBody s_value_of_two) (defScope s_value_of_two) [] [] (He.ga M.K "value_of_two") fd := D 10 _ rfl
  have m_value_of_two : M.mg "value_of_two" = some (.ref (He.ga M.K "value_of_two")) := g 10 _ rfl
  obtain ⟨w__compared, z__compared⟩ : ∃ fd, FunD M.K "_compared" "_compared" (defArgs s__compared) (defBody s__compared) (defScope s__compared) [] [] (He.ga M.K "_compared") fd := D 11 _ rfl
  have m__compared : M.mg "_compared" = some (.ref (He.ga M.K "_compared")) := g 11 _ rfl
  obtain ⟨w_is_integer, z_is_integer⟩ : ∃ fd, FunD M.K "is_integer" "is_integer" (defArgs s_is_integer) (defBody s_is_integer) (defScope s_is_integer) [] [] (He.ga M.K "is_integer") fd := D 12 _ rfl
  have m_is_integer : M.mg "is_integer" = some (.ref (He.ga M.K "is_integer")) := g 12 _ rfl
  obtain ⟨w_is_name, z_is_name⟩ : ∃ fd, FunD M.K "is_name" "is_name" (defArgs s_is_name) (defBody s_is_name) (defScope s_is_name) [] [] (He.ga M.K "is_name") fd := D 13 _ rfl
  have m_is_name : M.mg "is_name" = some (.ref (He.ga M.K "is_name")) := g 13 _ rfl
  obtain ⟨w_part_count, z_part_count⟩ : ∃ fd, FunD M.K "part_count" "part_count" (defArgs s_part_count) (defBody s_part_count) (defScope s_part_count) [] [] (He.ga M.K "part_count") fd := D 14 _ rfl
  have m_part_count : M.mg "part_count" = some (.ref (He.ga M.K "part_count")) := g 14 _ rfl
  obtain ⟨w_parts_of, z_parts_of⟩ : ∃ fd, FunD M.K "parts_of" "parts_of" (defArgs s_parts_of) (defBody s_parts_of) (defScope s_parts_of) [] [] (He.ga M.K "parts_of") fd := D 15 _ rfl
  have m_parts_of : M.mg "parts_of" = some (.ref (He.ga M.K "parts_of")) := g 15 _ rfl
  obtain ⟨w_is_expression, z_is_expression⟩ : ∃ fd, FunD M.K "is_expression" "is_expression" (defArgs s_is_expression) (defBody s_is_expression) (defScope s_is_expression) [] [] (He.ga M.K "is_expression") fd := D 16 _ rfl
  have m_is_expression : M.mg "is_expression" = some (.ref (He.ga M.K "is_expression")) := g 16 _ rfl
  obtain ⟨w_all_states, z_all_states⟩ : ∃ fd, FunD M.K "all_states" "all_states" (defArgs s_all_states) (defBody s_all_states) (defScope s_all_states) [] [] (He.ga M.K "all_states") fd := D 17 _ rfl
  have m_all_states : M.mg "all_states" = some (.ref (He.ga M.K "all_states")) := g 17 _ rfl
  obtain ⟨w_state_list, z_state_list⟩ : ∃ fd, FunD M.K "state_list" "state_list" (defArgs s_state_list) (defBody s_state_list) (defScope s_state_list) [] [] (He.ga M.K "state_list") fd := D 18 _ rfl
  have m_state_list : M.mg "state_list" = some (.ref (He.ga M.K "state_list")) := g 18 _ rfl
  obtain ⟨w__combined, z__combined⟩ : ∃ fd, FunD M.K "_combined" "_combined" (defArgs s__combined) (defBody s__combined) (defScope s__combined) [] [] (He.ga M.K "_combined") fd := D 19 _ rfl
  have m__combined : M.mg "_combined" = some (.ref (He.ga M.K "_combined")) := g 19 _ rfl
  obtain ⟨w_are_same, z_are_same⟩ : ∃ fd, FunD M.K "are_same" "are_same" (defArgs s_are_same) (defBody s_are_same) (defScope s_are_same) [] [] (He.ga M.K "are_same") fd := D 20 _ rfl
  have m_are_same : M.mg "are_same" = some (.ref (He.ga M.K "are_same")) := g 20 _ rfl
  obtain ⟨w_folded, z_folded⟩ : ∃ fd, FunD M.K "folded" "folded" (defArgs s_folded) (defBody s_folded) (defScope s_folded) [] [] (He.ga M.K "folded") fd := D 21 _ rfl
  have m_folded : M.mg "folded" = some (.ref (He.ga M.K "folded")) := g 21 _ rfl
  obtain ⟨w__folded_in, z__folded_in⟩ : ∃ fd, FunD M.K "_folded_in" "_folded_in" (defArgs s__folded_in) (defBody s__folded_in) (defScope s__folded_in) [] [] (He.ga M.K "_folded_in") fd := D 22 _ rfl
  have m__folded_in : M.mg "_folded_in" = some (.ref (He.ga M.K "_folded_in")) := g 22 _ rfl
  obtain ⟨w__only_value, z__only_value⟩ : ∃ fd, FunD M.K "_only_value" "_only_value" (defArgs s__only_value) (defBody s__only_value) (defScope s__only_value) [] [] (He.ga M.K "_only_value") fd := D 23 _ rfl
  have m__only_value : M.mg "_only_value" = some (.ref (He.ga M.K "_only_value")) := g 23 _ rfl
  obtain ⟨w__states_of, z__states_of⟩ : ∃ fd, FunD M.K "_states_of" "_states_of" (defArgs s__states_of) (defBody s__states_of) (defScope s__states_of) [] [] (He.ga M.K "_states_of") fd := D 24 _ rfl
  have m__states_of : M.mg "_states_of" = some (.ref (He.ga M.K "_states_of")) := g 24 _ rfl
  obtain ⟨w_names_in, z_names_in⟩ : ∃ fd, FunD M.K "names_in" "names_in" (defArgs s_names_in) (defBody s_names_in) (defScope s_names_in) [] [] (He.ga M.K "names_in") fd := D 25 _ rfl
  have m_names_in : M.mg "names_in" = some (.ref (He.ga M.K "names_in")) := g 25 _ rfl
  obtain ⟨w_fits_expression, z_fits_expression⟩ : ∃ fd, FunD M.K "fits_expression" "fits_expression" (defArgs s_fits_expression) (defBody s_fits_expression) (defScope s_fits_expression) [] [("only_inputs", V.bl false)] (He.ga M.K "fits_expression") fd := D 26 _ rfl
  have m_fits_expression : M.mg "fits_expression" = some (.ref (He.ga M.K "fits_expression")) := g 26 _ rfl
  obtain ⟨w__law_source, z__law_source⟩ : ∃ fd, FunD M.K "_law_source" "_law_source" (defArgs s__law_source) (defBody s__law_source) (defScope s__law_source) [] [] (He.ga M.K "_law_source") fd := D 27 _ rfl
  have m__law_source : M.mg "_law_source" = some (.ref (He.ga M.K "_law_source")) := g 27 _ rfl
  obtain ⟨w__law_next, z__law_next⟩ : ∃ fd, FunD M.K "_law_next" "_law_next" (defArgs s__law_next) (defBody s__law_next) (defScope s__law_next) [] [] (He.ga M.K "_law_next") fd := D 28 _ rfl
  have m__law_next : M.mg "_law_next" = some (.ref (He.ga M.K "_law_next")) := g 28 _ rfl
  obtain ⟨w__law_rows, z__law_rows⟩ : ∃ fd, FunD M.K "_law_rows" "_law_rows" (defArgs s__law_rows) (defBody s__law_rows) (defScope s__law_rows) [] [] (He.ga M.K "_law_rows") fd := D 29 _ rfl
  have m__law_rows : M.mg "_law_rows" = some (.ref (He.ga M.K "_law_rows")) := g 29 _ rfl
  obtain ⟨w__law_term, z__law_term⟩ : ∃ fd, FunD M.K "_law_term" "_law_term" (defArgs s__law_term) (defBody s__law_term) (defScope s__law_term) [] [] (He.ga M.K "_law_term") fd := D 30 _ rfl
  have m__law_term : M.mg "_law_term" = some (.ref (He.ga M.K "_law_term")) := g 30 _ rfl
  obtain ⟨w__law_subterms, z__law_subterms⟩ : ∃ fd, FunD M.K "_law_subterms" "_law_subterms" (defArgs s__law_subterms) (defBody s__law_subterms) (defScope s__law_subterms) [] [] (He.ga M.K "_law_subterms") fd := D 31 _ rfl
  have m__law_subterms : M.mg "_law_subterms" = some (.ref (He.ga M.K "_law_subterms")) := g 31 _ rfl
  obtain ⟨w__law_values, z__law_values⟩ : ∃ fd, FunD M.K "_law_values" "_law_values" (defArgs s__law_values) (defBody s__law_values) (defScope s__law_values) [] [] (He.ga M.K "_law_values") fd := D 32 _ rfl
  have m__law_values : M.mg "_law_values" = some (.ref (He.ga M.K "_law_values")) := g 32 _ rfl
  obtain ⟨w__law_is_folded, z__law_is_folded⟩ : ∃ fd, FunD M.K "_law_is_folded" "_law_is_folded" (defArgs s__law_is_folded) (defBody s__law_is_folded) (defScope s__law_is_folded) [] [] (He.ga M.K "_law_is_folded") fd := D 33 _ rfl
  have m__law_is_folded : M.mg "_law_is_folded" = some (.ref (He.ga M.K "_law_is_folded")) := g 33 _ rfl
  obtain ⟨w__law_is_right, z__law_is_right⟩ : ∃ fd, FunD M.K "_law_is_right" "_law_is_right" (defArgs s__law_is_right) (defBody s__law_is_right) (defScope s__law_is_right) [] [] (He.ga M.K "_law_is_right") fd := D 34 _ rfl
  have m__law_is_right : M.mg "_law_is_right" = some (.ref (He.ga M.K "_law_is_right")) := g 34 _ rfl
  obtain ⟨w__law_by_hand, z__law_by_hand⟩ : ∃ fd, FunD M.K "_law_by_hand" "_law_by_hand" (defArgs s__law_by_hand) (defBody s__law_by_hand) (defScope s__law_by_hand) [] [] (He.ga M.K "_law_by_hand") fd := D 35 _ rfl
  have m__law_by_hand : M.mg "_law_by_hand" = some (.ref (He.ga M.K "_law_by_hand")) := g 35 _ rfl
  have dw := dc_of (st := s_row_width) z_row_width m_row_width (fun _ _ _ _ _ _ us hl => match us, hl with | [_], _ => rfl) (fun F => ok_width F b)
  have dfi := dc_of (st := s_found_index) z_found_index m_found_index (fun _ _ _ _ _ _ us hl => match us, hl with | [_, _, _], _ => rfl) (fun F => ok_found F dw)
  have dr := dc_of (st := s_cell_ranges) z_cell_ranges m_cell_ranges (fun _ _ _ _ _ _ us hl => match us, hl with | [_], _ => rfl) (fun F => ok_ranges F b dw)
  have dcm := dc_of (st := s__compared) z__compared m__compared (fun _ _ _ _ _ _ us hl => match us, hl with | [_, _, _], _ => rfl) (fun F => ok_cmp F b)
  have d1 := dc_of (st := s__of_one) z__of_one m__of_one (fun _ _ _ _ _ _ us hl => match us, hl with | [_, _], _ => rfl) (fun F => ok_one F b)
  have d2 := dc_of (st := s_value_of_two) z_value_of_two m_value_of_two (fun _ _ _ _ _ _ us hl => match us, hl with | [_, _, _], _ => rfl) (fun F => ok_two F b dcm)
  obtain ⟨ixd, ixv, ixb⟩ := z_cell_index.binds0 (ps := ["cells", "name", "key"]) 2 (by simp) rfl (fun Dk doc pm an cdv ct us ks hu hk => match us, ks, hu, hk with | [_, _], [_], _, _ => ⟨_, _, _, _, _, _, rfl, rfl, rfl⟩)
  have dx : dcIx M := ⟨_, _, ixd, ok_index (fun_of z_cell_index) b dfi, m_cell_index, z_cell_index.kp, ixb, ixv⟩
  have de : ∀ n, dcEv M n := fun n => Nat.rec (motive := fun n => dcEv M n) (dc_of (st := s_evaluated) z_evaluated m_evaluated (fun _ _ _ _ _ _ us hl => match us, hl with | [_, _, _], _ => rfl) (fun F => ok_ev 0 F b lz dx (fun m h => by omega))) (fun n ih => dc_of (st := s_evaluated) z_evaluated m_evaluated (fun _ _ _ _ _ _ us hl => match us, hl with | [_, _, _], _ => rfl) (fun F => ok_ev (n + 1) F b lz dx (fun m h => match m, Nat.succ.inj h with | _, rfl => ⟨dc_of (st := s_keyed_index) z_keyed_index m_keyed_index (fun _ _ _ _ _ _ us hl => match us, hl with | [_, _, _, _], _ => rfl) (fun F => ok_keyed n F b dfi ih), dc_of (st := s__lazy_value) z__lazy_value m__lazy_value (fun _ _ _ _ _ _ us hl => match us, hl with | [_, _, _], _ => rfl) (fun F => ok_lazy n F b ih), dc_of (st := s__full_value) z__full_value m__full_value (fun _ _ _ _ _ _ us hl => match us, hl with | [_, _, _], _ => rfl) (fun F => ok_full n F b ih d1 d2)⟩))) n
  have dva := dc_of (st := s_value_in) z_value_in m_value_in (fun _ _ _ _ _ _ us hl => match us, hl with | [_, _, _], _ => rfl) (fun F => ok_value 4 F b (de 4))
  have dii := dc_of (st := s_is_integer) z_is_integer m_is_integer (fun _ _ _ _ _ _ us hl => match us, hl with | [_], _ => rfl) (fun F => ok_isint F b)
  have din := dc_of (st := s_is_name) z_is_name m_is_name (fun _ _ _ _ _ _ us hl => match us, hl with | [_], _ => rfl) (fun F => ok_isname F b b2 g46)
  have dpc := dc_of (st := s_part_count) z_part_count m_part_count (fun _ _ _ _ _ _ us hl => match us, hl with | [_], _ => rfl) (fun F => ok_count F b g46)
  have dpa := dc_of (st := s_parts_of) z_parts_of m_parts_of (fun _ _ _ _ _ _ us hl => match us, hl with | [_], _ => rfl) (fun F => ok_parts F b g46 dii din dpc)
  have dxe : ∀ n, dcExpr M n := fun n => Nat.rec (motive := fun n => dcExpr M n) (dc_of (st := s_is_expression) z_is_expression m_is_expression (fun _ _ _ _ _ _ us hl => match us, hl with | [_], _ => rfl) (fun F => ok_isexpr 0 F b dpa (fun m h => by omega))) (fun n ih => dc_of (st := s_is_expression) z_is_expression m_is_expression (fun _ _ _ _ _ _ us hl => match us, hl with | [_], _ => rfl) (fun F => ok_isexpr (n + 1) F b dpa (fun m h => match m, Nat.succ.inj h with | _, rfl => ih))) n
  have dnm : ∀ n, dcNms M n := fun n => Nat.rec (motive := fun n => dcNms M n) (dc_of (st := s_names_in) z_names_in m_names_in (fun _ _ _ _ _ _ us hl => match us, hl with | [_], _ => rfl) (fun F => ok_nms 0 F b dpa (fun m h => by omega))) (fun n ih => dc_of (st := s_names_in) z_names_in m_names_in (fun _ _ _ _ _ _ us hl => match us, hl with | [_], _ => rfl) (fun F => ok_nms (n + 1) F b dpa (fun m h => match m, Nat.succ.inj h with | _, rfl => ih))) n
  obtain ⟨ftd, ftv, ftb⟩ := z_fits_expression.binds0 (ps := ["cells", "thing", "only_inputs"]) 2 (by simp) rfl (fun Dk doc pm an cdv ct us ks hu hk => match us, ks, hu, hk with | [_, _], [_], _, _ => ⟨_, _, _, _, _, _, rfl, rfl, rfl⟩)
  have dft : DcV M "fits_expression" ["cells", "thing", "only_inputs"] [.bl false] 8 (spF rFits M.K) := ⟨_, _, ftd, ok_fits (fun_of z_fits_expression) b b2 (dxe 4) (dnm 4), m_fits_expression, z_fits_expression.kp, ftb, ftv⟩
  have dcb := dc_of (st := s__combined) z__combined m__combined (fun _ _ _ _ _ _ us hl => match us, hl with | [_], _ => rfl) (fun F => ok_comb F b)
  have dsl := dc_of (st := s_state_list) z_state_list m_state_list (fun _ _ _ _ _ _ us hl => match us, hl with | [_], _ => rfl) (fun F => ok_slist F b dr dcb)
  have dal : DcG M "all_states" ["program"] 4 (spAll M.K) := ⟨_, _, ok_all (fun_of z_all_states) b dsl, m_all_states, z_all_states.kp, z_all_states.bindsN (fun _ _ _ _ _ _ us hl => match us, hl with | [_], _ => rfl)⟩
  have dso := dc_of (st := s__states_of) z__states_of m__states_of (fun _ _ _ _ _ _ us hl => match us, hl with | [_], _ => rfl) (fun F => ok_sof F b dsl)
  have don := dc_of (st := s__only_value) z__only_value m__only_value (fun _ _ _ _ _ _ us hl => match us, hl with | [_, _, _], _ => rfl) (fun F => ok_only F b dii dva)
  have dfl : ∀ n, dcFold M n := fun n => Nat.rec (motive := fun n => dcFold M n) (dc_of (st := s__folded_in) z__folded_in m__folded_in (fun _ _ _ _ _ _ us hl => match us, hl with | [_, _, _], _ => rfl) (fun F => ok_fold 0 F b don (fun m h => by omega))) (fun n ih => dc_of (st := s__folded_in) z__folded_in m__folded_in (fun _ _ _ _ _ _ us hl => match us, hl with | [_, _, _], _ => rfl) (fun F => ok_fold (n + 1) F b don (fun m h => match m, Nat.succ.inj h with | _, rfl => ih))) n
  have dfo := dc_of (st := s_folded) z_folded m_folded (fun _ _ _ _ _ _ us hl => match us, hl with | [_, _], _ => rfl) (fun F => ok_folded F b dso (dfl 4))
  have dsa := dc_of (st := s_are_same) z_are_same m_are_same (fun _ _ _ _ _ _ us hl => match us, hl with | [_, _, _], _ => rfl) (fun F => ok_same F b dso dva)
  have dfk : DcK M "folded" ["cells", "expression"] ["expression", "cells"] List.reverse 20 (spF rFolded M.K) := ⟨_, _, List.reverse, ok_folded (fun_of z_folded) b dso (dfl 4), m_folded, z_folded.kp, fun s ws l => match ws, l with | [_, _], _ => kw_ofG z_folded (fun _ _ _ _ _ _ => rfl) s, fun zs ws r l => match zs, ws, r, l with | [_, _], [_, _], .cons h1 (.cons h2 .nil), _ => .cons h2 (.cons h1 .nil)⟩
  have dsk : DcK M "are_same" ["cells", "one", "other"] ["other", "one", "cells"] List.reverse 14 (spF rSame M.K) := ⟨_, _, List.reverse, ok_same (fun_of z_are_same) b dso dva, m_are_same, z_are_same.kp, fun s ws l => match ws, l with | [_, _, _], _ => kw_ofG z_are_same (fun _ _ _ _ _ _ => rfl) s, fun zs ws r l => match zs, ws, r, l with | [_, _, _], [_, _, _], .cons h1 (.cons h2 (.cons h3 .nil)), _ => .cons h3 (.cons h2 (.cons h1 .nil))⟩
  have dsr := dc_of (st := s__law_source) z__law_source m__law_source (fun _ _ _ _ _ _ us hl => match us, hl with | [_], _ => rfl) (fun F => ok_src F b)
  have dn := dc_of (st := s__law_next) z__law_next m__law_next (fun _ _ _ _ _ _ us hl => match us, hl with | [_, _], _ => rfl) (fun F => ok_next F b)
  have dro := dc_of (st := s__law_rows) z__law_rows m__law_rows (fun _ _ _ _ _ _ us hl => match us, hl with | [_], _ => rfl) (fun F => ok_rows F b dn)
  have dt0 : dcTerm M 0 := dc_of (st := s__law_term) z__law_term m__law_term (fun _ _ _ _ _ _ us hl => match us, hl with | [_, _, _], _ => rfl) (fun F => ok_term 0 F b (by decide) dn (fun m h => by omega))
  have dt1 : dcTerm M 1 := dc_of (st := s__law_term) z__law_term m__law_term (fun _ _ _ _ _ _ us hl => match us, hl with | [_, _, _], _ => rfl) (fun F => ok_term 1 F b (by decide) dn (fun m h => match m, Nat.succ.inj h with | _, rfl => dt0))
  have dt2 : dcTerm M 2 := dc_of (st := s__law_term) z__law_term m__law_term (fun _ _ _ _ _ _ us hl => match us, hl with | [_, _, _], _ => rfl) (fun F => ok_term 2 F b (by decide) dn (fun m h => match m, Nat.succ.inj h with | _, rfl => dt1))
  have dt3 : dcTerm M 3 := dc_of (st := s__law_term) z__law_term m__law_term (fun _ _ _ _ _ _ us hl => match us, hl with | [_, _, _], _ => rfl) (fun F => ok_term 3 F b (by decide) dn (fun m h => match m, Nat.succ.inj h with | _, rfl => dt2))
  have dsu : ∀ n, n ≤ 4 → dcSubs M n := fun n => Nat.rec (motive := fun n => n ≤ 4 → dcSubs M n) (fun h => dc_of (st := s__law_subterms) z__law_subterms m__law_subterms (fun _ _ _ _ _ _ us hl => match us, hl with | [_], _ => rfl) (fun F => ok_subs 0 h F b (fun m h => by omega))) (fun n ih h4 => dc_of (st := s__law_subterms) z__law_subterms m__law_subterms (fun _ _ _ _ _ _ us hl => match us, hl with | [_], _ => rfl) (fun F => ok_subs (n + 1) h4 F b (fun m h => match m, Nat.succ.inj h with | _, rfl => ih (by omega)))) n
  have dvl := dc_of (st := s__law_values) z__law_values m__law_values (fun _ _ _ _ _ _ us hl => match us, hl with | [_, _, _], _ => rfl) (fun F => ok_vals F b dva)
  have dif := dc_of (st := s__law_is_folded) z__law_is_folded m__law_is_folded (fun _ _ _ _ _ _ us hl => match us, hl with | [_, _, _], _ => rfl) (fun F => ok_isf F b (dsu 4 (by decide)) dvl)
  have dri : dcRight M := ⟨_, _, ok_right (fun_of z__law_is_right) b b2 dfo dfk dft dif dvl dsa dsk, m__law_is_right, z__law_is_right.kp, z__law_is_right.bindsN (fun _ _ _ _ _ _ us hl => match us, hl with | [_, _, _, _], _ => rfl)⟩
  have dha := dc_of (st := s__law_by_hand) z__law_by_hand m__law_by_hand (fun _ _ _ _ _ _ us hl => match us, hl with | [], _ => rfl) (fun F => ok_hand F b)
  exact ok_law (fun_of zl) b b2 dsr dro dal dt3 dt2 dri dsa dha
end K

namespace K
open PySem PySem.Spec PyProof.Rows L2 G
theorem facts {P : Program} {w : World} {F : PySem.W.Frag} {h : Heap} {mg : Str → Option Value} {f : Addr} (X : F.In h) (N : h.Ns mainGlobals mg) (hf : mg ("law" : Str) = some (.ref f)) (c : He.SaysX fas fns [] [] ruleB w h F) :
    ∃ fd : FuncData, (∀ (s : Shared) (v : Value), BindsTo s fd ⟨[v], []⟩ [("_law_script", v)]) ∧ ∀ base : Heap, F.In base → base.Ns mainGlobals mg → FnQ P w F mg base CX0 22 f fd ["_law_script"] (spLaw F) := by
  have cd : He.SaysD fas fns F := congrArg (fun z : He.AlT => z.1) c.t
  have glo : ∀ (i : Nat) (x : Str), fas[i]? = some (.glo x) → mg x = some (.ref (He.ga F x)) := fun i x hx => He.glo_ok X N (cd.fact i hx)
  have fre : ∀ (i : Nat) (x : Str), fas[i]? = some (.free x) → mg x = none := fun i x hx => He.free_ok X N (cd.fact i hx)
  obtain ⟨fd, zl⟩ : ∃ fd, FunD F "law" "law" (defArgs s_law) (defBody s_law) (defScope s_law) [] [] (He.ga F "law") fd := cd.def_ 36 rfl
  have e := hf.symm.trans (glo 36 _ rfl)
  cases e
  obtain ⟨t1, t2⟩ := He.ba c.more
  obtain ⟨t2, t3⟩ := He.ba t2
  obtain ⟨t3, t4⟩ := He.ba t3
  obtain ⟨k1, e1⟩ := He.str_ok (x := "LETTERS") (z := letters) X N (cd.fact 56 rfl)
  obtain ⟨k2, e2⟩ := He.int_ok (x := "LONGEST_NAME") (i := 8) X N (cd.fact 57 rfl)
  refine ⟨fd, fun s v => FunD.bindsA (ps := ["_law_script"]) zl (fun _ _ _ _ _ _ us hl => match us, hl with | [_], _ => rfl) s [v] rfl, fun base _ _ => ?_⟩
  exact whole (M := ⟨P, w, F, mg, base⟩) ⟨fre 37 _ rfl, fre 38 _ rfl, fre 39 _ rfl, fre 40 _ rfl, fre 41 _ rfl, fre 42 _ rfl, fre 43 _ rfl, fre 44 _ rfl, fre 45 _ rfl, fre 46 _ rfl, fre 47 _ rfl, fre 48 _ rfl, fre 49 _ rfl⟩ ⟨fre 50 _ rfl, fre 51 _ rfl⟩
    ⟨⟨_, e1, k1, rfl⟩, ⟨_, e2, k2, rfl⟩, ⟨_, glo 53 _ rfl, fun H => He.tupB_ok t2 H⟩, ⟨_, glo 54 _ rfl, fun H => He.tupB_ok t3 H⟩, ⟨_, glo 55 _ rfl, fun H => He.tupB_ok t4 H⟩⟩ ⟨_, glo 52 _ rfl, fun H => He.tupB_ok t1 H⟩ (fun i d hd => cd.def_ i hd) glo zl
end K
open PySem PySem.W PySem.Calls PyProof.Rows
set_option maxHeartbeats 0 in
theorem PySem.Challenge.cw_orderless_k59_folding_told_holds : PySem.Challenge.rw_orderless_k59_folding_told.Holds := by
  w_on; o_law
  refine HandSHeadRun.head_any (r := K.Rw) (q := view K.Rw.prog [K.lawAt]) (H := K.ownHook) (ob := K.obT) (M := 9000) (loose := K.loose) (d := HandSHeadRun.topDef K.Rw.prog K.lawAt) (kwd := []) K.obT_eq
    (by kernel_rfl) (fun s => by kernel_rfl) K.topRun (by kernel_rfl) (by kernel_rfl) (by kernel_rfl) (by rfl) (by first | assumption | decide +kernel) (by decide +kernel) ⟨rfl, rfl, rfl, rfl, rfl, by decide +kernel⟩ ?hw ?hc
  case hw => w_witness2
  case hc =>
    refine G.walk_begun (l := PySem.Challenge.rw_orderless_k59_folding_told) (n := 63) (k := 22) (x := "_law_script") rfl (by decide) (by kernel_rfl) ⟨rfl, by decide, by decide⟩ ?F
    intro w mg fa h Y N hmg0
    obtain ⟨F, FX, c⟩ := Y
    have nm : (HandSHeadRun.topDef K.Rw.prog K.lawAt).name = ("law" : PySem.Str) := by kernel_rfl
    rw [nm] at hmg0
    obtain ⟨fd, hb, ok⟩ := K.facts (P := PySem.Challenge.rw_orderless_k59_folding_told.prog) (w := w) FX N hmg0 c
    exact ⟨F, fd, K.spLaw F, FX, hb, fun H a ns few is => ⟨a, ns, rfl, is, fun _ => rfl⟩, ok⟩

