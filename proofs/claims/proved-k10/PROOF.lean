import PyProof.Rows.All
import Wide.All
import OpenK.AllK
import Wide.FinOn
import KE.KStateDown
import HandS.Ends
import HandS.Exc
import HandS.WordsExc
import HandS.Defaults
import HandS.Head0
import HandS.Head1
import HandS.Head2
import HandS.HeadHook1
import HandS.HeadHook2
import HandS.Base
import HandS.Call
import HandS.List
import HandS.Comp
import HandS.Dict
import HandS.Iter
import HandS.Words
import HandS.IsInst
import HandS.Wide
import HandS.Flow
import HandS.TupAny
import HandS.Deep
import HandS.Style
import HandS.Zip
import HandS.SortRule
import KE.KDictPairs
import HandS.WordsDict
import HandS.HeadEnd
import PyProof.ReprRoads
import PyProof.ReprLen
import HandS.DictTup
import HandS.SortOrd
import HandS.Star
import HandS.More
import PyProof.CallFns
import PySem.Challenge.RW_orderless_k10_whole_rules_by_expressions
set_option Elab.async false
set_option linter.all false
set_option maxRecDepth 100000
namespace K
open PySem L2
def top (i : Nat) : Stmt := PySem.Challenge.pw_orderless_k10_whole_rules_by_expressions.main.body.getD i (.Pass ⟨0, 0, 0, 0⟩)
abbrev s__wall : Stmt := top 0
-- 0:k
abbrev N__wall : List Str := ["k"]
theorem sc__wall : FnScope N__wall ["k"] (defScope s__wall) := ⟨rfl, rfl, rfl, by decide +kernel, rfl, by decide +kernel, by decide +kernel⟩
abbrev s_row_width : Stmt := top 8
-- 0:row
abbrev N_row_width : List Str := ["row"]
theorem sc_row_width : FnScope N_row_width ["row"] (defScope s_row_width) := ⟨rfl, rfl, rfl, by decide +kernel, rfl, by decide +kernel, by decide +kernel⟩
abbrev s_cell_ranges : Stmt := top 9
-- 0:cells 1:ranges 2:row
abbrev N_cell_ranges : List Str := ["cells", "ranges", "row"]
theorem sc_cell_ranges : FnScope N_cell_ranges ["cells"] (defScope s_cell_ranges) := ⟨rfl, rfl, rfl, by decide +kernel, rfl, by decide +kernel, by decide +kernel⟩
abbrev s_found_index : Stmt := top 10
-- 0:cells 1:name 2:key 3:begin 4:row
abbrev N_found_index : List Str := ["cells", "name", "key", "begin", "row"]
theorem sc_found_index : FnScope N_found_index ["cells", "name", "key"] (defScope s_found_index) := ⟨rfl, rfl, rfl, by decide +kernel, rfl, by decide +kernel, by decide +kernel⟩
abbrev s_cell_index : Stmt := top 11
-- 0:cells 1:name 2:key 3:index
abbrev N_cell_index : List Str := ["cells", "name", "key", "index"]
theorem sc_cell_index : FnScope N_cell_index ["cells", "name", "key"] (defScope s_cell_index) := ⟨rfl, rfl, rfl, by decide +kernel, rfl, by decide +kernel, by decide +kernel⟩
abbrev s_value_in : Stmt := top 14
-- 0:cells 1:state 2:expression 3:value 4:_
abbrev N_value_in : List Str := ["cells", "state", "expression", "value", "_"]
theorem sc_value_in : FnScope N_value_in ["cells", "state", "expression"] (defScope s_value_in) := ⟨rfl, rfl, rfl, by decide +kernel, rfl, by decide +kernel, by decide +kernel⟩
abbrev s_looked_at : Stmt := top 15
-- 0:cells 1:state 2:expression 3:_ 4:looks
abbrev N_looked_at : List Str := ["cells", "state", "expression", "_", "looks"]
theorem sc_looked_at : FnScope N_looked_at ["cells", "state", "expression"] (defScope s_looked_at) := ⟨rfl, rfl, rfl, by decide +kernel, rfl, by decide +kernel, by decide +kernel⟩
abbrev s_first_looks : Stmt := top 16
-- 0:state 1:looks 2:seen 3:index
abbrev N_first_looks : List Str := ["state", "looks", "seen", "index"]
theorem sc_first_looks : FnScope N_first_looks ["state", "looks"] (defScope s_first_looks) := ⟨rfl, rfl, rfl, by decide +kernel, rfl, by decide +kernel, by decide +kernel⟩
abbrev s_evaluated : Stmt := top 17
-- 0:cells 1:state 2:expression 3:index 4:looks
abbrev N_evaluated : List Str := ["cells", "state", "expression", "index", "looks"]
theorem sc_evaluated : FnScope N_evaluated ["cells", "state", "expression"] (defScope s_evaluated) := ⟨rfl, rfl, rfl, by decide +kernel, rfl, by decide +kernel, by decide +kernel⟩
abbrev s_keyed_index : Stmt := top 18
-- 0:cells 1:state 2:table 3:key 4:value 5:looks
abbrev N_keyed_index : List Str := ["cells", "state", "table", "key", "value", "looks"]
theorem sc_keyed_index : FnScope N_keyed_index ["cells", "state", "table", "key"] (defScope s_keyed_index) := ⟨rfl, rfl, rfl, by decide +kernel, rfl, by decide +kernel, by decide +kernel⟩
abbrev s__lazy_value : Stmt := top 19
-- 0:cells 1:state 2:expression 3:op 4:test 5:looks 6:holds 7:value 8:more
abbrev N__lazy_value : List Str := ["cells", "state", "expression", "op", "test", "looks", "holds", "value", "more"]
theorem sc__lazy_value : FnScope N__lazy_value ["cells", "state", "expression"] (defScope s__lazy_value) := ⟨rfl, rfl, rfl, by decide +kernel, rfl, by decide +kernel, by decide +kernel⟩
abbrev s__full_value : Stmt := top 20
-- 0:cells 1:state 2:expression 3:values 4:looks 5:part 6:value 7:more
abbrev N__full_value : List Str := ["cells", "state", "expression", "values", "looks", "part", "value", "more"]
theorem sc__full_value : FnScope N__full_value ["cells", "state", "expression"] (defScope s__full_value) := ⟨rfl, rfl, rfl, by decide +kernel, rfl, by decide +kernel, by decide +kernel⟩
abbrev s__of_one : Stmt := top 21
-- 0:op 1:value
abbrev N__of_one : List Str := ["op", "value"]
theorem sc__of_one : FnScope N__of_one ["op", "value"] (defScope s__of_one) := ⟨rfl, rfl, rfl, by decide +kernel, rfl, by decide +kernel, by decide +kernel⟩
abbrev s_value_of_two : Stmt := top 22
-- 0:op 1:one 2:other
abbrev N_value_of_two : List Str := ["op", "one", "other"]
theorem sc_value_of_two : FnScope N_value_of_two ["op", "one", "other"] (defScope s_value_of_two) := ⟨rfl, rfl, rfl, by decide +kernel, rfl, by decide +kernel, by decide +kernel⟩
abbrev s__compared : Stmt := top 23
-- 0:op 1:one 2:other
abbrev N__compared : List Str := ["op", "one", "other"]
theorem sc__compared : FnScope N__compared ["op", "one", "other"] (defScope s__compared) := ⟨rfl, rfl, rfl, by decide +kernel, rfl, by decide +kernel, by decide +kernel⟩
abbrev s_assigned : Stmt := top 25
-- 0:cells 1:rule 2:state 3:entries 4:_ 5:index 6:indexes 7:ranges 8:value 9:low 10:high
abbrev N_assigned : List Str := ["cells", "rule", "state", "entries", "_", "index", "indexes", "ranges", "value", "low", "high"]
theorem sc_assigned : FnScope N_assigned ["cells", "rule", "state"] (defScope s_assigned) := ⟨rfl, rfl, rfl, by decide +kernel, rfl, by decide +kernel, by decide +kernel⟩
abbrev s_behind : Stmt := top 27
-- 0:cells 1:rule 2:state
abbrev N_behind : List Str := ["cells", "rule", "state"]
theorem sc_behind : FnScope N_behind ["cells", "rule", "state"] (defScope s_behind) := ⟨rfl, rfl, rfl, by decide +kernel, rfl, by decide +kernel, by decide +kernel⟩
abbrev s_with_assigned : Stmt := top 28
-- 0:state 1:entries 2:values 3:index 4:value
abbrev N_with_assigned : List Str := ["state", "entries", "values", "index", "value"]
theorem sc_with_assigned : FnScope N_with_assigned ["state", "entries"] (defScope s_with_assigned) := ⟨rfl, rfl, rfl, by decide +kernel, rfl, by decide +kernel, by decide +kernel⟩
abbrev s_looks_of : Stmt := top 29
-- 0:cells 1:rule 2:state 3:_ 4:looks
abbrev N_looks_of : List Str := ["cells", "rule", "state", "_", "looks"]
theorem sc_looks_of : FnScope N_looks_of ["cells", "rule", "state"] (defScope s_looks_of) := ⟨rfl, rfl, rfl, by decide +kernel, rfl, by decide +kernel, by decide +kernel⟩
abbrev s__worked_out : Stmt := top 30
-- 0:cells 1:rule 2:state 3:_ 4:guard 5:assignments 6:value 7:looks 8:entries 9:target 10:part 11:index 12:more
abbrev N__worked_out : List Str := ["cells", "rule", "state", "_", "guard", "assignments", "value", "looks", "entries", "target", "part", "index", "more"]
theorem sc__worked_out : FnScope N__worked_out ["cells", "rule", "state"] (defScope s__worked_out) := ⟨rfl, rfl, rfl, by decide +kernel, rfl, by decide +kernel, by decide +kernel⟩
abbrev s__target_index : Stmt := top 31
-- 0:cells 1:state 2:target
abbrev N__target_index : List Str := ["cells", "state", "target"]
theorem sc__target_index : FnScope N__target_index ["cells", "state", "target"] (defScope s__target_index) := ⟨rfl, rfl, rfl, by decide +kernel, rfl, by decide +kernel, by decide +kernel⟩
abbrev s_is_integer : Stmt := top 38
-- 0:thing
abbrev N_is_integer : List Str := ["thing"]
theorem sc_is_integer : FnScope N_is_integer ["thing"] (defScope s_is_integer) := ⟨rfl, rfl, rfl, by decide +kernel, rfl, by decide +kernel, by decide +kernel⟩
abbrev s_is_name : Stmt := top 39
-- 0:thing 1:letter
abbrev N_is_name : List Str := ["thing", "letter"]
theorem sc_is_name : FnScope N_is_name ["thing"] (defScope s_is_name) := ⟨rfl, rfl, rfl, by decide +kernel, rfl, by decide +kernel, by decide +kernel⟩
abbrev s_part_count : Stmt := top 40
-- 0:op
abbrev N_part_count : List Str := ["op"]
theorem sc_part_count : FnScope N_part_count ["op"] (defScope s_part_count) := ⟨rfl, rfl, rfl, by decide +kernel, rfl, by decide +kernel, by decide +kernel⟩
abbrev s_as_expression : Stmt := top 41
-- 0:target
abbrev N_as_expression : List Str := ["target"]
theorem sc_as_expression : FnScope N_as_expression ["target"] (defScope s_as_expression) := ⟨rfl, rfl, rfl, by decide +kernel, rfl, by decide +kernel, by decide +kernel⟩
abbrev s_as_target : Stmt := top 42
-- 0:expression
abbrev N_as_target : List Str := ["expression"]
theorem sc_as_target : FnScope N_as_target ["expression"] (defScope s_as_target) := ⟨rfl, rfl, rfl, by decide +kernel, rfl, by decide +kernel, by decide +kernel⟩
abbrev s_is_integer_word : Stmt := top 46
-- 0:word 1:digits 2:digit
abbrev N_is_integer_word : List Str := ["word", "digits", "digit"]
theorem sc_is_integer_word : FnScope N_is_integer_word ["word"] (defScope s_is_integer_word) := ⟨rfl, rfl, rfl, by decide +kernel, rfl, by decide +kernel, by decide +kernel⟩
abbrev s_expression_read : Stmt := top 49
-- 0:text 1:line 2:field 3:reader 4:expression
abbrev N_expression_read : List Str := ["text", "line", "field", "reader", "expression"]
theorem sc_expression_read : FnScope N_expression_read ["text", "line", "field"] (defScope s_expression_read) := ⟨rfl, rfl, rfl, by decide +kernel, rfl, by decide +kernel, by decide +kernel⟩
abbrev s_rule_read : Stmt := top 50
-- 0:text 1:line 2:field
abbrev N_rule_read : List Str := ["text", "line", "field"]
theorem sc_rule_read : FnScope N_rule_read ["text", "line", "field"] (defScope s_rule_read) := ⟨rfl, rfl, rfl, by decide +kernel, rfl, by decide +kernel, by decide +kernel⟩
abbrev s_take_expression : Stmt := top 51
-- 0:reader 1:word
abbrev N_take_expression : List Str := ["reader", "word"]
theorem sc_take_expression : FnScope N_take_expression ["reader"] (defScope s_take_expression) := ⟨rfl, rfl, rfl, by decide +kernel, rfl, by decide +kernel, by decide +kernel⟩
abbrev s_take_rule : Stmt := top 52
-- 0:reader 1:name 2:guard 3:assignments 4:target
abbrev N_take_rule : List Str := ["reader", "name", "guard", "assignments", "target"]
theorem sc_take_rule : FnScope N_take_rule ["reader"] (defScope s_take_rule) := ⟨rfl, rfl, rfl, by decide +kernel, rfl, by decide +kernel, by decide +kernel⟩
abbrev s__take_form : Stmt := top 53
-- 0:reader 1:word 2:op 3:parts 4:_
abbrev N__take_form : List Str := ["reader", "word", "op", "parts", "_"]
theorem sc__take_form : FnScope N__take_form ["reader"] (defScope s__take_form) := ⟨rfl, rfl, rfl, by decide +kernel, rfl, by decide +kernel, by decide +kernel⟩
abbrev s__take_target : Stmt := top 54
-- 0:reader 1:name 2:key
abbrev N__take_target : List Str := ["reader", "name", "key"]
theorem sc__take_target : FnScope N__take_target ["reader"] (defScope s__take_target) := ⟨rfl, rfl, rfl, by decide +kernel, rfl, by decide +kernel, by decide +kernel⟩
abbrev s_expression_text : Stmt := top 56
-- 0:expression 1:parts 2:part
abbrev N_expression_text : List Str := ["expression", "parts", "part"]
theorem sc_expression_text : FnScope N_expression_text ["expression"] (defScope s_expression_text) := ⟨rfl, rfl, rfl, by decide +kernel, rfl, by decide +kernel, by decide +kernel⟩
abbrev s_rule_text : Stmt := top 57
-- 0:rule 1:name 2:guard 3:assignments 4:sets 5:target 6:value
abbrev N_rule_text : List Str := ["rule", "name", "guard", "assignments", "sets", "target", "value"]
theorem sc_rule_text : FnScope N_rule_text ["rule"] (defScope s_rule_text) := ⟨rfl, rfl, rfl, by decide +kernel, rfl, by decide +kernel, by decide +kernel⟩
abbrev s__assignment_text : Stmt := top 58
-- 0:target 1:value
abbrev N__assignment_text : List Str := ["target", "value"]
theorem sc__assignment_text : FnScope N__assignment_text ["target", "value"] (defScope s__assignment_text) := ⟨rfl, rfl, rfl, by decide +kernel, rfl, by decide +kernel, by decide +kernel⟩
abbrev s_form_of : Stmt := top 60
-- 0:thing
abbrev N_form_of : List Str := ["thing"]
theorem sc_form_of : FnScope N_form_of ["thing"] (defScope s_form_of) := ⟨rfl, rfl, rfl, by decide +kernel, rfl, by decide +kernel, by decide +kernel⟩
abbrev s__target_form : Stmt := top 65
-- 0:target 1:part
abbrev N__target_form : List Str := ["target", "part"]
theorem sc__target_form : FnScope N__target_form ["target"] (defScope s__target_form) := ⟨rfl, rfl, rfl, by decide +kernel, rfl, by decide +kernel, by decide +kernel⟩
abbrev s__cell_name : Stmt := top 66
-- 0:target
abbrev N__cell_name : List Str := ["target"]
theorem sc__cell_name : FnScope N__cell_name ["target"] (defScope s__cell_name) := ⟨rfl, rfl, rfl, by decide +kernel, rfl, by decide +kernel, by decide +kernel⟩
abbrev s__law_feed : Stmt := top 68
-- 0:_law_script
abbrev N__law_feed : List Str := ["_law_script"]
theorem sc__law_feed : FnScope N__law_feed ["_law_script"] (defScope s__law_feed) := ⟨rfl, rfl, rfl, by decide +kernel, rfl, by decide +kernel, by decide +kernel⟩
abbrev s__law_draw : Stmt := top 69
-- 0:_law_feed_here 1:_law_many 2:_law_digit 3:_law_at 4:_law_cell 5:_law_mixed
abbrev N__law_draw : List Str := ["_law_feed_here", "_law_many", "_law_digit", "_law_at", "_law_cell", "_law_mixed"]
theorem sc__law_draw : FnScope N__law_draw ["_law_feed_here", "_law_many"] (defScope s__law_draw) := ⟨rfl, rfl, rfl, by decide +kernel, rfl, by decide +kernel, by decide +kernel⟩
abbrev s__law_plans : Stmt := top 70
-- 0:_law_found 1:_law_word
abbrev N__law_plans : List Str := ["_law_found", "_law_word"]
theorem sc__law_plans : FnScope N__law_plans [] (defScope s__law_plans) := ⟨rfl, rfl, rfl, by decide +kernel, rfl, by decide +kernel, by decide +kernel⟩
abbrev s__law_ranges : Stmt := top 71
-- 0:_law_rows_here 1:_law_found 2:_law_own
abbrev N__law_ranges : List Str := ["_law_rows_here", "_law_found", "_law_own"]
theorem sc__law_ranges : FnScope N__law_ranges ["_law_rows_here"] (defScope s__law_ranges) := ⟨rfl, rfl, rfl, by decide +kernel, rfl, by decide +kernel, by decide +kernel⟩
abbrev s__law_states : Stmt := top 72
-- 0:_law_rows_here 1:_law_found 2:_law_low 3:_law_high 4:_law_wider 5:_law_own 6:_law_value
abbrev N__law_states : List Str := ["_law_rows_here", "_law_found", "_law_low", "_law_high", "_law_wider", "_law_own", "_law_value"]
theorem sc__law_states : FnScope N__law_states ["_law_rows_here"] (defScope s__law_states) := ⟨rfl, rfl, rfl, by decide +kernel, rfl, by decide +kernel, by decide +kernel⟩
abbrev s__law_some : Stmt := top 73
-- 0:_law_states_now 1:_law_most 2:_law_step
abbrev N__law_some : List Str := ["_law_states_now", "_law_most", "_law_step"]
theorem sc__law_some : FnScope N__law_some ["_law_states_now", "_law_most"] (defScope s__law_some) := ⟨rfl, rfl, rfl, by decide +kernel, rfl, by decide +kernel, by decide +kernel⟩
abbrev s__law_power : Stmt := top 74
-- 0:_law_base 1:_law_many 2:_law_found 3:_law_k
abbrev N__law_power : List Str := ["_law_base", "_law_many", "_law_found", "_law_k"]
theorem sc__law_power : FnScope N__law_power ["_law_base", "_law_many"] (defScope s__law_power) := ⟨rfl, rfl, rfl, by decide +kernel, rfl, by decide +kernel, by decide +kernel⟩
abbrev s__law_menu : Stmt := top 75
-- 0:_law_feed_here 1:_law_menu_here
abbrev N__law_menu : List Str := ["_law_feed_here", "_law_menu_here"]
theorem sc__law_menu : FnScope N__law_menu ["_law_feed_here"] (defScope s__law_menu) := ⟨rfl, rfl, rfl, by decide +kernel, rfl, by decide +kernel, by decide +kernel⟩
abbrev s__law_rows : Stmt := top 76
-- 0:_law_feed_here 1:_law_most 2:_law_found 3:_law_many 4:_law_had 5:_law_name 6:_law_size 7:_law_wide 8:_law_low 9:_law_given 10:_law_shown 11:_law_first
abbrev N__law_rows : List Str := ["_law_feed_here", "_law_most", "_law_found", "_law_many", "_law_had", "_law_name", "_law_size", "_law_wide", "_law_low", "_law_given", "_law_shown", "_law_first"]
theorem sc__law_rows : FnScope N__law_rows ["_law_feed_here", "_law_most"] (defScope s__law_rows) := ⟨rfl, rfl, rfl, by decide +kernel, rfl, by decide +kernel, by decide +kernel⟩
abbrev s__law_leaf : Stmt := top 77
-- 0:_law_feed_here 1:_law_rows_here 2:_law_plain 3:_law_own
abbrev N__law_leaf : List Str := ["_law_feed_here", "_law_rows_here", "_law_plain", "_law_own"]
theorem sc__law_leaf : FnScope N__law_leaf ["_law_feed_here", "_law_rows_here"] (defScope s__law_leaf) := ⟨rfl, rfl, rfl, by decide +kernel, rfl, by decide +kernel, by decide +kernel⟩
abbrev s__law_formula : Stmt := top 78
-- 0:_law_feed_here 1:_law_rows_here 2:_law_deep 3:_law_words 4:_law_word 5:_law_tables 6:_law_own 7:_law_way
abbrev N__law_formula : List Str := ["_law_feed_here", "_law_rows_here", "_law_deep", "_law_words", "_law_word", "_law_tables", "_law_own", "_law_way"]
theorem sc__law_formula : FnScope N__law_formula ["_law_feed_here", "_law_rows_here", "_law_deep"] (defScope s__law_formula) := ⟨rfl, rfl, rfl, by decide +kernel, rfl, by decide +kernel, by decide +kernel⟩
abbrev s__law_goal : Stmt := top 79
-- 0:_law_feed_here 1:_law_rows_here 2:_law_own
abbrev N__law_goal : List Str := ["_law_feed_here", "_law_rows_here", "_law_own"]
theorem sc__law_goal : FnScope N__law_goal ["_law_feed_here", "_law_rows_here"] (defScope s__law_goal) := ⟨rfl, rfl, rfl, by decide +kernel, rfl, by decide +kernel, by decide +kernel⟩
abbrev s__law_rule : Stmt := top 80
-- 0:_law_feed_here 1:_law_rows_here 2:_law_name 3:_law_guard_in 4:_law_found 5:_law_k
abbrev N__law_rule : List Str := ["_law_feed_here", "_law_rows_here", "_law_name", "_law_guard_in", "_law_found", "_law_k"]
theorem sc__law_rule : FnScope N__law_rule ["_law_feed_here", "_law_rows_here", "_law_name"] (defScope s__law_rule) := ⟨rfl, rfl, rfl, by decide +kernel, rfl, by decide +kernel, by decide +kernel⟩
abbrev s__law_samples : Stmt := top 81
-- 0:_law_add 1:_law_twice 2:_law_see 3:_law_rows_here 4:_law_found 5:_law_table 6:_law_move 7:_law_same
abbrev N__law_samples : List Str := ["_law_add", "_law_twice", "_law_see", "_law_rows_here", "_law_found", "_law_table", "_law_move", "_law_same"]
theorem sc__law_samples : FnScope N__law_samples [] (defScope s__law_samples) := ⟨rfl, rfl, rfl, by decide +kernel, rfl, by decide +kernel, by decide +kernel⟩
abbrev s__law_expected : Stmt := top 82
-- 0:_law_rows_here 1:_law_rule_here 2:_law_state 3:_law_guard_in 4:_law_found 5:_law_target 6:_law_e 7:_law_which 8:_law_value 9:_law_spot 10:_law_low 11:_law_high
abbrev N__law_expected : List Str := ["_law_rows_here", "_law_rule_here", "_law_state", "_law_guard_in", "_law_found", "_law_target", "_law_e", "_law_which", "_law_value", "_law_spot", "_law_low", "_law_high"]
theorem sc__law_expected : FnScope N__law_expected ["_law_rows_here", "_law_rule_here", "_law_state"] (defScope s__law_expected) := ⟨rfl, rfl, rfl, by decide +kernel, rfl, by decide +kernel, by decide +kernel⟩
abbrev s__law_expected_looks : Stmt := top 83
-- 0:_law_rows_here 1:_law_rule_here 2:_law_state 3:_law_looks 4:_law_parts 5:_law_guard_in 6:_law_target 7:_law_e 8:_law_part 9:_law_table 10:_law_whole 11:_law_own
abbrev N__law_expected_looks : List Str := ["_law_rows_here", "_law_rule_here", "_law_state", "_law_looks", "_law_parts", "_law_guard_in", "_law_target", "_law_e", "_law_part", "_law_table", "_law_whole", "_law_own"]
theorem sc__law_expected_looks : FnScope N__law_expected_looks ["_law_rows_here", "_law_rule_here", "_law_state"] (defScope s__law_expected_looks) := ⟨rfl, rfl, rfl, by decide +kernel, rfl, by decide +kernel, by decide +kernel⟩
abbrev s__law_rule_right : Stmt := top 84
-- 0:_law_rows_here 1:_law_rule_here 2:_law_state 3:_law_name 4:_law_guard_in 5:_law_lot 6:_law_got 7:_law_others 8:_law_other 9:_law_alone 10:_law_spots 11:_law_apart 12:_law_due 13:_law_made 14:_law_own 15:_law_k
abbrev N__law_rule_right : List Str := ["_law_rows_here", "_law_rule_here", "_law_state", "_law_name", "_law_guard_in", "_law_lot", "_law_got", "_law_others", "_law_other", "_law_alone", "_law_spots", "_law_apart", "_law_due", "_law_made", "_law_own", "_law_k"]
theorem sc__law_rule_right : FnScope N__law_rule_right ["_law_rows_here", "_law_rule_here", "_law_state"] (defScope s__law_rule_right) := ⟨rfl, rfl, rfl, by decide +kernel, rfl, by decide +kernel, by decide +kernel⟩
abbrev s__law_fixed : Stmt := top 85
-- 0:_law_rows_here 1:_law_own 2:_law_plain 3:_law_found 4:_law_other
abbrev N__law_fixed : List Str := ["_law_rows_here", "_law_own", "_law_plain", "_law_found", "_law_other"]
theorem sc__law_fixed : FnScope N__law_fixed ["_law_rows_here"] (defScope s__law_fixed) := ⟨rfl, rfl, rfl, by decide +kernel, rfl, by decide +kernel, by decide +kernel⟩
abbrev s_law : Stmt := top 86
-- 0:_law_script 1:_law_feed_here 2:_law_k 3:_law_samples_here 4:_law_rows_here 5:_law_states_now 6:_law_rule_here 7:_law_state 8:_law_good
abbrev N_law : List Str := ["_law_script", "_law_feed_here", "_law_k", "_law_samples_here", "_law_rows_here", "_law_states_now", "_law_rule_here", "_law_state", "_law_good"]
theorem sc_law : FnScope N_law ["_law_script"] (defScope s_law) := ⟨rfl, rfl, rfl, by decide +kernel, rfl, by decide +kernel, by decide +kernel⟩
end K

namespace K
open PySem L2
def clsBody : Stmt → List Stmt
  | .ClassDef _ _ _ bd _ _ _ _ _ _ _ => bd
  | _ => []
def clsM (i j : Nat) : Stmt := (clsBody (top i)).getD j (.Pass ⟨0, 0, 0, 0⟩)
abbrev s_R_init : Stmt := clsM 64 0
-- 0:self 1:name 2:guard 3:assignments 4:forms 5:target 6:value
abbrev N_R_init : List Str := ["self", "name", "guard", "assignments", "forms", "target", "value"]
theorem sc_R_init : FnScope N_R_init ["self", "name", "guard", "assignments"] (defScope s_R_init) := ⟨rfl, rfl, rfl, by decide +kernel, rfl, by decide +kernel, by decide +kernel⟩
abbrev s_R_assigned : Stmt := clsM 64 5
abbrev N_R_assigned : List Str := ["self", "cells", "state"]
theorem sc_R_assigned : FnScope N_R_assigned ["self", "cells", "state"] (defScope s_R_assigned) := ⟨rfl, rfl, rfl, by decide +kernel, rfl, by decide +kernel, by decide +kernel⟩
abbrev s_R_call : Stmt := clsM 64 6
abbrev N_R_call : List Str := ["self", "cells", "state"]
theorem sc_R_call : FnScope N_R_call ["self", "cells", "state"] (defScope s_R_call) := ⟨rfl, rfl, rfl, by decide +kernel, rfl, by decide +kernel, by decide +kernel⟩
end K

namespace K
open PySem PySem.Spec PyProof.Rows L2
def fns : List He.DefD := [
  ⟨("_wall", none), "_wall", "_wall", defArgs s__wall, defBody s__wall, defScope s__wall, [], []⟩,
  ⟨("row_width", none), "row_width", "row_width", defArgs s_row_width, defBody s_row_width, defScope s_row_width, [], []⟩,
  ⟨("cell_ranges", none), "cell_ranges", "cell_ranges", defArgs s_cell_ranges, defBody s_cell_ranges, defScope s_cell_ranges, [], []⟩,
  ⟨("found_index", none), "found_index", "found_index", defArgs s_found_index, defBody s_found_index, defScope s_found_index, [], []⟩,
  ⟨("cell_index", none), "cell_index", "cell_index", defArgs s_cell_index, defBody s_cell_index, defScope s_cell_index, [], [("key", .non)]⟩,
  ⟨("value_in", none), "value_in", "value_in", defArgs s_value_in, defBody s_value_in, defScope s_value_in, [], []⟩,
  ⟨("looked_at", none), "looked_at", "looked_at", defArgs s_looked_at, defBody s_looked_at, defScope s_looked_at, [], []⟩,
  ⟨("first_looks", none), "first_looks", "first_looks", defArgs s_first_looks, defBody s_first_looks, defScope s_first_looks, [], []⟩,
  ⟨("evaluated", none), "evaluated", "evaluated", defArgs s_evaluated, defBody s_evaluated, defScope s_evaluated, [], []⟩,
  ⟨("keyed_index", none), "keyed_index", "keyed_index", defArgs s_keyed_index, defBody s_keyed_index, defScope s_keyed_index, [], []⟩,
  ⟨("_lazy_value", none), "_lazy_value", "_lazy_value", defArgs s__lazy_value, defBody s__lazy_value, defScope s__lazy_value, [], []⟩,
  ⟨("_full_value", none), "_full_value", "_full_value", defArgs s__full_value, defBody s__full_value, defScope s__full_value, [], []⟩,
  ⟨("_of_one", none), "_of_one", "_of_one", defArgs s__of_one, defBody s__of_one, defScope s__of_one, [], []⟩,
  ⟨("value_of_two", none), "value_of_two", "value_of_two", defArgs s_value_of_two, defBody s_value_of_two, defScope s_value_of_two, [], []⟩,
  ⟨("_compared", none), "_compared", "_compared", defArgs s__compared, defBody s__compared, defScope s__compared, [], []⟩,
  ⟨("assigned", none), "assigned", "assigned", defArgs s_assigned, defBody s_assigned, defScope s_assigned, [], []⟩,
  ⟨("behind", none), "behind", "behind", defArgs s_behind, defBody s_behind, defScope s_behind, [], []⟩,
  ⟨("looks_of", none), "looks_of", "looks_of", defArgs s_looks_of, defBody s_looks_of, defScope s_looks_of, [], []⟩,
  ⟨("_worked_out", none), "_worked_out", "_worked_out", defArgs s__worked_out, defBody s__worked_out, defScope s__worked_out, [], []⟩,
  ⟨("_target_index", none), "_target_index", "_target_index", defArgs s__target_index, defBody s__target_index, defScope s__target_index, [], []⟩,
  ⟨("is_integer", none), "is_integer", "is_integer", defArgs s_is_integer, defBody s_is_integer, defScope s_is_integer, [], []⟩,
  ⟨("is_name", none), "is_name", "is_name", defArgs s_is_name, defBody s_is_name, defScope s_is_name, [], []⟩,
  ⟨("part_count", none), "part_count", "part_count", defArgs s_part_count, defBody s_part_count, defScope s_part_count, [], []⟩,
  ⟨("as_expression", none), "as_expression", "as_expression", defArgs s_as_expression, defBody s_as_expression, defScope s_as_expression, [], []⟩,
  ⟨("as_target", none), "as_target", "as_target", defArgs s_as_target, defBody s_as_target, defScope s_as_target, [], []⟩,
  ⟨("is_integer_word", none), "is_integer_word", "is_integer_word", defArgs s_is_integer_word, defBody s_is_integer_word, defScope s_is_integer_word, [], []⟩,
  ⟨("take_expression", none), "take_expression", "take_expression", defArgs s_take_expression, defBody s_take_expression, defScope s_take_expression, [], []⟩,
  ⟨("take_rule", none), "take_rule", "take_rule", defArgs s_take_rule, defBody s_take_rule, defScope s_take_rule, [], []⟩,
  ⟨("_take_form", none), "_take_form", "_take_form", defArgs s__take_form, defBody s__take_form, defScope s__take_form, [], []⟩,
  ⟨("_take_target", none), "_take_target", "_take_target", defArgs s__take_target, defBody s__take_target, defScope s__take_target, [], []⟩,
  ⟨("expression_text", none), "expression_text", "expression_text", defArgs s_expression_text, defBody s_expression_text, defScope s_expression_text, [], []⟩,
  ⟨("rule_text", none), "rule_text", "rule_text", defArgs s_rule_text, defBody s_rule_text, defScope s_rule_text, [], []⟩,
  ⟨("_assignment_text", none), "_assignment_text", "_assignment_text", defArgs s__assignment_text, defBody s__assignment_text, defScope s__assignment_text, [], []⟩,
  ⟨("form_of", none), "form_of", "form_of", defArgs s_form_of, defBody s_form_of, defScope s_form_of, [], []⟩,
  ⟨("_target_form", none), "_target_form", "_target_form", defArgs s__target_form, defBody s__target_form, defScope s__target_form, [], []⟩,
  ⟨("_cell_name", none), "_cell_name", "_cell_name", defArgs s__cell_name, defBody s__cell_name, defScope s__cell_name, [], []⟩,
  ⟨("_law_feed", none), "_law_feed", "_law_feed", defArgs s__law_feed, defBody s__law_feed, defScope s__law_feed, [], []⟩,
  ⟨("_law_draw", none), "_law_draw", "_law_draw", defArgs s__law_draw, defBody s__law_draw, defScope s__law_draw, [], []⟩,
  ⟨("_law_plans", none), "_law_plans", "_law_plans", defArgs s__law_plans, defBody s__law_plans, defScope s__law_plans, [], []⟩,
  ⟨("_law_ranges", none), "_law_ranges", "_law_ranges", defArgs s__law_ranges, defBody s__law_ranges, defScope s__law_ranges, [], []⟩,
  ⟨("_law_states", none), "_law_states", "_law_states", defArgs s__law_states, defBody s__law_states, defScope s__law_states, [], []⟩,
  ⟨("_law_some", none), "_law_some", "_law_some", defArgs s__law_some, defBody s__law_some, defScope s__law_some, [], []⟩,
  ⟨("_law_power", none), "_law_power", "_law_power", defArgs s__law_power, defBody s__law_power, defScope s__law_power, [], []⟩,
  ⟨("_law_menu", none), "_law_menu", "_law_menu", defArgs s__law_menu, defBody s__law_menu, defScope s__law_menu, [], []⟩,
  ⟨("_law_rows", none), "_law_rows", "_law_rows", defArgs s__law_rows, defBody s__law_rows, defScope s__law_rows, [], []⟩,
  ⟨("_law_leaf", none), "_law_leaf", "_law_leaf", defArgs s__law_leaf, defBody s__law_leaf, defScope s__law_leaf, [], []⟩,
  ⟨("_law_formula", none), "_law_formula", "_law_formula", defArgs s__law_formula, defBody s__law_formula, defScope s__law_formula, [], []⟩,
  ⟨("_law_goal", none), "_law_goal", "_law_goal", defArgs s__law_goal, defBody s__law_goal, defScope s__law_goal, [], []⟩,
  ⟨("_law_rule", none), "_law_rule", "_law_rule", defArgs s__law_rule, defBody s__law_rule, defScope s__law_rule, [], []⟩,
  ⟨("_law_samples", none), "_law_samples", "_law_samples", defArgs s__law_samples, defBody s__law_samples, defScope s__law_samples, [], []⟩,
  ⟨("_law_expected", none), "_law_expected", "_law_expected", defArgs s__law_expected, defBody s__law_expected, defScope s__law_expected, [], []⟩,
  ⟨("_law_expected_looks", none), "_law_expected_looks", "_law_expected_looks", defArgs s__law_expected_looks, defBody s__law_expected_looks, defScope s__law_expected_looks, [], []⟩,
  ⟨("_law_rule_right", none), "_law_rule_right", "_law_rule_right", defArgs s__law_rule_right, defBody s__law_rule_right, defScope s__law_rule_right, [], []⟩,
  ⟨("_law_fixed", none), "_law_fixed", "_law_fixed", defArgs s__law_fixed, defBody s__law_fixed, defScope s__law_fixed, [], []⟩,
  ⟨("law", none), "law", "law", defArgs s_law, defBody s_law, defScope s_law, [], []⟩,
  ⟨("assigned_rules", none), "assigned", "assigned", defArgs s_assigned, defBody s_assigned, defScope s_assigned, [], []⟩,
  ⟨("Rule", some "__init__"), "__init__", "Rule.__init__", defArgs s_R_init, defBody s_R_init, defScope s_R_init, [], [("guard", .int 1)]⟩,
  ⟨("Rule", some "assigned"), "assigned", "Rule.assigned", defArgs s_R_assigned, defBody s_R_assigned, defScope s_R_assigned, [], []⟩,
  ⟨("Rule", some "__call__"), "__call__", "Rule.__call__", defArgs s_R_call, defBody s_R_call, defScope s_R_call, [], []⟩,
  ⟨("with_assigned", none), "with_assigned", "with_assigned", defArgs s_with_assigned, defBody s_with_assigned, defScope s_with_assigned, [], []⟩]
def fas : List He.Fa := [.glo "_wall", .glo "row_width", .glo "cell_ranges", .glo "found_index", .glo "cell_index", .glo "value_in", .glo "looked_at", .glo "first_looks", .glo "evaluated", .glo "keyed_index", .glo "_lazy_value", .glo "_full_value", .glo "_of_one", .glo "value_of_two", .glo "_compared", .glo "assigned", .glo "behind", .glo "looks_of", .glo "_worked_out", .glo "_target_index", .glo "is_integer", .glo "is_name", .glo "part_count", .glo "as_expression", .glo "as_target", .glo "is_integer_word", .glo "take_expression", .glo "take_rule", .glo "_take_form", .glo "_take_target", .glo "expression_text", .glo "rule_text", .glo "_assignment_text", .glo "form_of", .glo "_target_form", .glo "_cell_name", .glo "_law_feed", .glo "_law_draw", .glo "_law_plans", .glo "_law_ranges", .glo "_law_states", .glo "_law_some", .glo "_law_power", .glo "_law_menu", .glo "_law_rows", .glo "_law_leaf", .glo "_law_formula", .glo "_law_goal", .glo "_law_rule", .glo "_law_samples", .glo "_law_expected", .glo "_law_expected_looks", .glo "_law_rule_right", .glo "_law_fixed", .glo "law",
  .free "len", .free "int", .free "max", .free "min", .free "range", .free "tuple", .free "list", .free "isinstance", .free "str", .free "bool", .free "set", .free "dict", .free "sorted", .free "all", .free "classmethod", .free "repr", .glo "LAZY", .glo "assigned_rules", .glo "Rule", .glo "Expression", .cls "Rule", .mkr "Rule", .meth "Rule" "assigned", .meth "Rule" "__call__", .noat "Rule" "_form", .glo "with_assigned"]
def loose0 : List PySem.Str := ["_wall", "OrderError", "ProgramError", "TextError", "UnknownCell", "InvalidText", "row_width", "cell_ranges", "found_index", "cell_index", "LAZY", "value_in", "looked_at", "first_looks", "evaluated", "keyed_index", "_lazy_value", "_full_value", "_of_one", "value_of_two", "_compared", "assigned", "assigned_rules", "behind", "with_assigned", "looks_of", "_worked_out", "_target_index", "LETTERS", "LONGEST_NAME"]
def loose1 : List PySem.Str := ["UNARY", "BINARY", "DIVIDING", "is_integer", "is_name", "part_count", "as_expression", "as_target", "DIGITS", "MOST_DIGITS", "is_integer_word", "WordReader", "expression_read", "rule_read", "take_expression", "take_rule", "_take_form", "_take_target", "expression_text", "rule_text", "_assignment_text", "form_of", "Expression", "Formed", "Rule", "_target_form", "_cell_name", "_law_feed", "_law_draw", "_law_plans"]
def loose2 : List PySem.Str := ["_law_ranges", "_law_states", "_law_some", "_law_power", "_law_menu", "_law_rows", "_law_leaf", "_law_formula", "_law_goal", "_law_rule", "_law_samples", "_law_expected", "_law_expected_looks", "_law_rule_right", "_law_fixed"]
def loose : List PySem.Str := loose0 ++ loose1 ++ loose2
abbrev lawAt : Nat := 86
abbrev Rw : PySem.W.OpenRow := PySem.W.OpenLaw.row PySem.Challenge.rw_orderless_k10_whole_rules_by_expressions
-- INDEX 0:_wall 1:row_width 2:cell_ranges 3:found_index 4:cell_index 5:value_in 6:looked_at 7:first_looks 8:evaluated 9:keyed_index 10:_lazy_value 11:_full_value 12:_of_one 13:_of_two 14:_compared 15:assigned 16:behind 17:looks_of 18:_worked_out 19:_target_index 20:is_integer 21:is_name 22:part_count 23:as_expression 24:as_target 25:is_integer_word 26:take_expression 27:take_rule 28:_take_form 29:_take_target 30:expression_text 31:rule_text 32:_assignment_text 33:form_of 34:_target_form 35:_cell_name 36:_law_feed 37:_law_draw 38:_law_plans 39:_law_ranges 40:_law_states 41:_law_some 42:_law_power 43:_law_menu 44:_law_rows 45:_law_leaf 46:_law_formula 47:_law_goal 48:_law_rule 49:_law_samples 50:_law_expected 51:_law_expected_looks 52:_law_rule_right 53:_law_fixed 54:law
def lazyD : List He.Dv := [.str "and", .str "or", .str "if"]
def ruleB (K : PySem.W.Frag) : Bool := He.tupB K "LAZY" lazyD && (decide (PySem.W.kitOne K (.type "int") (.ref (He.ga K "Expression")) = some false) && (decide (PySem.W.kitOne K (.type "str") (.ref (He.ga K "Expression")) = some false) && (decide (PySem.W.kitOne K (.type "tuple") (.ref (He.ga K "Expression")) = some false) &&
  PySem.W.fnIn K (He.ma K (He.ga K "Rule") "__call__"))))
abbrev ObT : Type := He.AlD × Bool
def obG (g : Addr → Option Obj) : ObT := (He.obsDG 4 fas fns g, ruleB (He.frG g (He.asD g 4)))
def ownHook : PySem.W.Hook where
  α := ObT
  obs := fun s => obG s.heap.get?
  val := fun _ => (He.valD fns, true)
  says := fun _ h => ∃ F : PySem.W.Frag, F.In h ∧ He.SaysD fas fns F ∧ ruleB F = true
  of := fun _ _ e => ⟨_, He.frG_in, congrArg (fun z : ObT => z.1) e, congrArg (fun z : ObT => z.2) e⟩
  keeps := fun _ _ _ ⟨F, hF, c⟩ k => ⟨F, PySem.W.Frag.In.keeps hF k, c⟩
def obT (s : PySem.W.SharedT) : ObT := obG (HandSHeadRun.getT s)
theorem obT_eq (s : PySem.W.SharedT) : obT s = ownHook.obs s.abs := by
  have e : HandSHeadRun.getT s = s.abs.heap.get? := funext (HandSHeadRun.getT_eq s)
  unfold obT
  rw [e] <;> rfl
set_option maxHeartbeats 0 in
theorem topRun (w : World) : HandSHeadRun.RunEq Rw (PySem.W.view Rw.prog [lawAt]) ownHook obT 9000 loose w := by
  intro os
  kernel_rfl
end K

namespace G
open PySem PySem.Spec PyProof.Rows L2

/-! ### contexts by what is asked of them; the weakest reading of a piece of syntax -/
structure Md where
  prog : Program
  w : World
  K : PySem.W.Frag
  mg : Str → Option Value
  base : Heap
structure Cd extends Md where
  N : List Str
  sc : Scope
  k : Nat
  top : Bool
  g : Bool
structure Is (c : Cd) (X : Cx) : Prop where
  prog : X.prog = c.prog
  w : X.w = c.w
  K : X.K = c.K
  mg : X.mg = c.mg
  base : X.base = c.base
  N : X.N = c.N
  sc : X.env.scope = c.sc
  calm : X.calm = true
  room : Room c.k X.A
  top : c.top = true → ∀ x, X.fn x = true
  own : PassesOwn (model X.prog X.w) X.A X.env X.xe
  nd : c.N.Nodup
  gd : c.g = true → X.A.guards = some []

structure DLe (D D' : Ends) : Prop where
  nx : ∀ σ H, D.nx σ H → D'.nx σ H
  rt : ∀ v H, D.rt v H → D'.rt v H
  bk : ∀ σ H, D.bk σ H → D'.bk σ H
  ct : ∀ σ H, D.ct σ H → D'.ct σ H
theorem DLe.refl (D : Ends) : DLe D D := ⟨fun _ _ h => h, fun _ _ h => h, fun _ _ h => h, fun _ _ h => h⟩
theorem DLe.trans {D D1 D2 : Ends} (a : DLe D D1) (b : DLe D1 D2) : DLe D D2 := ⟨fun _ _ h => b.nx _ _ (a.nx _ _ h), fun _ _ h => b.rt _ _ (a.rt _ _ h), fun _ _ h => b.bk _ _ (a.bk _ _ h), fun _ _ h => b.ct _ _ (a.ct _ _ h)⟩

structure RE (c : Cd) (e : Expr) (σ : L2.St) (H : Hp) (Q : VK) : Prop where
  ex : ∃ t Q', (∀ X, Is c X → PE X e t) ∧ t σ H Q' ∧ ∀ v H', Q' v H' → Q v H'
structure RT (c : Cd) (e : Expr) (σ : L2.St) (H : Hp) (Q : Bool → Hp → Prop) : Prop where
  ex : ∃ t Q', (∀ X, Is c X → PT X e t) ∧ t σ H Q' ∧ ∀ v H', Q' v H' → Q v H'
structure RW (c : Cd) (e : Expr) (σ : L2.St) (H : Hp) (Q : Bool → Hp → Prop) : Prop where
  ex : ∃ t Q', (∀ X, Is c X → PW X e t) ∧ t σ H Q' ∧ ∀ v H', Q' v H' → Q v H'
structure RTs (c : Cd) (es : List Expr) (σ : L2.St) (H : Hp) (Q : Bool → Hp → Prop) : Prop where
  ex : ∃ t Q', (∀ X, Is c X → PTs X es t) ∧ t σ H Q' ∧ ∀ v H', Q' v H' → Q v H'
structure RA (c : Cd) (es : List Expr) (σ : L2.St) (H : Hp) (Q : List V → Hp → Prop) : Prop where
  ex : ∃ t Q', (∀ X, Is c X → PA X es t) ∧ t σ H Q' ∧ ∀ v H', Q' v H' → Q v H'
structure RPK (c : Cd) (es : List Keyword) (σ : L2.St) (H : Hp) (Q : List V → Hp → Prop) : Prop where
  ex : ∃ t Q', (∀ X, Is c X → PK X es t) ∧ t σ H Q' ∧ ∀ v H', Q' v H' → Q v H'
structure RS (c : Cd) (st : Stmt) (D : Ends) (σ : L2.St) (H : Hp) : Prop where
  ex : ∃ t D', (∀ X, Is c X → PS X st t) ∧ t D' σ H ∧ DLe D' D
structure RB (c : Cd) (sts : List Stmt) (D : Ends) (σ : L2.St) (H : Hp) : Prop where
  ex : ∃ t D', (∀ X, Is c X → PSs X sts t) ∧ t D' σ H ∧ DLe D' D
structure RG (c : Cd) (tg : Expr) (v : V) (σ : L2.St) (H : Hp) (Q : L2.St → Hp → Prop) : Prop where
  ex : ∃ t Q', (∀ X, Is c X → PG X tg t) ∧ t v σ H Q' ∧ ∀ v H', Q' v H' → Q v H'
structure RGs (c : Cd) (ts : List Expr) (vs : List V) (σ : L2.St) (H : Hp) (Q : L2.St → Hp → Prop) : Prop where
  ex : ∃ t Q', (∀ X, Is c X → PGs X ts t) ∧ t vs σ H Q' ∧ ∀ v H', Q' v H' → Q v H'
structure RI (c : Cd) (tg it : Expr) (σ : L2.St) (H : Hp) (R : It → Hp → Prop) : Prop where
  ex : ∃ t R', (∀ X, Is c X → PI X tg it t) ∧ t σ H R' ∧ ∀ J H', R' J H' → R J H'
structure RO (c : Cd) (op : Operator) (x y : V) (H : Hp) (Q : VK) : Prop where
  ex : ∃ r Q', (∀ X, Is c X → OpR X (binaryOp op) r) ∧ r x y H Q' ∧ ∀ v H', Q' v H' → Q v H'
structure RQ (c : Cd) (op : CmpOp) (x y : V) (H : Hp) (Q : VK) : Prop where
  ex : ∃ r Q', (∀ X, Is c X → OpR X (compareOp op) r) ∧ r x y H Q' ∧ ∀ v H', Q' v H' → Q v H'
structure RU (c : Cd) (f : UnaryOp) (x : V) (H : Hp) (Q : VK) : Prop where
  ex : ∃ r Q', (∀ X, Is c X → UnR X (unaryOp f) r) ∧ r x H Q' ∧ ∀ v H', Q' v H' → Q v H'
structure RC (c : Cd) (f : Value) (xs : List V) (H : Hp) (Q : VK) : Prop where
  ex : ∃ r Q', (∀ X, Is c X → CallR X f r) ∧ r xs H Q' ∧ ∀ v H', Q' v H' → Q v H'
structure RX (c : Cd) (x y : V) (H : Hp) (Q : VK) : Prop where
  ex : ∃ r Q', (∀ X, Is c X → IxR X r) ∧ r x y H Q' ∧ ∀ v H', Q' v H' → Q v H'
structure RSl (c : Cd) (x : V) (l u : Option Int) (H : Hp) (Q : VK) : Prop where
  ex : ∃ r Q', (∀ X, Is c X → SlR X r) ∧ r x l u H Q' ∧ ∀ v H', Q' v H' → Q v H'
structure RM (c : Cd) (id : String) (x : V) (xs : List V) (H : Hp) (Q : VK) : Prop where
  ex : ∃ r Q', (∀ X, Is c X → MtR X id r) ∧ r x xs H Q' ∧ ∀ v H', Q' v H' → Q v H'
structure RP (c : Cd) (o i v : V) (H : Hp) (Q : Hp → Prop) : Prop where
  ex : ∃ r Q', (∀ X, Is c X → PSet X r) ∧ r o i v H Q' ∧ ∀ H', Q' H' → Q H'
structure RPo (c : Cd) (e : Option Expr) (σ : L2.St) (H : Hp) (Q : Option Int → Hp → Prop) : Prop where
  ex : ∃ t Q', (∀ X, Is c X → PO X e t) ∧ t σ H Q' ∧ ∀ v H', Q' v H' → Q v H'

section
variable {c : Cd} {X : Cx} (h : Is c X)
include h
theorem pe_re {e : Expr} : PE X e (RE c e) := ⟨fun pins s σ H Q I ⟨⟨_, _, a, q, w⟩⟩ => thn ((a X h).run pins s σ H _ I q) fun _ _ ⟨v, H', I', r, q'⟩ => ⟨v, H', I', r, w _ _ q'⟩⟩
theorem pt_rt {e : Expr} : PT X e (RT c e) := ⟨fun pins s σ H Q I ⟨⟨_, _, a, q, w⟩⟩ => thn ((a X h).run pins s σ H _ I q) fun _ _ ⟨H', I', q'⟩ => ⟨H', I', w _ _ q'⟩⟩
theorem pw_rw {e : Expr} : PW X e (RW c e) := ⟨fun wh pins s σ H Q I ⟨⟨_, _, a, q, w⟩⟩ => thn ((a X h).run wh pins s σ H _ I q) fun _ _ ⟨H', I', q'⟩ => ⟨H', I', w _ _ q'⟩⟩
theorem pts_rts {es : List Expr} : PTs X es (RTs c es) := ⟨fun pins s σ H Q I ⟨⟨_, _, a, q, w⟩⟩ => thn ((a X h).run pins s σ H _ I q) fun _ _ ⟨H', I', q'⟩ => ⟨H', I', w _ _ q'⟩⟩
theorem pa_ra {es : List Expr} : PA X es (RA c es) := ⟨fun pos pins s σ H Q I ⟨⟨_, _, a, q, w⟩⟩ => thn ((a X h).run pos pins s σ H _ I q) fun _ _ ⟨v, H', I', r, q'⟩ => ⟨v, H', I', r, w _ _ q'⟩⟩
theorem pk_rk {es : List Keyword} : PK X es (RPK c es) := ⟨fun pos pins s σ H Q I ⟨⟨_, _, a, q, w⟩⟩ => thn ((a X h).run pos pins s σ H _ I q) fun _ _ ⟨v, H', I', r, q'⟩ => ⟨v, H', I', r, w _ _ q'⟩⟩
theorem SP.le {pins : List (Addr × Obj)} {D' D : Ends} (w : DLe D' D) : ∀ {f : Flow} {s' : Shared}, SP X pins D' f s' → SP X pins D f s'
  | .next, _, ⟨σ', H', I, q⟩ => ⟨σ', H', I, w.nx _ _ q⟩
  | .brk, _, ⟨σ', H', I, q⟩ => ⟨σ', H', I, w.bk _ _ q⟩
  | .cont, _, ⟨σ', H', I, q⟩ => ⟨σ', H', I, w.ct _ _ q⟩
  | .ret _, _, ⟨v, σ', H', I, r, q⟩ => ⟨v, σ', H', I, r, w.rt _ _ q⟩
theorem ps_rs {st : Stmt} : PS X st (RS c st) := ⟨fun pins s σ H D I ⟨⟨_, _, a, q, w⟩⟩ => thn ((a X h).run pins s σ H _ I q) fun _ _ q' => SP.le h w q'⟩
theorem ps_rb {sts : List Stmt} : PSs X sts (RB c sts) := ⟨fun pins s σ H D I ⟨⟨_, _, a, q, w⟩⟩ => thn ((a X h).run pins s σ H _ I q) fun _ _ q' => SP.le h w q'⟩
theorem pg_rg {tg : Expr} : PG X tg (RG c tg) := ⟨fun pins s σ H v u Q I r ⟨⟨_, _, a, q, w⟩⟩ => thn ((a X h).run pins s σ H v u _ I r q) fun _ _ ⟨σ', H', I', q'⟩ => ⟨σ', H', I', w _ _ q'⟩⟩
theorem pg_rgs {ts : List Expr} : PGs X ts (RGs c ts) := ⟨fun pins s σ H vs us Q I r ⟨⟨_, _, a, q, w⟩⟩ => thn ((a X h).run pins s σ H vs us _ I r q) fun _ _ ⟨σ', H', I', q'⟩ => ⟨σ', H', I', w _ _ q'⟩⟩
theorem pi_ri {tg it : Expr} : PI X tg it (RI c tg it) := ⟨fun pins s σ H R I ⟨⟨_, _, a, q, w⟩⟩ => thn ((a X h).run pins s σ H _ I q) fun _ _ z => thn z fun _ _ ⟨it, fp, tn, J, H', e, I', T, t0, f, q'⟩ => ⟨it, fp, tn, J, H', e, I', T, t0, f, w _ _ q'⟩⟩
theorem EP.le {pins : List (Addr × Obj)} {σ : L2.St} {Q' Q : VK} {u : Value} {s' : Shared} (w : ∀ v H', Q' v H' → Q v H') : EP X pins σ Q' u s' → EP X pins σ Q u s' := fun ⟨v, H', I', r, q'⟩ => ⟨v, H', I', r, w _ _ q'⟩
theorem op_ro {op : Operator} : OpR X (binaryOp op) (RO c op) := fun pins s σ H x y v u Q I r1 r2 ⟨⟨_, _, a, q, w⟩⟩ => thn (a X h pins s σ H x y v u _ I r1 r2 q) fun _ _ z => EP.le h w z
theorem op_rq {op : CmpOp} : OpR X (compareOp op) (RQ c op) := fun pins s σ H x y v u Q I r1 r2 ⟨⟨_, _, a, q, w⟩⟩ => thn (a X h pins s σ H x y v u _ I r1 r2 q) fun _ _ z => EP.le h w z
theorem un_ru {f : UnaryOp} : UnR X (unaryOp f) (RU c f) := fun pins s σ H x v Q I r ⟨⟨_, _, a, q, w⟩⟩ => thn (a X h pins s σ H x v _ I r q) fun _ _ z => EP.le h w z
theorem call_rc {f : Value} : CallR X f (RC c f) := fun pins s σ H xs us Q I r ⟨⟨_, _, a, q, w⟩⟩ => thn (a X h pins s σ H xs us _ I r q) fun _ _ z => EP.le h w z
theorem ix_rx : IxR X (RX c) := by
  intro value slice pins s σ H x y v u Q I r1 r2 q0 hs
  obtain ⟨⟨_, _, a, q, w⟩⟩ := q0
  exact thn (a X h value slice pins s σ H x y v u _ I r1 r2 q hs) fun _ _ z => EP.le h w z
theorem sl_rs : SlR X (RSl c) := by
  intro pins s σ H x v vl vu lo hi sl Q I rx hs pl pu ⟨⟨_, _, a, q, w⟩⟩
  obtain ⟨T, id, h1, h2, h3⟩ := a X h pins s σ H x v vl vu lo hi sl _ I rx hs pl pu q
  exact ⟨T, id, h1, h2, thn h3 fun _ _ z => EP.le h w z⟩
theorem mt_rm {id : String} : MtR X id (RM c id) := by
  intro pins s σ H x xs v us Q I r1 r2 ⟨⟨_, _, a, q, w⟩⟩
  exact thn (a X h pins s σ H x xs v us _ I r1 r2 q) fun _ _ z => EP.le h w z
theorem set_rp : PSet X (RP c) := by
  intro pins s σ H o i v ov iv u Q I r1 r2 r3 ⟨⟨_, _, a, q, w⟩⟩
  exact thn (a X h pins s σ H o i v ov iv u _ I r1 r2 r3 q) fun _ _ ⟨H', I', q'⟩ => ⟨H', I', w _ q'⟩
theorem po_rp {e : Option Expr} : PO X e (RPo c e) := ⟨fun pins s σ H Q I ⟨⟨_, _, a, q, w⟩⟩ => thn ((a X h).run pins s σ H _ I q) fun _ _ ⟨o, H', I', p, q'⟩ => ⟨o, H', I', p, w _ _ q'⟩⟩
end
section
variable {c : Cd} {σ : L2.St} {H : Hp} {Q Q' : VK} {B B' : Bool → Hp → Prop} {D D' : Ends}
theorem re_of {e : Expr} {t : TE} (h : ∀ X, Is c X → PE X e t) (q : t σ H Q) : RE c e σ H Q := ⟨⟨t, Q, h, q, fun _ _ z => z⟩⟩
theorem rt_of {e : Expr} {t : TT} (h : ∀ X, Is c X → PT X e t) (q : t σ H B) : RT c e σ H B := ⟨⟨t, B, h, q, fun _ _ z => z⟩⟩
theorem rw_of {e : Expr} {t : TT} (h : ∀ X, Is c X → PW X e t) (q : t σ H B) : RW c e σ H B := ⟨⟨t, B, h, q, fun _ _ z => z⟩⟩
theorem rts_of {es : List Expr} {t : TT} (h : ∀ X, Is c X → PTs X es t) (q : t σ H B) : RTs c es σ H B := ⟨⟨t, B, h, q, fun _ _ z => z⟩⟩
theorem ra_of {es : List Expr} {t : TA} {Q : List V → Hp → Prop} (h : ∀ X, Is c X → PA X es t) (q : t σ H Q) : RA c es σ H Q := ⟨⟨t, Q, h, q, fun _ _ z => z⟩⟩
theorem rk_of {es : List Keyword} {t : TA} {Q : List V → Hp → Prop} (h : ∀ X, Is c X → PK X es t) (q : t σ H Q) : RPK c es σ H Q := ⟨⟨t, Q, h, q, fun _ _ z => z⟩⟩
theorem rs_of {st : Stmt} {t : TS} (h : ∀ X, Is c X → PS X st t) (q : t D σ H) : RS c st D σ H := ⟨⟨t, D, h, q, DLe.refl D⟩⟩
theorem rb_of {st : List Stmt} {t : TS} (h : ∀ X, Is c X → PSs X st t) (q : t D σ H) : RB c st D σ H := ⟨⟨t, D, h, q, DLe.refl D⟩⟩
theorem rg_of {tg : Expr} {t : TG} {v : V} {Q : L2.St → Hp → Prop} (h : ∀ X, Is c X → PG X tg t) (q : t v σ H Q) : RG c tg v σ H Q := ⟨⟨t, Q, h, q, fun _ _ z => z⟩⟩
theorem rgs_of {tg : List Expr} {t : TGs} {v : List V} {Q : L2.St → Hp → Prop} (h : ∀ X, Is c X → PGs X tg t) (q : t v σ H Q) : RGs c tg v σ H Q := ⟨⟨t, Q, h, q, fun _ _ z => z⟩⟩
theorem ri_of {tg it : Expr} {t : TI} {R : It → Hp → Prop} (h : ∀ X, Is c X → PI X tg it t) (q : t σ H R) : RI c tg it σ H R := ⟨⟨t, R, h, q, fun _ _ z => z⟩⟩
theorem ro_of {op : Operator} {r : R2} {x y : V} (h : ∀ X, Is c X → OpR X (binaryOp op) r) (q : r x y H Q) : RO c op x y H Q := ⟨⟨r, Q, h, q, fun _ _ z => z⟩⟩
theorem rq_of {op : CmpOp} {r : R2} {x y : V} (h : ∀ X, Is c X → OpR X (compareOp op) r) (q : r x y H Q) : RQ c op x y H Q := ⟨⟨r, Q, h, q, fun _ _ z => z⟩⟩
theorem ru_of {f : UnaryOp} {r : V → Hp → VK → Prop} {x : V} (h : ∀ X, Is c X → UnR X (unaryOp f) r) (q : r x H Q) : RU c f x H Q := ⟨⟨r, Q, h, q, fun _ _ z => z⟩⟩
theorem rc_of {f : Value} {r : List V → Hp → VK → Prop} {xs : List V} (h : ∀ X, Is c X → CallR X f r) (q : r xs H Q) : RC c f xs H Q := ⟨⟨r, Q, h, q, fun _ _ z => z⟩⟩
theorem rx_of {r : R2} {x y : V} (h : ∀ X, Is c X → IxR X r) (q : r x y H Q) : RX c x y H Q := ⟨⟨r, Q, h, q, fun _ _ z => z⟩⟩
theorem rsl_of {r : V → Option Int → Option Int → Hp → VK → Prop} {x : V} {l u : Option Int} (h : ∀ X, Is c X → SlR X r) (q : r x l u H Q) : RSl c x l u H Q := ⟨⟨r, Q, h, q, fun _ _ z => z⟩⟩
theorem rm_of {id : String} {r : V → List V → Hp → VK → Prop} {x : V} {xs : List V} (h : ∀ X, Is c X → MtR X id r) (q : r x xs H Q) : RM c id x xs H Q := ⟨⟨r, Q, h, q, fun _ _ z => z⟩⟩
theorem rp_of {r : TSet} {o i v : V} {Q : Hp → Prop} (h : ∀ X, Is c X → PSet X r) (q : r o i v H Q) : RP c o i v H Q := ⟨⟨r, Q, h, q, fun _ z => z⟩⟩
theorem rpo_of {e : Option Expr} {t : TO} {Q : Option Int → Hp → Prop} (h : ∀ X, Is c X → PO X e t) (q : t σ H Q) : RPo c e σ H Q := ⟨⟨t, Q, h, q, fun _ _ z => z⟩⟩
theorem RE.mono {e : Expr} (w : ∀ v H', Q v H' → Q' v H') : RE c e σ H Q → RE c e σ H Q' := fun ⟨⟨t, Q1, h, q, z⟩⟩ => ⟨⟨t, Q1, h, q, fun _ _ y => w _ _ (z _ _ y)⟩⟩
theorem RT.mono {e : Expr} (w : ∀ v H', B v H' → B' v H') : RT c e σ H B → RT c e σ H B' := fun ⟨⟨t, Q1, h, q, z⟩⟩ => ⟨⟨t, Q1, h, q, fun _ _ y => w _ _ (z _ _ y)⟩⟩
theorem RTs.mono {e : List Expr} (w : ∀ v H', B v H' → B' v H') : RTs c e σ H B → RTs c e σ H B' := fun ⟨⟨t, Q1, h, q, z⟩⟩ => ⟨⟨t, Q1, h, q, fun _ _ y => w _ _ (z _ _ y)⟩⟩
theorem RA.mono {e : List Expr} {Q Q' : List V → Hp → Prop} (w : ∀ v H', Q v H' → Q' v H') : RA c e σ H Q → RA c e σ H Q' := fun ⟨⟨t, Q1, h, q, z⟩⟩ => ⟨⟨t, Q1, h, q, fun _ _ y => w _ _ (z _ _ y)⟩⟩
theorem RG.mono {e : Expr} {v : V} {Q Q' : L2.St → Hp → Prop} (w : ∀ v H', Q v H' → Q' v H') : RG c e v σ H Q → RG c e v σ H Q' := fun ⟨⟨t, Q1, h, q, z⟩⟩ => ⟨⟨t, Q1, h, q, fun _ _ y => w _ _ (z _ _ y)⟩⟩
theorem RI.mono {tg it : Expr} {R R' : It → Hp → Prop} (w : ∀ v H', R v H' → R' v H') : RI c tg it σ H R → RI c tg it σ H R' := fun ⟨⟨t, Q1, h, q, z⟩⟩ => ⟨⟨t, Q1, h, q, fun _ _ y => w _ _ (z _ _ y)⟩⟩
theorem RO.mono {f : Operator} {x y : V} (w : ∀ v H', Q v H' → Q' v H') : RO c f x y H Q → RO c f x y H Q' := fun ⟨⟨t, Q1, h, q, z⟩⟩ => ⟨⟨t, Q1, h, q, fun _ _ y => w _ _ (z _ _ y)⟩⟩
theorem RS.mono {st : Stmt} (w : DLe D D') : RS c st D σ H → RS c st D' σ H := fun ⟨⟨t, Q1, h, q, z⟩⟩ => ⟨⟨t, Q1, h, q, z.trans w⟩⟩
theorem RB.mono {st : List Stmt} (w : DLe D D') : RB c st D σ H → RB c st D' σ H := fun ⟨⟨t, Q1, h, q, z⟩⟩ => ⟨⟨t, Q1, h, q, z.trans w⟩⟩
end
theorem kEq {c : Cd} {X : Cx} (h : Is c X) {p : PySem.W.Frag → Prop} (a : p X.K) : p c.K := h.K ▸ a

/-- the place of a name -/
inductive At : List Str → Nat → Str → Prop
  | z {x : Str} {l : List Str} : At (x :: l) 0 x
  | s {x y : Str} {l : List Str} {i : Nat} (h : At l i x) : At (y :: l) (i + 1) x
theorem At.get {x : Str} : ∀ {l : List Str} {i : Nat}, At l i x → l[i]? = some x
  | _, _, .z => rfl
  | _, _, .s h => by simpa using At.get h
/-! ### expressions -/
section
variable {c : Cd} {σ : L2.St} {H : Hp} {Q : VK} {pos : Pos}
theorem e_int {i : Int} {j} (q : Q (.int i) H) : RE c (.Constant (.int i) j pos) σ H Q := re_of (fun _ _ => pe_int) q
theorem e_bl {b : Bool} {j} (q : Q (.bl b) H) : RE c (.Constant (.bool b) j pos) σ H Q := re_of (fun _ _ => pe_bl) q
theorem e_non {j} (q : Q .non H) : RE c (.Constant .none j pos) σ H Q := re_of (fun _ _ => pe_non) q
theorem e_str {x : Str} {j} (q : Q (.str x) H) : RE c (.Constant (.str x) j pos) σ H Q := re_of (fun _ _ => pe_str) q
theorem e_var {i : Nat} {x : Str} {v : V} (hA : At c.N i x) (q : Q v H) (hσ : σ[i]? = some (some v) := by rfl)
    (hv : Vis c.sc x := by first | exact Or.inl rfl | exact Or.inr (Or.inl rfl) | exact Or.inr (Or.inr rfl)) (hd : (x == ("__debug__" : Str)) = false := by decide) (hcd : (x == ("__classdict__" : Str)) = false := by decide) :
    RE c (.Name x pos) σ H Q := re_of (fun X h => pe_var (i := i) (by rw [h.N]; exact hA.get) (by rw [h.sc]; exact hv) hd hcd) ⟨v, hσ, q⟩
theorem gl_of {X : Cx} (h : Is c X) {x : Str} (hg : c.sc.names.lookup x = some .globalImplicit) : Gl X x := by
  show X.env.scope.names.lookup x = _
  rw [h.sc]; exact hg
/-- a module's constant -/
theorem e_glob {x : Str} {v : V} {u : Value} (hm : c.mg x = some u) (r : RelV v u) (q : Q v H) (hg : c.sc.names.lookup x = some .globalImplicit := by rfl) (hd : (x == ("__debug__" : Str)) = false := by decide) : RE c (.Name x pos) σ H Q :=
  re_of (fun X h => pe_glob (gl_of h hg) (by rw [h.mg]; exact hm) r hd) q
theorem e_bltn {x : Str} {v : V} {u : Value} (hm : c.mg x = none) (hv : bootBuiltins x = some u) (r : RelV v u) (q : Q v H) (hg : c.sc.names.lookup x = some .globalImplicit := by rfl) (hn : x ≠ "__name__" := by decide) (hd : (x == ("__debug__" : Str)) = false := by decide) :
    RE c (.Name x pos) σ H Q := re_of (fun X h => pe_bltn (gl_of h hg) (by rw [h.mg]; exact hm) hv r hn hd) q
theorem e_bin {a b : Expr} {op : Operator} (q : RE c a σ H fun x H1 => RE c b σ H1 fun y H2 => RO c op x y H2 Q) : RE c (.BinOp a op b pos) σ H Q :=
  re_of (fun X h => pe_op (op_ro h) (pe_re h) (pe_re h)) q
theorem e_un {a : Expr} {op : UnaryOp} (q : RE c a σ H fun x H1 => RU c op x H1 Q) : RE c (.UnaryOp op a pos) σ H Q :=
  re_of (fun X h => pe_un (un_ru h) (pe_re h)) q
theorem e_cmp {a b : Expr} {op : CmpOp} (q : RE c a σ H fun x H1 => RE c b σ H1 fun y H2 => RQ c op x y H2 Q) (hm : behindInMarks op b = false := by first | rfl | exact nomark _) : RE c (.Compare a [op] [b] pos) σ H Q :=
  re_of (fun X h => pe_cmpR (op_rq h) (pe_re h) (pe_re h) hm) q
theorem e_chain {a b d : Expr} {op op' : CmpOp} (q : RE c a σ H fun x H1 => RE c b σ H1 fun y H2 => RQ c op x y H2 fun z H3 => ∃ k, z = .bl k ∧ (if k = true then RE c d σ H3 fun w' H4 => RQ c op' y w' H4 Q else Q (.bl false) H3))
    (hm : lastMarks [op, op'] [b, d] = false := by with_unfolding_all rfl) : RE c (.Compare a [op, op'] [b, d] pos) σ H Q :=
  re_of (t := tChain (RQ c op) (RQ c op') (RE c a) (RE c b) (RE c d)) (fun X h => pe_chain (op_rq h) (op_rq h) (pe_re h) (pe_re h) (pe_re h) hm) q
theorem e_one {a : Expr} {op} (q : RE c a σ H Q) : RE c (.BoolOp op [a] pos) σ H Q := re_of (fun X h => pe_one (pe_re h)) q
theorem e_and {a b : Expr} {rest : List Expr} (q : RE c a σ H fun x H1 => ∃ k, x = .bl k ∧ if k = true then RE c (.BoolOp .And (b :: rest) pos) σ H1 Q else Q (.bl false) H1) : RE c (.BoolOp .And (a :: b :: rest) pos) σ H Q :=
  re_of (fun X h => pe_and (pe_re h) (pe_re h)) q
theorem e_or {a b : Expr} {rest : List Expr} (q : RE c a σ H fun x H1 => ∃ k, x = .bl k ∧ if k = true then Q (.bl true) H1 else RE c (.BoolOp .Or (b :: rest) pos) σ H1 Q) : RE c (.BoolOp .Or (a :: b :: rest) pos) σ H Q :=
  re_of (fun X h => pe_or (pe_re h) (pe_re h)) q
theorem e_not {a : Expr} (q : RE c a σ H fun x H1 => ∃ k, x = .bl k ∧ Q (.bl (!k)) H1) : RE c (.UnaryOp .Not a pos) σ H Q :=
  re_of (fun X h => pe_not (pe_re h)) q
theorem e_if {a b d : Expr} (q : RT c d σ H fun k H1 => if k = true then RE c a σ H1 Q else RE c b σ H1 Q) : RE c (.IfExp d a b pos) σ H Q :=
  re_of (fun X h => pe_ifExp (pt_rt h) (pe_re h) (pe_re h)) q
theorem a_nil {Q : List V → Hp → Prop} (q : Q [] H) : RA c [] σ H Q := ra_of (fun _ _ => pa_nil) q
theorem a_cons {Q : List V → Hp → Prop} {e : Expr} {es : List Expr} (q : RE c e σ H fun x H1 => RA c es σ H1 fun xs H2 => Q (x :: xs) H2) (hs : ∀ env, starEach (e :: es) env = (false, eval e env) :: starEach es env := by intro _; rfl) : RA c (e :: es) σ H Q :=
  ra_of (fun X h => pa_cons (pe_re h) (pa_ra h) (hs _)) q
theorem e_tup {es : List Expr} {x1} (q : RA c es σ H fun xs H1 => xs.length ≤ sizeLine ∧ ∀ p, H1 p = none → Q (.ref p) (upd H1 p (.tup xs))) : RE c (.Tuple es x1 pos) σ H Q :=
  re_of (fun X h => pe_tup (pa_ra h)) q
theorem e_lst {es : List Expr} (q : RA c es σ H fun xs H1 => xs.length ≤ sizeLine ∧ ∀ p, H1 p = none → Q (.ref p) (upd H1 p (.lst xs))) : RE c (.List es pos) σ H Q :=
  re_of (fun X h => pe_lst (pa_ra h)) q
theorem e_ix {a b : Expr} (q : RE c a σ H fun x H1 => RE c b σ H1 fun y H2 => RX c x y H2 Q) (hs : PlainIx b := by intro _ _; rfl) : RE c (.Subscript a b pos) σ H Q :=
  re_of (fun X h => pe_ix (ix_rx h) (pe_re h) (pe_re h) hs) q
theorem e_dget {a b : Expr} (q : RE c a σ H fun x H1 => RE c b σ H1 fun y H2 => ∃ a v, x = .ref a ∧ DGet H2 a y (some v) ∧ Q v H2) (hs : NoSl b := by intro _ _; rfl) : RE c (.Subscript a b pos) σ H Q :=
  re_of (fun X h => pe_dget (by have := h.room.units; omega) (pe_re h) (pe_re h) hs) q
theorem p_none {Q : Option Int → Hp → Prop} (q : Q none H) : RPo c none σ H Q := rpo_of (fun _ _ => po_none) q
theorem p_some {e : Expr} {Q : Option Int → Hp → Prop} (q : RE c e σ H fun x H1 => ∃ i, x = .int i ∧ Q (some i) H1) : RPo c (some e) σ H Q := rpo_of (fun _ h => po_some (pe_re h)) q
theorem e_slice {e : Expr} {lo hi : Option Expr} {p2 : Pos} (q : RE c e σ H fun x H1 => RPo c lo σ H1 fun l H2 => RPo c hi σ H2 fun u H3 => RSl c x l u H3 Q) : RE c (.Subscript e (.Slice lo hi none p2) pos) σ H Q :=
  re_of (fun _ h => pe_slice (sl_rs h) (pe_re h) (po_rp h) (po_rp h)) q
/-! ### defs, where no text of an object is being written (what repr asks for) -/
structure FnQ (P : Program) (w : World) (K : PySem.W.Frag) (mg : Str → Option Value) (base : Heap) (CX : CXT) (k : Nat) (f : Addr) (fd : FuncData) (ps : List Str) (sp : Sp) : Prop where
  len : ∀ vs H Q E, sp vs H Q E → vs.length = ps.length
  run : ∀ (A : Around) (up : List Env) (st : Shared) (H : Hp) (ag : Args) (us : List Value) (vs : List V) (Q : VK) (E : XK), A.guards = some [] → Room k A → Env0 P w K mg base A up st H → BindsTo st fd ag (ps.zip us) → Vals vs us → sp vs H Q E →
    codeAny (model P w) A (.call (.ref f) ag) (CR CX up P w H st Q E) st
theorem fnQ_of {CX : CXT} {P : Program} {w : World} {K : PySem.W.Frag} {mg : Str → Option Value} {base : Heap} {k : Nat} {f : Addr} {x qual : Str} {pas : Arguments} {bd : List Stmt} {sco : Scope} {dV kV doc pm cdv ct oc : Value} {an od : Option Addr} {osl : Array (Option Value)} {N ps : List Str} {sp : Sp}
    (at_ : K.lookup f = some ⟨oc, od, .func (PySem.W.fnOf x qual pas bd sco dV kV doc pm an cdv ct), osl⟩) (cod : PySem.W.codeIn K cdv qual = true) (S : FnScope N ps sco) (len : ∀ vs H Q E, sp vs H Q E → vs.length = ps.length)
    (walk : ∀ (A : Around) (up : List Env) (st : Shared) (H : Hp) (vs : List V) (Q : VK) (E : XK), A.guards = some [] → Room k (A.deeper (envOfC qual sco st.heap.objs.size f cdv)) → sp vs H Q E →
      ∃ t, PSs (cxOf CX P w K mg base N qual sco f cdv A up st H E) bd t ∧ t { nx := fun _ H' => Q .non H', rt := Q } (start N vs) H) : FnQ P w K mg base CX (k + 1) f (PySem.W.fnOf x qual pas bd sco dV kV doc pm an cdv ct) ps sp := by
  refine ⟨len, fun A up st H ag us vs Q E quiet room en bt vv want => ?_⟩
  have many := len vs H Q E want
  have here : ∀ b o, base.get? b = some o → st.heap.get? b = some o := fun b o e => (en.bs b o e).1
  have inK : K.In st.heap := en.mod.kin.keeps here
  have free : st.heap.NoLimit := en.mod.nolimit.keeps here
  have kinds : ∀ z ∈ ps.zip us, sco.names.lookup z.1 = some .local ∨ (sco.names.lookup z.1 = some .cell ∧ ((cellsFrom (st.heap.objs.size + 1) sco.names []).lookup z.1).isSome = true) := by
    rintro ⟨n, v⟩ hz
    exact (S.par n (List.of_mem_zip hz).1).imp id fun q => ⟨q, PySem.W.cellsFrom_some _ _ _ (.inl q)⟩
  refine codeAny_call_function room.depth (inK _ _ at_) rfl S.co S.gen rfl (PySem.W.codeRec_of inK cod) (bt _ _ _ _ (wpAny_newFunctionEnv_cells S.kind kinds fun env same s1 made => ?_))
  subst same
  refine ⟨free.keeps made.toInCall.keep, codeAny_func ?_⟩
  obtain ⟨t, runs, goal⟩ := walk A up st H vs Q E quiet (room.deeper _) want
  have J : Inv (cxOf CX P w K mg base N qual sco f cdv A up st H E) [] (start N vs) H s1 := inv_start S room.hd en many vv made
  refine wpAny_mono (runs.run [] s1 (start N vs) H _ J goal) (fun fl s2 e => ?_) fun _ _ e => e
  cases fl with
  | ret u => exact let ⟨v, _, H2, J2, rv, q⟩ := e; ⟨v, H2, J2.os, J2.bare, J2.base, J2.hok, rv, q⟩
  | next => exact let ⟨_, H2, J2, q⟩ := e; ⟨V.non, H2, J2.os, J2.bare, J2.base, J2.hok, (rfl : Value.none = Value.none), q⟩
  | brk => exact (let ⟨_, _, _, q⟩ := e; False.elim q)
  | cont => exact (let ⟨_, _, _, q⟩ := e; False.elim q)
section
variable {X : Cx} {k : Nat} {f : Addr} {fd : FuncData} {ps : List Str} {sp : Sp} {dvs : List V} {ds : List Value} {x : Str} {p pos : Pos} {e : Expr} {es : List Expr} {t : TA}
abbrev noX : CXT := fun _ _ _ _ _ _ => False
theorem runQ {pins : List (Addr × Obj)} {σ : L2.St} {H : Hp} {st : Shared} {Q : VK} {us : List Value} {vs : List V} (F : FnQ X.prog X.w X.K X.mg X.base noX k f fd ps sp) (quiet : X.A.guards = some []) (room : Room k X.A) (bn : Binds X.K fd ps ds) (dv : Vals dvs ds)
    (J : Inv X pins σ H st) (vv : Vals vs us) (want : sp (vs ++ dvs) H Q fun _ _ _ => False) : wpAny (model X.prog X.w) X.A (call (.ref f) us) (EP X pins σ Q) X.xe st := by
  have all := vv.append dv
  have many : (us ++ ds).length = ps.length := all.length.symm.trans (F.len _ _ _ _ want)
  refine wpAny_call (codeAny_mono (F.run X.A X.stack st H ⟨us, []⟩ _ _ Q _ quiet room J.env0 (bn st us J.kIn many) all want) fun r s2 z => ?_)
  match r, z with
  | .ok (.ret u), z => exact J.after z
theorem peQ_call (F : FnQ X.prog X.w X.K X.mg X.base noX k f fd ps sp) (quiet : X.A.guards = some []) (room : Room k X.A) (gl : Gl X x) (hm : X.mg x = some (.ref f)) (kp : PySem.W.keepIn X.K (.ref f) = true) (bn : Binds X.K fd ps ds) (dv : Vals dvs ds)
    (ha : PA X (e :: es) t) (hdb : (x == ("__debug__" : Str)) = false) (he : starEach (e :: es) X.env = (false, eval e X.env) :: starEach es X.env) (hpl : (backTo pos (starEach es X.env)).any (·.1) = false) : PE X (.Call (.Name x p) (e :: es) [] pos) (tCall sp dvs (fun _ _ _ => False) t) := by
  constructor
  intro pins st σ H Q J z
  apply wpAny_Call_Name_kw
  apply ld_glob J gl hm _ hdb
  exact PySem.W.callWith_K (h₀ := X.base) J.ok.mod.kin kp (thn (ha.run pos pins st σ H _ J z) fun us s1 ⟨vs, H1, J1, vv, q⟩ => ⟨J1.kIn, runQ F quiet room bn dv J1 vv q⟩) he hpl
theorem peQ_call0 (F : FnQ X.prog X.w X.K X.mg X.base noX k f fd ps sp) (quiet : X.A.guards = some []) (room : Room k X.A) (gl : Gl X x) (hm : X.mg x = some (.ref f)) (kp : PySem.W.keepIn X.K (.ref f) = true) (bn : Binds X.K fd ps ds) (dv : Vals dvs ds)
    (hdb : (x == ("__debug__" : Str)) = false) : PE X (.Call (.Name x p) [] [] pos) (tCall sp dvs (fun _ _ _ => False) tNil) := by
  constructor
  intro pins st σ H Q J z
  apply wpAny_Call_Name_kw
  apply ld_glob J gl hm _ hdb
  exact PySem.W.callWith_K0 J.kIn kp (runQ (us := []) F quiet room bn dv J .nil z)
end
abbrev FnG := @FnOk
/-! ### calls -/
/-- a def at the module's name x -/
structure Dc (c : Md) (x : Str) (ps : List Str) (k : Nat) (sp : Sp) : Prop where
  ex : ∃ (f : Addr) (fd : FuncData), FnG c.prog c.w c.K c.mg c.base noX k f fd ps sp ∧ c.mg x = some (.ref f) ∧ PySem.W.keepIn c.K (.ref f) = true ∧ Binds c.K fd ps []
theorem e_call {x : Str} {p : Pos} {e : Expr} {es : List Expr} {ps : List Str} {k : Nat} {sp : Sp} (D : Dc c.toMd x ps k sp) (q : RA c (e :: es) σ H fun vs H1 => sp vs H1 Q fun _ _ _ => False) (hk : k ≤ c.k := by exact Nat.le_of_ble_eq_true rfl) (hg : c.sc.names.lookup x = some .globalImplicit := by rfl)
    (hdb : (x == ("__debug__" : Str)) = false := by decide) (he : ∀ env, starEach (e :: es) env = (false, eval e env) :: starEach es env := by intro _; rfl) (hpl : ∀ env, (backTo pos (starEach es env)).any (·.1) = false := by intro _; rfl) :
    RE c (.Call (.Name x p) (e :: es) [] pos) σ H Q := by
  obtain ⟨f, fd, F, hm, hkp, hb⟩ := D.ex
  refine re_of (t := tCall sp [] (fun _ _ _ => False) (RA c (e :: es))) (fun X h => ?_) ?_
  · refine pe_call (CX := fun _ _ _ _ _ _ => False) (k := k) (f := f) (fd := fd) (ps := ps) (ds := []) ?_ (h.room.mono hk) (gl_of h hg) (by rw [h.mg]; exact hm) (by rw [h.K]; exact hkp) (by rw [h.K]; exact hb) .nil (fun _ _ _ _ _ _ _ z => z.elim) (pa_ra h) hdb (he _) (hpl _)
    rw [h.prog, h.w, h.K, h.mg, h.base]; exact F
  · show RA c (e :: es) σ H fun vs H1 => sp (vs ++ []) H1 Q fun _ _ _ => False
    simpa only [List.append_nil] using q
theorem e_call0 {x : Str} {p : Pos} {ps : List Str} {k : Nat} {sp : Sp} (D : Dc c.toMd x ps k sp) (q : sp [] H Q fun _ _ _ => False) (hk : k ≤ c.k := by exact Nat.le_of_ble_eq_true rfl) (hg : c.sc.names.lookup x = some .globalImplicit := by rfl)
    (hdb : (x == ("__debug__" : Str)) = false := by decide) : RE c (.Call (.Name x p) [] [] pos) σ H Q := by
  obtain ⟨f, fd, F, hm, hkp, hb⟩ := D.ex
  refine re_of (t := tCall sp [] (fun _ _ _ => False) tNil) (fun X h => ?_) q
  refine pe_call0 (CX := fun _ _ _ _ _ _ => False) (k := k) (f := f) (fd := fd) (ps := ps) (ds := []) ?_ (h.room.mono hk) (gl_of h hg) (by rw [h.mg]; exact hm) (by rw [h.K]; exact hkp) (by rw [h.K]; exact hb) .nil (fun _ _ _ _ _ _ _ z => z.elim) hdb
  rw [h.prog, h.w, h.K, h.mg, h.base]; exact F
/-- a def at the module's name x -/
structure DcQ (c : Md) (x : Str) (ps : List Str) (k : Nat) (sp : Sp) : Prop where
  ex : ∃ (f : Addr) (fd : FuncData), FnQ c.prog c.w c.K c.mg c.base noX k f fd ps sp ∧ c.mg x = some (.ref f) ∧ PySem.W.keepIn c.K (.ref f) = true ∧ Binds c.K fd ps []
theorem e_callQ {x : Str} {p : Pos} {e : Expr} {es : List Expr} {ps : List Str} {k : Nat} {sp : Sp} (D : DcQ c.toMd x ps k sp) (q : RA c (e :: es) σ H fun vs H1 => sp vs H1 Q fun _ _ _ => False) (hq : c.g = true := by rfl) (hk : k ≤ c.k := by exact Nat.le_of_ble_eq_true rfl) (hg : c.sc.names.lookup x = some .globalImplicit := by rfl)
    (hdb : (x == ("__debug__" : Str)) = false := by decide) (he : ∀ env, starEach (e :: es) env = (false, eval e env) :: starEach es env := by intro _; rfl) (hpl : ∀ env, (backTo pos (starEach es env)).any (·.1) = false := by intro _; rfl) :
    RE c (.Call (.Name x p) (e :: es) [] pos) σ H Q := by
  obtain ⟨f, fd, F, hm, hkp, hb⟩ := D.ex
  refine re_of (t := tCall sp [] (fun _ _ _ => False) (RA c (e :: es))) (fun X h => ?_) ?_
  · refine peQ_call (k := k) (f := f) (fd := fd) (ps := ps) (ds := []) ?_ (h.gd hq) (h.room.mono hk) (gl_of h hg) (by rw [h.mg]; exact hm) (by rw [h.K]; exact hkp) (by rw [h.K]; exact hb) .nil (pa_ra h) hdb (he _) (hpl _)
    rw [h.prog, h.w, h.K, h.mg, h.base]; exact F
  · show RA c (e :: es) σ H fun vs H1 => sp (vs ++ []) H1 Q fun _ _ _ => False
    simpa only [List.append_nil] using q
theorem e_callQ0 {x : Str} {p : Pos} {ps : List Str} {k : Nat} {sp : Sp} (D : DcQ c.toMd x ps k sp) (q : sp [] H Q fun _ _ _ => False) (hq : c.g = true := by rfl) (hk : k ≤ c.k := by exact Nat.le_of_ble_eq_true rfl) (hg : c.sc.names.lookup x = some .globalImplicit := by rfl)
    (hdb : (x == ("__debug__" : Str)) = false := by decide) : RE c (.Call (.Name x p) [] [] pos) σ H Q := by
  obtain ⟨f, fd, F, hm, hkp, hb⟩ := D.ex
  refine re_of (t := tCall sp [] (fun _ _ _ => False) tNil) (fun X h => ?_) q
  refine peQ_call0 (k := k) (f := f) (fd := fd) (ps := ps) (ds := []) ?_ (h.gd hq) (h.room.mono hk) (gl_of h hg) (by rw [h.mg]; exact hm) (by rw [h.K]; exact hkp) (by rw [h.K]; exact hb) .nil hdb
  rw [h.prog, h.w, h.K, h.mg, h.base]; exact F
theorem e_callB {x : Str} {id : String} {p : Pos} {e : Expr} {es : List Expr} (hm : c.mg x = none) (hv : bootBuiltins x = some (.builtin id)) (q : RA c (e :: es) σ H fun vs H1 => RC c (.builtin id) vs H1 Q) (hg : c.sc.names.lookup x = some .globalImplicit := by rfl) (hn : x ≠ "__name__" := by decide) (hdb : (x == ("__debug__" : Str)) = false := by decide)
    (he : ∀ env, starEach (e :: es) env = (false, eval e env) :: starEach es env := by intro _; rfl) (hpl : ∀ env, (backTo pos (starEach es env)).any (·.1) = false := by intro _; rfl) : RE c (.Call (.Name x p) (e :: es) [] pos) σ H Q :=
  re_of (fun X h => pe_callB (call_rc h) (gl_of h hg) (by rw [h.mg]; exact hm) hv (pa_ra h) hn hdb (he _) (hpl _)) q
theorem e_callT {x : Str} {T : String} {p : Pos} {e : Expr} {es : List Expr} (hm : c.mg x = none) (hv : bootBuiltins x = some (.type T)) (q : RA c (e :: es) σ H fun vs H1 => RC c (.type T) vs H1 Q) (hg : c.sc.names.lookup x = some .globalImplicit := by rfl) (hn : x ≠ "__name__" := by decide) (hdb : (x == ("__debug__" : Str)) = false := by decide)
    (he : ∀ env, starEach (e :: es) env = (false, eval e env) :: starEach es env := by intro _; rfl) (hpl : ∀ env, (backTo pos (starEach es env)).any (·.1) = false := by intro _; rfl) : RE c (.Call (.Name x p) (e :: es) [] pos) σ H Q :=
  re_of (fun X h => pe_callTy (call_rc h) (gl_of h hg) (by rw [h.mg]; exact hm) hv (pa_ra h) hn hdb (he _) (hpl _)) q
/-- o.name(e, ..), a builtin's method -/
theorem e_bm {T id : String} {o e : Expr} {es : List Expr} {name : Str} {apos : Pos} (pa : PlainAttrs T) (slot : Slot T name id) (hty : typeOf (.builtin id) = pure (.type "method_descriptor")) (q : RE c o σ H fun x H1 => tyV c.K T x H1 ∧ RA c (e :: es) σ H1 fun xs H2 => RM c id x xs H2 Q)
    (hbase : ∀ env, attributeBase o name env (eval o env) = eval o env := by intro _; rfl)
    (hfew : ∀ env, ((backTo pos (starEach (e :: es) env)).all (fun x => !x.1) && (backToKw pos (keywordEach [] env)).all (fun x => x.1.isSome)
      && decide ((e :: es).length + ([] : List Keyword).length + (if ([] : List Keyword).isEmpty then 0 else 1) < 30)) = true := by intro _; rfl)
    (hline : (apos.endLine == pos.line) = true := by rfl) (hs : ∀ env, starEach (e :: es) env = (false, eval e env) :: starEach es env := by intro _; rfl) (hplain : ∀ env, (backTo pos (starEach es env)).any (·.1) = false := by intro _; rfl) :
    RE c (.Call (.Attribute o name apos) (e :: es) [] pos) σ H Q := by
  refine re_of (t := tBM c.K T (RM c id) (RE c o) (RA c (e :: es))) (fun X h => ?_) q
  rw [← h.K]
  exact pe_bm pa slot hty (mt_rm h) (pe_re h) (pa_ra h) (hbase _) (hfew _) hline (hs _) (hplain _)
theorem e_bm0 {T id : String} {o : Expr} {name : Str} {apos : Pos} (pa : PlainAttrs T) (slot : Slot T name id) (hty : typeOf (.builtin id) = pure (.type "method_descriptor")) (q : RE c o σ H fun x H1 => tyV c.K T x H1 ∧ RM c id x [] H1 Q)
    (hbase : ∀ env, attributeBase o name env (eval o env) = eval o env := by intro _; rfl) (hline : (apos.endLine == pos.line) = true := by rfl) : RE c (.Call (.Attribute o name apos) [] [] pos) σ H Q := by
  refine re_of (t := tBM0 c.K T (RM c id) (RE c o)) (fun X h => ?_) q
  rw [← h.K]
  exact pe_bm0 pa slot hty (mt_rm h) (pe_re h) (hbase _) hline

/-! ### tests -/
variable {R : Bool → Hp → Prop}
theorem t_val {e : Expr} (q : RE c e σ H fun x H1 => ∃ k, x = .bl k ∧ R k H1) (he : ∀ env whole, isTrue e env whole = (do let v ← whole; standAt e.pos; holding [v] (truthy v)) := by intro _ _; rfl) : RT c e σ H R :=
  rt_of (fun X h => pt_val (pe_re h) (he _)) q
theorem t_tru {e : Expr} (q : RE c e σ H fun x H1 => ∃ k, TruV c.K x H1 k ∧ R k H1) (he : ∀ env whole, isTrue e env whole = (do let v ← whole; standAt e.pos; holding [v] (truthy v)) := by intro _ _; rfl) : RT c e σ H R :=
  rt_of (t := fun σ H Q => RE c e σ H fun x H' => ∃ k, TruV c.K x H' k ∧ Q k H') (fun X h => by rw [← h.K]; exact pt_truth (pe_re h) (he _)) q
theorem t_cmp {a b : Expr} {op : CmpOp} (q : RE c a σ H fun x H1 => RE c b σ H1 fun y H2 => RQ c op x y H2 fun z H3 => ∃ k, z = .bl k ∧ R k H3) (hm : behindInMarks op b = false := by first | rfl | exact nomark _) : RT c (.Compare a [op] [b] pos) σ H R :=
  rt_of (fun X h => pt_cmpR (op_rq h) (pe_re h) (pe_re h) hm) q
theorem t_chain {a b d : Expr} {op op' : CmpOp} (q : RE c a σ H fun x H1 => RE c b σ H1 fun y H2 => RQ c op x y H2 fun z H3 => ∃ k, z = .bl k ∧ (if k = true then RE c d σ H3 fun w' H4 => RQ c op' y w' H4 (fun z H5 => ∃ k, z = .bl k ∧ R k H5) else (∃ k, V.bl false = .bl k ∧ R k H3)))
    (hm : lastMarks [op, op'] [b, d] = false := by with_unfolding_all rfl) : RT c (.Compare a [op, op'] [b, d] pos) σ H R :=
  rt_of (t := tTest (tChain (RQ c op) (RQ c op') (RE c a) (RE c b) (RE c d))) (fun X h => pt_chain (op_rq h) (op_rq h) (pe_re h) (pe_re h) (pe_re h) hm) q
theorem t_not {a : Expr} (q : RT c a σ H fun k H1 => R (!k) H1) : RT c (.UnaryOp .Not a pos) σ H R := rt_of (fun X h => pt_not (pt_rt h)) q
theorem t_w {e : Expr} (q : RW c e σ H R) : RT c e σ H R := rt_of (fun X h => (pw_rw h).pt) q
theorem w_and1 {a : Expr} (q : RT c a σ H R) : RW c (.BoolOp .And [a] pos) σ H R := rw_of (fun X h => pw_and1 (pt_rt h)) q
theorem w_or1 {a : Expr} (q : RT c a σ H R) : RW c (.BoolOp .Or [a] pos) σ H R := rw_of (fun X h => pw_or1 (pt_rt h)) q
theorem w_and {a b : Expr} {rest : List Expr} (q : RT c a σ H fun k H1 => if k = true then RW c (.BoolOp .And (b :: rest) pos) σ H1 R else R false H1) : RW c (.BoolOp .And (a :: b :: rest) pos) σ H R :=
  rw_of (fun X h => pw_and (pt_rt h) (pw_rw h)) q
theorem w_or {a b : Expr} {rest : List Expr} (q : RT c a σ H fun k H1 => if k = true then R true H1 else RW c (.BoolOp .Or (b :: rest) pos) σ H1 R) : RW c (.BoolOp .Or (a :: b :: rest) pos) σ H R :=
  rw_of (fun X h => pw_or (pt_rt h) (pw_rw h)) q
/-! ### statements -/
variable {D : Ends} {nx : L2.St → Hp → Prop} {rt : VK} {bk ct : L2.St → Hp → Prop}
theorem b_nil (q : D.nx σ H) : RB c [] D σ H := rb_of (fun _ _ => pss_nil) q
theorem b_cons {st : Stmt} {rest : List Stmt} (q : RS c st ⟨fun σ1 H1 => RB c rest ⟨nx, rt, bk, ct⟩ σ1 H1, rt, bk, ct⟩ σ H) : RB c (st :: rest) ⟨nx, rt, bk, ct⟩ σ H := rb_of (t := tSeq (RS c st) (RB c rest)) (fun X h => pss_cons (ps_rs h) (ps_rb h)) q
/-- a statement, then the rest, with a word between them -/
theorem b_cut {st : Stmt} {rest : List Stmt} (Mid : L2.St → Hp → Prop) (q : RS c st ⟨Mid, rt, bk, ct⟩ σ H) (q2 : ∀ σ1 H1, Mid σ1 H1 → RB c rest ⟨nx, rt, bk, ct⟩ σ1 H1) : RB c (st :: rest) ⟨nx, rt, bk, ct⟩ σ H :=
  b_cons (RS.mono (D := ⟨Mid, rt, bk, ct⟩) (D' := ⟨fun σ1 H1 => RB c rest ⟨nx, rt, bk, ct⟩ σ1 H1, rt, bk, ct⟩) ⟨q2, fun _ _ h => h, fun _ _ h => h, fun _ _ h => h⟩ q)
theorem b_one {st : Stmt} (q : RS c st D σ H) : RB c [st] D σ H := rb_of (fun X h => pss_one (ps_rs h)) q
theorem s_pass (q : D.nx σ H) : RS c (.Pass pos) D σ H := rs_of (fun _ _ => ps_pass) q
theorem s_break (q : D.bk σ H) : RS c (.Break pos) D σ H := rs_of (fun _ _ => ps_break) q
theorem s_cont (q : D.ct σ H) : RS c (.Continue pos) D σ H := rs_of (fun _ _ => ps_continue) q
theorem s_ret {e : Expr} (q : RE c e σ H D.rt) : RS c (.Return (some e) pos) D σ H := rs_of (fun X h => ps_ret (pe_re h)) q
theorem s_retN (q : D.rt .non H) : RS c (.Return none pos) D σ H := rs_of (fun X h => ps_retN) q
theorem s_expr {e : Expr} (q : RE c e σ H fun _ H1 => D.nx σ H1) (hs : ∀ env, swapsWith e none pos.line env = pure false := by intro _; rfl) : RS c (.Expr e pos) D σ H := rs_of (fun X h => ps_expr (pe_re h) (hs _)) q
theorem s_if {d : Expr} {a b : List Stmt} (q : RT c d σ H fun k H1 => if k = true then RB c a D σ H1 else RB c b D σ H1) : RS c (.If d a b pos) D σ H := rs_of (fun X h => ps_if (pt_rt h) (ps_rb h) (ps_rb h)) q
theorem s_asg {tg e : Expr} (q : RE c e σ H fun x H1 => RG c tg x σ H1 D.nx) (hs : ∀ env, swapsWithSole [tg] e pos.line env = pure false := by intro _; rfl) (hw : ∀ env, swappedStores [tg] e env = pure none := by intro _; rfl)
    (h1 : ∀ env, (assignEach [tg] env).map (·.2) = [assign tg env] := by intro _; rfl) : RS c (.Assign [tg] e pos) D σ H := rs_of (fun X h => ps_asg (pe_re h) (pg_rg h) (hs _) (hw _) (h1 _)) q
theorem s_set {i : Nat} {x : Str} {e : Expr} {pos' : Pos} (hA : At c.N i x) (q : RE c e σ H fun v H1 => D.nx (σ.set i (some v)) H1) (hx : c.sc.names.lookup x = some .local ∨ (c.sc.names.lookup x = some .cell ∧ c.top = true) := by first | exact Or.inl rfl | exact Or.inr ⟨rfl, rfl⟩)
    (hs : ∀ env, swapsWith e (some (.Name x pos')) pos.line env = pure false := by intro _; rfl) : RS c (.Assign [.Name x pos'] e pos) D σ H := by
  refine rs_of (t := tAsg (RE c e) (gName i)) (fun X h => ?_) q
  refine ps_set (by rw [h.N]; exact h.nd) (by rw [h.N]; exact hA.get) ?_ (pe_re h) (hs _) ?_
  · rcases hx with z | z
    · exact .inl (by rw [h.sc]; exact z)
    · exact .inr (by rw [h.sc]; exact z.1)
  · rcases hx with z | z
    · exact .inr (by rw [h.sc]; exact z)
    · exact .inl (h.top z.2 _)
theorem g_name {i : Nat} {x : Str} {v : V} {R : L2.St → Hp → Prop} (hA : At c.N i x) (q : R (σ.set i (some v)) H) (hx : c.sc.names.lookup x = some .local ∨ (c.sc.names.lookup x = some .cell ∧ c.top = true) := by first | exact Or.inl rfl | exact Or.inr ⟨rfl, rfl⟩) : RG c (.Name x pos) v σ H R := by
  refine rg_of (t := gName i) (fun X h => ?_) q
  refine pg_name (by rw [h.N]; exact h.nd) (by rw [h.N]; exact hA.get) ?_ ?_
  · rcases hx with z | z
    · exact .inl (by rw [h.sc]; exact z)
    · exact .inr (by rw [h.sc]; exact z.1)
  · rcases hx with z | z
    · exact .inr (by rw [h.sc]; exact z)
    · exact .inl (h.top z.2 _)
theorem gs_nil {R : L2.St → Hp → Prop} (q : R σ H) : RGs c [] [] σ H R := rgs_of (fun _ _ => pgs_nil) ⟨rfl, q⟩
theorem gs_cons {e : Expr} {es : List Expr} {v : V} {vs : List V} {R : L2.St → Hp → Prop} (q : RG c e v σ H fun σ1 H1 => RGs c es vs σ1 H1 R) (hs : ∀ env, (assignEach (e :: es) env).map (·.2) = assign e env :: (assignEach es env).map (·.2) := by intro _; rfl) : RGs c (e :: es) (v :: vs) σ H R :=
  rgs_of (t := gCons (RG c e) (RGs c es)) (fun X h => pgs_cons (pg_rg h) (pg_rgs h) (hs _)) ⟨v, vs, rfl, q⟩
theorem g_tup {es : List Expr} {k : Nat} {a : Addr} {xs : List V} {n : Nat} {R : L2.St → Hp → Prop} (ht : SqT c.K H a xs) (q : RGs c es xs σ H R) (hl : xs.length = n := by rfl) (hn : ∀ env, (assignEach es env).length = n := by intro _; rfl) (hst : ∀ env, (assignEach es env).findIdx? (·.1) = none := by intro _; rfl) :
    RG c (.Tuple es k pos) (.ref a) σ H R := rg_of (t := gTup c.K n (RGs c es)) (fun X h => by rw [← h.K]; exact pg_tup h.calm (pg_rgs h) (hn _) (hst _)) ⟨a, xs, rfl, ht, hl, q⟩
theorem g_sub {o i : Expr} {v : V} {R : L2.St → Hp → Prop} (q : RE c o σ H fun x H1 => RE c i σ H1 fun y H2 => RP c x y v H2 fun H3 => R σ H3)
    (ha : ∀ env v, assign (.Subscript o i pos) env v = (do
      let ov ← holding [v] (eval o env)
      let iv ← holding [v, ov] (eval i env)
      standAt pos
      holding [v, ov, iv] (setItem ov iv v)
      release [v, ov, iv] []) := by intro _ _; rfl) : RG c (.Subscript o i pos) v σ H R := rg_of (fun X h => pg_sub (pe_re h) (pe_re h) (set_rp h) (ha _)) q
/-- d[k] = v -/
theorem s_dput {o i e : Expr} {pos' : Pos} (q : RE c e σ H fun v H1 => RE c o σ H1 fun x H2 => RE c i σ H2 fun y H3 => ∃ a H4, x = .ref a ∧ DPut H3 a y v H4 ∧ D.nx σ H4)
    (hs : ∀ env, swapsWith e (some (.Subscript o i pos')) pos.line env = pure false := by intro _; rfl) : RS c (.Assign [.Subscript o i pos'] e pos) D σ H :=
  rs_of (fun X h => ps_dput (by have := h.room.units; omega) (pe_re h) (pe_re h) (pe_re h) (hs _)) q
/-- a, b = x, y -/
theorem s_par {i j : Nat} {x y : Str} {a b : Expr} {px py pt : Pos} {kt k2 pt2} (hi : At c.N i x) (hj : At c.N j y) (q : RE c a σ H fun v H1 => RE c b σ H1 fun w H2 => D.nx ((σ.set i (some v)).set j (some w)) H2) (hij : i ≠ j := by decide)
    (hx : c.sc.names.lookup x = some .local := by rfl) (hy : c.sc.names.lookup y = some .local := by rfl)
    (hw : ∀ env : Env, env.scope = c.sc → swappedStores [.Tuple [.Name x px, .Name y py] kt pt] (.Tuple [a, b] k2 pt2) env = pure (some [x, y]))
    (hs : ∀ env, swapsWithSole [.Tuple [.Name x px, .Name y py] kt pt] (.Tuple [a, b] k2 pt2) pos.line env = pure false := by intro _; rfl)
    (h1 : ∀ env, starEach [a, b] env = (false, eval a env) :: starEach [b] env := by intro _; rfl) (h2 : ∀ env, starEach [b] env = (false, eval b env) :: starEach [] env := by intro _; rfl) :
    RS c (.Assign [.Tuple [.Name x px, .Name y py] kt pt] (.Tuple [a, b] k2 pt2) pos) D σ H := by
  refine rs_of (t := tPar i j (RA c [a, b])) (fun X h => ps_par h.calm (by rw [h.N]; exact h.nd) (by rw [h.N]; exact hi.get) (by rw [h.N]; exact hj.get) hij (by rw [h.sc]; exact hx) (by rw [h.sc]; exact hy) (pa_ra h) (hw _ h.sc) (hs _)) ?_
  refine a_cons (RE.mono (fun v H1 z => a_cons (RE.mono (fun w H2 z => a_nil ⟨v, w, rfl, z⟩) z) h2) q) h1

/-! ### what is walked -/
theorem i_list {tg l : Expr} {R : It → Hp → Prop} (q : RE c l σ H fun x H1 => ∃ a, x = .ref a ∧ (∃ xs, SqL c.K H1 a xs) ∧ R (Itl c.K a) H1) : RI c tg l σ H R :=
  ri_of (t := iList c.K (RE c l)) (fun X h => by rw [← h.K]; exact pi_list (pe_re h)) q
theorem i_tup {tg l : Expr} {R : It → Hp → Prop} (q : RE c l σ H fun x H1 => ∃ a, x = .ref a ∧ (∃ xs, SqT c.K H1 a xs) ∧ R (Itt c.K a) H1) : RI c tg l σ H R :=
  ri_of (t := iTup c.K (RE c l)) (fun X h => by rw [← h.K]; exact pi_tup (pe_re h)) q
theorem i_range1 {tg a : Expr} {p : Pos} {R : It → Hp → Prop} (hm : c.mg "range" = none) (q : RA c [a] σ H fun vs H1 => ∃ j : Int, vs = [.int j] ∧ -(2 ^ 62) ≤ j ∧ j < 2 ^ 62 ∧ R (Itr 0 j.toNat) H1) (hg : c.sc.names.lookup ("range" : Str) = some .globalImplicit := by rfl) (hs : ∀ env, starEach [a] env = [(false, eval a env)] := by intro _; rfl) :
    RI c tg (.Call (.Name "range" p) [a] [] pos) σ H R := ri_of (t := iRng1 (RA c [a])) (fun X h => pi_range1 (gl_of h hg) (by rw [h.mg]; exact hm) (pa_ra h) (hs _)) q
theorem i_range2 {tg a b : Expr} {p : Pos} {R : It → Hp → Prop} (hm : c.mg "range" = none) (q : RA c [a, b] σ H fun vs H1 => ∃ i j : Int, vs = [.int i, .int j] ∧ (-(2 ^ 62) ≤ i ∧ i < 2 ^ 62 ∧ -(2 ^ 62) ≤ j ∧ j < 2 ^ 62) ∧ R (Itr i (j - i).toNat) H1) (hg : c.sc.names.lookup ("range" : Str) = some .globalImplicit := by rfl)
    (hs : ∀ env, starEach [a, b] env = [(false, eval a env), (false, eval b env)] := by intro _; rfl) (hs2 : ∀ env, starEach [b] env = [(false, eval b env)] := by intro _; rfl) :
    RI c tg (.Call (.Name "range" p) [a, b] [] pos) σ H R := ri_of (t := iRng2 (RA c [a, b])) (fun X h => pi_range2 (gl_of h hg) (by rw [h.mg]; exact hm) (pa_ra h) (hs _) (hs2 _)) q

/-! ### loops -/
theorem s_for {tg iter : Expr} {body : List Stmt} (q : RI c tg iter σ H fun J H1 => ∃ W : Nat → Nat → L2.St → Hp → Prop, (∃ m, W 0 m σ H1) ∧ ∀ i m σ H, W i m σ H →
      (J.stop i H ∧ nx σ H) ∨ (J.go i H ∧ ∃ N : L2.St → Hp → Prop, (∀ σ' H', N σ' H' → ∃ m', m' < m ∧ W (i + 1) m' σ' H') ∧ ∀ x H', J.yld i H x H' → RG c tg x σ H' fun σ2 H2 => RB c body ⟨N, rt, nx, N⟩ σ2 H2))
    (hs : ∀ env x, foldedSetIterable iter env x = pure x := by intro _ _; rfl) : RS c (.For tg iter body [] pos) ⟨nx, rt, bk, ct⟩ σ H :=
  rs_of (t := tFor (RI c tg iter) (RG c tg) (RB c body)) (fun X h => ps_for h.own h.calm (pi_ri h) (pg_rg h) (ps_rb h) (hs _)) q
theorem s_forT {tg iter : Expr} {body : List Stmt} (q : RE c iter σ H fun x H1 => ∃ a xs, x = .ref a ∧ SqT c.K H1 a xs ∧ ∃ Pv : Nat → L2.St → Hp → Prop, Pv 0 σ H1 ∧ (∀ i σ' H', i ≤ xs.length → Pv i σ' H' → SqT c.K H' a xs) ∧
      (∀ i x σ' H', xs[i]? = some x → Pv i σ' H' → RG c tg x σ' H' fun σ2 H2 => RB c body ⟨Pv (i + 1), rt, nx, Pv (i + 1)⟩ σ2 H2) ∧ ∀ σ' H', Pv xs.length σ' H' → nx σ' H')
    (hs : ∀ env x, foldedSetIterable iter env x = pure x := by intro _ _; rfl) : RS c (.For tg iter body [] pos) ⟨nx, rt, bk, ct⟩ σ H := by
  refine s_for (i_tup (RE.mono (fun x H1 z => ?_) q)) hs
  obtain ⟨a, xs, rfl, ht, Pv, h0, hl, hs, hd⟩ := z
  exact ⟨a, rfl, ⟨xs, ht⟩, for_tup (tb := RB c body) (D := ⟨nx, rt, bk, ct⟩) Pv h0 hl hs hd⟩
theorem s_forL {tg iter : Expr} {body : List Stmt} (q : RE c iter σ H fun x H1 => ∃ a xs, x = .ref a ∧ SqL c.K H1 a xs ∧ ∃ Pv : Nat → L2.St → Hp → Prop, Pv 0 σ H1 ∧ (∀ i σ' H', i ≤ xs.length → Pv i σ' H' → SqL c.K H' a xs) ∧
      (∀ i x σ' H', xs[i]? = some x → Pv i σ' H' → RG c tg x σ' H' fun σ2 H2 => RB c body ⟨Pv (i + 1), rt, nx, Pv (i + 1)⟩ σ2 H2) ∧ ∀ σ' H', Pv xs.length σ' H' → nx σ' H')
    (hs : ∀ env x, foldedSetIterable iter env x = pure x := by intro _ _; rfl) : RS c (.For tg iter body [] pos) ⟨nx, rt, bk, ct⟩ σ H := by
  refine s_for (i_list (RE.mono (fun x H1 z => ?_) q)) hs
  obtain ⟨a, xs, rfl, ht, Pv, h0, hl, hs, hd⟩ := z
  exact ⟨a, rfl, ⟨xs, ht⟩, for_list (tb := RB c body) (D := ⟨nx, rt, bk, ct⟩) Pv h0 hl hs hd⟩
theorem s_forR1 {tg a : Expr} {p ppos : Pos} {body : List Stmt} (hm : c.mg "range" = none) (q : RE c a σ H fun x H1 => ∃ n : Int, x = .int n ∧ -(2 ^ 62) ≤ n ∧ n < 2 ^ 62 ∧ ∃ Pv : Nat → L2.St → Hp → Prop, Pv 0 σ H1 ∧
      (∀ i σ' H', i < n.toNat → Pv i σ' H' → RG c tg (.int (i : Int)) σ' H' fun σ2 H2 => RB c body ⟨Pv (i + 1), rt, nx, Pv (i + 1)⟩ σ2 H2) ∧ ∀ σ' H', Pv n.toNat σ' H' → nx σ' H')
    (hg : c.sc.names.lookup ("range" : Str) = some .globalImplicit := by rfl) (h1 : ∀ env, starEach [a] env = [(false, eval a env)] := by intro _; rfl) (hs : ∀ env x, foldedSetIterable (.Call (.Name "range" p) [a] [] ppos) env x = pure x := by intro _ _; rfl) :
    RS c (.For tg (.Call (.Name "range" p) [a] [] ppos) body [] pos) ⟨nx, rt, bk, ct⟩ σ H := by
  refine s_for (i_range1 hm (a_cons (RE.mono (fun x H1 z => ?_) q) (fun env => by rw [h1]; rfl)) hg h1) hs
  obtain ⟨n, rfl, n1, n2, Pv, h0, hs, hd⟩ := z
  refine a_nil ⟨n, rfl, n1, n2, for_range (tb := RB c body) (D := ⟨nx, rt, bk, ct⟩) (lo := 0) (n := n.toNat) Pv h0 (fun i σ' H' hi p => ?_) hd⟩
  rw [Int.zero_add]
  exact hs i σ' H' hi p
theorem s_while {d : Expr} {body : List Stmt} (Pv : Nat → L2.St → Hp → Prop) (m : Nat) (h0 : Pv m σ H)
    (q : ∀ m σ H, Pv m σ H → RT c d σ H fun b H1 => if b = true then RB c body ⟨fun σ' H' => ∃ m', m' < m ∧ Pv m' σ' H', rt, nx, fun σ' H' => ∃ m', m' < m ∧ Pv m' σ' H'⟩ σ H1 else nx σ H1) : RS c (.While d body [] pos) ⟨nx, rt, bk, ct⟩ σ H := by
  refine rs_of (t := tWhile (RT c d) (RB c body)) (fun X h => ps_while h.own (pt_rt h) (ps_rb h)) ⟨Pv, ⟨m, h0⟩, fun m σ H p => RT.mono (fun b H1 z => ?_) (q m σ H p)⟩
  cases b with
  | true => exact ⟨_, fun _ _ z => z, z⟩
  | false => exact z
end
/-! ### what a goal asks of, told by its head -/
section
variable {c : Cd} {σ : L2.St} {H : Hp}
theorem gRE {e : Expr} {Q : VK} (q : RE c e σ H Q) : RE c e σ H Q := q
theorem gRT {e : Expr} {Q : Bool → Hp → Prop} (q : RT c e σ H Q) : RT c e σ H Q := q
theorem gRW {e : Expr} {Q : Bool → Hp → Prop} (q : RW c e σ H Q) : RW c e σ H Q := q
theorem gRA {e : List Expr} {Q : List V → Hp → Prop} (q : RA c e σ H Q) : RA c e σ H Q := q
theorem gRS {e : Stmt} {D : Ends} (q : RS c e D σ H) : RS c e D σ H := q
theorem gRB {e : List Stmt} {D : Ends} (q : RB c e D σ H) : RB c e D σ H := q
theorem gRG {e : Expr} {v : V} {Q : L2.St → Hp → Prop} (q : RG c e v σ H Q) : RG c e v σ H Q := q
theorem gRO {f : Operator} {x y : V} {Q : VK} (q : RO c f x y H Q) : RO c f x y H Q := q
theorem gRQ {f : CmpOp} {x y : V} {Q : VK} (q : RQ c f x y H Q) : RQ c f x y H Q := q
theorem gRU {f : UnaryOp} {x : V} {Q : VK} (q : RU c f x H Q) : RU c f x H Q := q
theorem gRC {f : Value} {xs : List V} {Q : VK} (q : RC c f xs H Q) : RC c f xs H Q := q
theorem gRX {x y : V} {Q : VK} (q : RX c x y H Q) : RX c x y H Q := q
theorem gRPo {e : Option Expr} {Q : Option Int → Hp → Prop} (q : RPo c e σ H Q) : RPo c e σ H Q := q
end
end G

namespace G
open PySem PySem.Spec PyProof.Rows L2

/-! ### heaps: what stays -/
structure Tp (H H' : Hp) : Prop where
  t : ∀ a xs, H a = some (.tup xs) → H' a = some (.tup xs)
  f : ∀ a o u, H a = some (.frz o u) → H' a = some (.frz o u)
theorem Tp.refl (H : Hp) : Tp H H := ⟨fun _ _ h => h, fun _ _ _ h => h⟩
theorem Tp.trans {H H1 H2 : Hp} (a : Tp H H1) (b : Tp H1 H2) : Tp H H2 := ⟨fun _ _ h => b.t _ _ (a.t _ _ h), fun _ _ _ h => b.f _ _ _ (a.f _ _ _ h)⟩
theorem tp_same {H H' : Hp} (s : Same H H') : Tp H H' := ⟨fun _ _ h => s _ _ h, fun _ _ _ h => s _ _ h⟩
theorem Tp.sqt {K : PySem.W.Frag} {H H' : Hp} {a : Addr} {xs : List V} (e : Tp H H') (h : SqT K H a xs) : SqT K H' a xs := by
  rcases h with (h | ⟨o, h⟩) | h
  · exact .inl (.inl (e.t _ _ h))
  · exact .inl (.inr ⟨o, e.f _ _ _ h⟩)
  · exact .inr h
theorem same_new {H : Hp} {p : Addr} {o : HO} (h : H p = none) : Same H (upd H p o) := fun b u q => by rw [upd_ne (ne_of_none q h)]; exact q
/-- all but the thing at m stays; m is no tuple and not locked -/
structure Kp (m : Addr) (H H' : Hp) : Prop where
  k : ∀ a o, a ≠ m → H a = some o → H' a = some o
  t : Tp H H'
theorem kp_same {m : Addr} {H H' : Hp} (s : Same H H') : Kp m H H' := ⟨fun _ _ _ h => s _ _ h, tp_same s⟩
theorem Kp.refl (m : Addr) (H : Hp) : Kp m H H := kp_same (Same.refl H)
theorem Kp.trans {m : Addr} {H H1 H2 : Hp} (a : Kp m H H1) (b : Kp m H1 H2) : Kp m H H2 := ⟨fun _ _ n h => b.k _ _ n (a.k _ _ n h), a.t.trans b.t⟩
/-- a list (of ours) is written -/
theorem kp_upd {H : Hp} {p : Addr} {o o' : HO} (h : H p = some o) (h1 : ∀ xs, o ≠ .tup xs) (h2 : ∀ b u, o ≠ .frz b u) : Kp p H (upd H p o') :=
  ⟨fun a u n q => by rw [upd_ne n]; exact q, fun a xs q => by rw [upd_ne (ne_of q h fun e => h1 _ e.symm)]; exact q, fun a b u q => by rw [upd_ne (ne_of q h fun e => h2 _ _ e.symm)]; exact q⟩
/-- a thing that the older heap does not know is written: for it nothing has changed -/
theorem same_mut {H H1 : Hp} {p : Addr} {o : HO} (s : Same H H1) (h : H p = none) : Same H (upd H1 p o) := fun b u q => by rw [upd_ne (ne_of_none q h)]; exact s _ _ q
theorem kp_mut {m : Addr} {H H1 : Hp} {p : Addr} {o : HO} (s : Kp m H H1) (h : H p = none) : Kp m H (upd H1 p o) :=
  ⟨fun b u n q => by rw [upd_ne (ne_of_none q h)]; exact s.k _ _ n q, fun b u q => by rw [upd_ne (ne_of_none q h)]; exact s.t.t _ _ q, fun b u v q => by rw [upd_ne (ne_of_none q h)]; exact s.t.f _ _ _ q⟩

/-! ### data that never changes: none, bools, ints, texts, tuples of these -/
mutual
inductive Dt (K : PySem.W.Frag) (H : Hp) : V → PyData → Prop
  | non : Dt K H .non .none
  | bl (b : Bool) : Dt K H (.bl b) (.bool b)
  | int (i : Int) : Dt K H (.int i) (.int i)
  | str (x : Str) : Dt K H (.str x) (.str x)
  | tup {a : Addr} {xs : List V} {ds : List PyData} : SqT K H a xs → DtAll K H xs ds → Dt K H (.ref a) (.tuple ds)
inductive DtAll (K : PySem.W.Frag) (H : Hp) : List V → List PyData → Prop
  | nil : DtAll K H [] []
  | cons {v : V} {vs : List V} {d : PyData} {ds : List PyData} : Dt K H v d → DtAll K H vs ds → DtAll K H (v :: vs) (d :: ds)
end
section
variable {K : PySem.W.Frag} {H H' : Hp}
mutual
theorem Dt.mono (e : Tp H H') : ∀ {d : PyData} {v : V}, Dt K H v d → Dt K H' v d
  | .none, _, h => by cases h; exact .non
  | .bool _, _, h => by cases h; exact .bl _
  | .int _, _, h => by cases h; exact .int _
  | .str _, _, h => by cases h; exact .str _
  | .tuple ds, _, h => by
    cases h with
    | tup hs ha => exact .tup (e.sqt hs) (DtAll.mono e ha)
  | .list _, _, h => by cases h
  | .dict _, _, h => by cases h
theorem DtAll.mono (e : Tp H H') : ∀ {ds : List PyData} {vs : List V}, DtAll K H vs ds → DtAll K H' vs ds
  | [], _, h => by cases h; exact .nil
  | d :: ds, _, h => by
    cases h with
    | cons h1 h2 => exact .cons (Dt.mono e h1) (DtAll.mono e h2)
end
mutual
theorem Dt.dp : ∀ {d : PyData} {v : V}, Dt K H v d → Dp K H v d
  | .none, _, h => by cases h; exact .non
  | .bool _, _, h => by cases h; exact .bl _
  | .int _, _, h => by cases h; exact .int _
  | .str _, _, h => by cases h; exact .str _
  | .tuple ds, _, h => by
    cases h with
    | tup hs ha => exact .tup hs (DtAll.dp ha)
  | .list _, _, h => by cases h
  | .dict _, _, h => by cases h
theorem DtAll.dp : ∀ {ds : List PyData} {vs : List V}, DtAll K H vs ds → DpAll K H vs ds
  | [], _, h => by cases h; exact .nil
  | d :: ds, _, h => by
    cases h with
    | cons h1 h2 => exact .cons (Dt.dp h1) (DtAll.dp h2)
end
theorem DtAll.len : ∀ {ds : List PyData} {vs : List V}, DtAll K H vs ds → vs.length = ds.length
  | [], _, h => by cases h; rfl
  | d :: ds, _, h => by
    cases h with
    | cons _ h2 => exact congrArg Nat.succ (DtAll.len h2)
theorem DtAll.get : ∀ {ds : List PyData} {vs : List V} {i : Nat} {d : PyData}, DtAll K H vs ds → ds[i]? = some d → ∃ v, vs[i]? = some v ∧ Dt K H v d
  | [], _, _, _, _, e => by simp at e
  | d :: ds, _, 0, _, h, e => by
    cases h with
    | cons h1 _ =>
      simp at e
      subst e
      exact ⟨_, rfl, h1⟩
  | d :: ds, _, i + 1, _, h, e => by
    cases h with
    | cons _ h2 =>
      obtain ⟨v, e1, h3⟩ := DtAll.get (i := i) h2 (by simpa using e)
      exact ⟨v, by simpa using e1, h3⟩
theorem DtAll.getV : ∀ {ds : List PyData} {vs : List V} {i : Nat} {v : V}, DtAll K H vs ds → vs[i]? = some v → ∃ d, ds[i]? = some d ∧ Dt K H v d
  | [], _, _, _, h, e => by cases h; simp at e
  | d :: ds, _, 0, _, h, e => by
    cases h with
    | cons h1 _ =>
      simp at e
      subst e
      exact ⟨_, rfl, h1⟩
  | d :: ds, _, i + 1, _, h, e => by
    cases h with
    | cons _ h2 =>
      obtain ⟨v, e1, h3⟩ := DtAll.getV (i := i) h2 (by simpa using e)
      exact ⟨v, by simpa using e1, h3⟩
theorem DtAll.app : ∀ {ds es : List PyData} {vs us : List V}, DtAll K H vs ds → DtAll K H us es → DtAll K H (vs ++ us) (ds ++ es)
  | [], _, _, _, h, k => by cases h; exact k
  | d :: ds, _, _, _, h, k => by
    cases h with
    | cons h1 h2 => exact .cons h1 (DtAll.app h2 k)
theorem DtAll.drop : ∀ {ds : List PyData} {vs : List V} (n : Nat), DtAll K H vs ds → DtAll K H (vs.drop n) (ds.drop n)
  | _, _, 0, h => h
  | [], _, _ + 1, h => by cases h; exact .nil
  | d :: ds, _, n + 1, h => by
    cases h with
    | cons _ h2 => exact DtAll.drop n h2
theorem DtAll.take : ∀ {ds : List PyData} {vs : List V} (n : Nat), DtAll K H vs ds → DtAll K H (vs.take n) (ds.take n)
  | _, _, 0, h => .nil
  | [], _, _ + 1, h => by cases h; exact .nil
  | d :: ds, _, n + 1, h => by
    cases h with
    | cons h1 h2 => exact .cons h1 (DtAll.take n h2)
theorem Dt.intE {v : V} {i : Int} (h : Dt K H v (.int i)) : v = .int i := by cases h; rfl
theorem Dt.strE {v : V} {i : Str} (h : Dt K H v (.str i)) : v = .str i := by cases h; rfl
theorem Dt.blE {v : V} {i : Bool} (h : Dt K H v (.bool i)) : v = .bl i := by cases h; rfl
theorem Dt.nonE {v : V} (h : Dt K H v .none) : v = .non := by cases h; rfl
theorem Dt.tupE {v : V} {ds : List PyData} (h : Dt K H v (.tuple ds)) : ∃ a xs, v = .ref a ∧ SqT K H a xs ∧ DtAll K H xs ds := by
  cases h with
  | tup h1 h2 => exact ⟨_, _, rfl, h1, h2⟩
end
theorem atI_map {α β : Type} {R : α → β → Prop} {xs : List α} {ys : List β} (hl : xs.length = ys.length) {i : Int} {y : β} (h : atI ys i = some y) (g : ∀ (j : Nat) y, ys[j]? = some y → ∃ x, xs[j]? = some x ∧ R x y) : ∃ x, atI xs i = some x ∧ R x y := by
  unfold atI at h ⊢
  rw [hl]
  cases e : ixN ys.length i with
  | none => rw [e] at h; cases h
  | some j =>
    rw [e] at h
    obtain ⟨x, h1, h2⟩ := g j y h
    exact ⟨x, h1, h2⟩

/-! ### steps over data -/
section
variable {c : Cd} {σ : L2.St} {H : Hp} {Q : VK} {pos : Pos} {x y : V}
theorem ro_add {i j : Int} (q : Q (.int (i + j)) H) : RO c .Add (.int i) (.int j) H Q := ro_of (fun _ _ => op_add) ⟨i, j, rfl, rfl, q⟩
theorem ro_sub {i j : Int} (q : Q (.int (i - j)) H) : RO c .Sub (.int i) (.int j) H Q := ro_of (fun _ _ => op_sub) ⟨i, j, rfl, rfl, q⟩
theorem ro_mul {i j : Int} (hc : CMul i j) (q : Q (.int (i * j)) H) : RO c .Mult (.int i) (.int j) H Q := ro_of (fun _ _ => op_mul) ⟨i, j, rfl, rfl, hc, q⟩
theorem ro_mod {i j : Int} (hc : 0 < j) (q : Q (.int (i % j)) H) : RO c .Mod (.int i) (.int j) H Q := ro_of (fun _ _ => op_mod) ⟨i, j, rfl, rfl, hc, q⟩
theorem ro_div {i j : Int} (hc : 0 < j) (h2 : j < 1073741824) (q : Q (.int (i / j)) H) : RO c .FloorDiv (.int i) (.int j) H Q := ro_of (fun _ _ => op_fdiv) ⟨i, j, rfl, rfl, ⟨hc, h2⟩, q⟩
theorem ro_pow {i j : Int} (hc : CPow i j) (q : Q (.int (i ^ j.toNat)) H) : RO c .Pow (.int i) (.int j) H Q := ro_of (fun _ _ => op_pow) ⟨i, j, rfl, rfl, hc, q⟩
theorem ro_eq (hs : scal x y = true) (q : Q (.bl (decide (x = y))) H) : RQ c .Eq x y H Q := rq_of (fun _ _ => op_eq) ⟨hs, q⟩
theorem ro_ne (hs : scal x y = true) (q : Q (.bl (!decide (x = y))) H) : RQ c .NotEq x y H Q := rq_of (fun _ _ => op_ne) ⟨hs, q⟩
theorem ro_eqI {i j : Int} (q : Q (.bl (decide (i = j))) H) : RQ c .Eq (.int i) (.int j) H Q := ro_eq rfl (by
  have e : decide (V.int i = V.int j) = decide (i = j) := decide_eq_decide.mpr ⟨fun h => V.int.inj h, fun h => by rw [h]⟩
  rw [e]; exact q)
theorem ro_neI {i j : Int} (q : Q (.bl (!decide (i = j))) H) : RQ c .NotEq (.int i) (.int j) H Q := ro_ne rfl (by
  have e : decide (V.int i = V.int j) = decide (i = j) := decide_eq_decide.mpr ⟨fun h => V.int.inj h, fun h => by rw [h]⟩
  rw [e]; exact q)
theorem ro_eqS {i j : Str} (q : Q (.bl (decide (i = j))) H) : RQ c .Eq (.str i) (.str j) H Q := ro_eq rfl (by
  have e : decide (V.str i = V.str j) = decide (i = j) := decide_eq_decide.mpr ⟨fun h => V.str.inj h, fun h => by rw [h]⟩
  rw [e]; exact q)
theorem ro_eqB {i j : Bool} (q : Q (.bl (decide (i = j))) H) : RQ c .Eq (.bl i) (.bl j) H Q := ro_eq rfl (by
  have e : decide (V.bl i = V.bl j) = decide (i = j) := decide_eq_decide.mpr ⟨fun h => V.bl.inj h, fun h => by rw [h]⟩
  rw [e]; exact q)
theorem ro_lt {i j : Int} (q : Q (.bl (decide (i < j))) H) : RQ c .Lt (.int i) (.int j) H Q := rq_of (fun _ _ => op_lt) ⟨i, j, rfl, rfl, q⟩
theorem ro_le {i j : Int} (q : Q (.bl (decide (i ≤ j))) H) : RQ c .LtE (.int i) (.int j) H Q := rq_of (fun _ _ => op_le) ⟨i, j, rfl, rfl, q⟩
theorem ro_gt {i j : Int} (q : Q (.bl (decide (j < i))) H) : RQ c .Gt (.int i) (.int j) H Q := rq_of (fun _ _ => op_gt) ⟨i, j, rfl, rfl, q⟩
theorem ro_ge {i j : Int} (q : Q (.bl (decide (j ≤ i))) H) : RQ c .GtE (.int i) (.int j) H Q := rq_of (fun _ _ => op_ge) ⟨i, j, rfl, rfl, q⟩
theorem ro_isN (q : Q (.bl (decide (x = .non))) H) : RQ c .Is x .non H Q := rq_of (fun _ _ => op_isN) ⟨rfl, q⟩
theorem ro_notN (q : Q (.bl (!decide (x = .non))) H) : RQ c .IsNot x .non H Q := rq_of (fun _ _ => op_notN) ⟨rfl, q⟩
theorem ru_neg {i : Int} (q : Q (.int (-i)) H) : RU c .USub (.int i) H Q := ru_of (fun _ _ => un_neg) ⟨i, rfl, q⟩
/-- == of data -/
theorem ro_eqD {d e : PyData} (hx : Dp c.K H x d) (hy : Dp c.K H y e) (s1 : SeqAt.shaped d = true) (s2 : SeqAt.shaped e = true) (q : Q (.bl (PyData.eqv d e)) H) : RQ c .Eq x y H Q :=
  rq_of (r := rEqD c.K) (fun X h => by rw [← h.K]; exact op_eqD h.room.units) ⟨d, e, hx, hy, s1, s2, q⟩
theorem ro_neD {d e : PyData} (hx : Dp c.K H x d) (hy : Dp c.K H y e) (s1 : SeqAt.shaped d = true) (s2 : SeqAt.shaped e = true) (q : Q (.bl (!PyData.eqv d e)) H) : RQ c .NotEq x y H Q :=
  rq_of (r := rNeD c.K) (fun X h => by rw [← h.K]; exact op_neD h.room.units) ⟨d, e, hx, hy, s1, s2, q⟩
/-- x[i] of a tuple of data -/
theorem rx_tup {ds : List PyData} {i : Int} {d : PyData} (hx : Dt c.K H x (.tuple ds)) (hi : atI ds i = some d) (q : ∀ v, Dt c.K H v d → Q v H) : RX c x (.int i) H Q := by
  obtain ⟨a, xs, rfl, ht, ha⟩ := hx.tupE
  obtain ⟨v, h1, h2⟩ := atI_map (R := fun v d => Dt c.K H v d) ha.len hi fun j y hj => ha.get hj
  exact rx_of (r := rIxT c.K) (fun X h => by rw [← h.K]; exact ix_tup) ⟨a, xs, i, v, rfl, rfl, ht, h1, q v h2⟩
theorem rx_int {ds : List PyData} {i n : Int} (hx : Dt c.K H x (.tuple ds)) (hi : atI ds i = some (.int n)) (q : Q (.int n) H) : RX c x (.int i) H Q := rx_tup hx hi fun v h => by rw [h.intE]; exact q
theorem rx_str {ds : List PyData} {i : Int} {n : Str} (hx : Dt c.K H x (.tuple ds)) (hi : atI ds i = some (.str n)) (q : Q (.str n) H) : RX c x (.int i) H Q := rx_tup hx hi fun v h => by rw [h.strE]; exact q
theorem rx_bl {ds : List PyData} {i : Int} {n : Bool} (hx : Dt c.K H x (.tuple ds)) (hi : atI ds i = some (.bool n)) (q : Q (.bl n) H) : RX c x (.int i) H Q := rx_tup hx hi fun v h => by rw [h.blE]; exact q
/-- xs[i] of a list -/
theorem rx_list {p : Addr} {xs : List V} {i : Int} {v : V} (hx : SqL c.K H p xs) (hi : atI xs i = some v) (q : Q v H) : RX c (.ref p) (.int i) H Q :=
  rx_of (r := rIxL c.K) (fun X h => by rw [← h.K]; exact ix_list) ⟨p, xs, i, v, rfl, rfl, hx, hi, q⟩
/-- (a, b, ..), data -/
theorem e_tupD {es : List Expr} {x1} (q : RA c es σ H fun xs H1 => ∃ ds, DtAll c.K H1 xs ds ∧ xs.length ≤ 1000 ∧ ∀ v H2, Same H1 H2 → Dt c.K H2 v (.tuple ds) → Q v H2) : RE c (.Tuple es x1 pos) σ H Q :=
  e_tup (RA.mono (fun xs H1 z => by
    obtain ⟨ds, h1, h2, h3⟩ := z
    exact ⟨Nat.le_trans h2 (by decide), fun p hp => h3 _ _ (same_new hp) (.tup (.of upd_same) (h1.mono (tp_same (same_new hp))))⟩) q)
/-! calls -/
/-- a def that changes nothing: R tells what it answers -/
def spF (R : List PyData → PyData → Prop) (K : PySem.W.Frag) : Sp := fun vs H Q _ => ∃ ds d, DtAll K H vs ds ∧ R ds d ∧ ∀ v H', Same H H' → Dt K H' v d → Q v H'
theorem e_callF {x : Str} {p : Pos} {e : Expr} {es : List Expr} {ps : List Str} {k : Nat} {R : List PyData → PyData → Prop} (D : Dc c.toMd x ps k (spF R c.K)) (q : RA c (e :: es) σ H fun vs H1 => ∃ ds d, DtAll c.K H1 vs ds ∧ R ds d ∧ ∀ v H', Same H1 H' → Dt c.K H' v d → Q v H') (hk : k ≤ c.k := by exact Nat.le_of_ble_eq_true rfl) (hg : c.sc.names.lookup x = some .globalImplicit := by rfl)
    (hdb : (x == ("__debug__" : Str)) = false := by decide) (he : ∀ env, starEach (e :: es) env = (false, eval e env) :: starEach es env := by intro _; rfl) (hpl : ∀ env, (backTo pos (starEach es env)).any (·.1) = false := by intro _; rfl) :
    RE c (.Call (.Name x p) (e :: es) [] pos) σ H Q := e_call D q hk hg hdb he hpl
theorem rc_max2 {i j : Int} (q : Q (.int (if j > i then j else i)) H) : RC c (.builtin "max") [.int i, .int j] H Q := rc_of (fun X h => call_max2 h.calm) ⟨i, j, rfl, q⟩
theorem rc_min2 {i j : Int} (q : Q (.int (if j < i then j else i)) H) : RC c (.builtin "min") [.int i, .int j] H Q := rc_of (fun X h => call_min2 h.calm) ⟨i, j, rfl, q⟩
theorem rc_intI {i : Int} (q : Q (.int i) H) : RC c (.type "int") [.int i] H Q := rc_of (fun X h => call_int1) (.inl ⟨i, rfl, q⟩)
theorem rc_intB {k : Bool} (q : Q (.int (if k then 1 else 0)) H) : RC c (.type "int") [.bl k] H Q := rc_of (fun X h => call_int1) (.inr ⟨k, rfl, q⟩)
theorem rc_lenL {p : Addr} {xs : List V} (h : SqL c.K H p xs) (q : Q (.int xs.length) H) : RC c (.builtin "len") [.ref p] H Q := rc_of (r := fun xs H Q => ∃ p ys, xs = [.ref p] ∧ (SqL c.K H p ys ∨ SqT c.K H p ys) ∧ Q (.int ys.length) H) (fun X h => by rw [← h.K]; exact call_len_seq) ⟨p, xs, rfl, .inl h, q⟩
theorem rc_lenT {ds : List PyData} (h : Dt c.K H x (.tuple ds)) (q : Q (.int ds.length) H) : RC c (.builtin "len") [x] H Q := by
  obtain ⟨a, xs, rfl, ht, ha⟩ := h.tupE
  refine rc_of (r := fun xs H Q => ∃ p ys, xs = [.ref p] ∧ (SqL c.K H p ys ∨ SqT c.K H p ys) ∧ Q (.int ys.length) H) (fun X h => by rw [← h.K]; exact call_len_seq) ⟨a, xs, rfl, .inr ht, ?_⟩
  rw [ha.len]; exact q
end

/-! ### a def -/
section
variable {P : Program} {w : World} {K : PySem.W.Frag} {mg : Str → Option Value} {base : Heap}
theorem is_cx {M : Md} {N : List Str} {qual : Str} {sc : Scope} {f : Addr} {cdv : Value} {A : Around} {outer : List Env} {s : Shared} {H : Hp} {E : XK} {k : Nat} {g : Bool} (hn : N.Nodup) (hg : g = true → A.guards = some []) (hr : Room k (A.deeper (envOfC qual sc s.heap.objs.size f cdv))) :
    Is ⟨M, N, sc, k, true, g⟩ (cxOf CX0 M.prog M.w M.K M.mg M.base N qual sc f cdv A outer s H E).nox :=
  ⟨rfl, rfl, rfl, rfl, rfl, rfl, rfl, rfl, hr, fun _ _ => rfl, PassesOwn.never, hn, hg⟩
theorem fn_ok {M : Md} {x qual : Str} {st : Stmt} {f : Addr} {fd : FuncData} {N ps : List Str} {k : Nat} {sp : Sp} (F : Fun M.K x qual st f fd) (S : FnScope N ps (defScope st)) (len : ∀ vs H Q E, sp vs H Q E → vs.length = ps.length)
    (body : ∀ (H : Hp) (vs : List V) (Q : VK) (E : XK), sp vs H Q E → RB ⟨M, N, defScope st, k, true, false⟩ (defBody st) { nx := fun _ H' => Q .non H', rt := Q } (start N vs) H) : FnG M.prog M.w M.K M.mg M.base CX0 (k + 1) f fd ps sp :=
  F.ok S len fun cdv A outer s H vs Q E hr h => ⟨RB ⟨M, N, defScope st, k, true, false⟩ (defBody st), ps_rb (is_cx S.nd (fun z => Bool.noConfusion z) hr), body H vs Q E h⟩
theorem fn_okQ {M : Md} {x qual : Str} {st : Stmt} {f : Addr} {fd : FuncData} {N ps : List Str} {k : Nat} {sp : Sp} (F : Fun M.K x qual st f fd) (S : FnScope N ps (defScope st)) (len : ∀ vs H Q E, sp vs H Q E → vs.length = ps.length)
    (body : ∀ (H : Hp) (vs : List V) (Q : VK) (E : XK), sp vs H Q E → RB ⟨M, N, defScope st, k, true, true⟩ (defBody st) { nx := fun _ H' => Q .non H', rt := Q } (start N vs) H) : FnQ M.prog M.w M.K M.mg M.base CX0 (k + 1) f fd ps sp := by
  obtain ⟨oc, od, kV, doc, pm, an, cdv, ct, osl, rfl, at_, cod⟩ := F.ex
  exact fnQ_of at_ cod S len fun A up s H vs Q E hg hr h => ⟨RB ⟨M, N, defScope st, k, true, true⟩ (defBody st), (ps_rb (is_cx S.nd (fun _ => hg) hr)).nox, body H vs Q E h⟩
end
end G
namespace G
open PySem PySem.Spec PyProof.Rows L2
theorem ifd {p A B : Prop} [Decidable p] (h1 : p → A) (h2 : ¬ p → B) : if decide p = true then A else B := by
  by_cases h : p
  · rw [if_pos (decide_eq_true h)]; exact h1 h
  · rw [if_neg (by simp [h])]; exact h2 h
theorem ifnd {p A B : Prop} [Decidable p] (h1 : ¬ p → A) (h2 : p → B) : if (!decide p) = true then A else B := by
  by_cases h : p
  · rw [if_neg (by simp [h])]; exact h2 h
  · rw [if_pos (by simp [h])]; exact h1 h
theorem ifT {p A B : Prop} [Decidable p] (h : p) (a : A) : if decide p = true then A else B := by rw [if_pos (decide_eq_true h)]; exact a
theorem ifF {p A B : Prop} [Decidable p] (h : ¬ p) (b : B) : if decide p = true then A else B := by rw [if_neg (by simp [h])]; exact b
theorem ifnT {p A B : Prop} [Decidable p] (h : ¬ p) (a : A) : if (!decide p) = true then A else B := by rw [if_pos (by simp [h])]; exact a
theorem ifnF {p A B : Prop} [Decidable p] (h : p) (b : B) : if (!decide p) = true then A else B := by rw [if_neg (by simp [h])]; exact b
theorem ifb {k : Bool} {A B : Prop} (h1 : k = true → A) (h2 : k = false → B) : if k = true then A else B := by
  cases k with
  | true => exact h1 rfl
  | false => exact h2 rfl
end G
namespace G
open PySem PySem.Spec PyProof.Rows L2
section
variable {c : Cd} {σ : L2.St} {H : Hp} {Q : VK} {pos : Pos} {x y : V}
/-- d[k] with a written text -/
theorem e_dgetS {a : Expr} {s : Str} {j : Nat} {p2 : Pos} (q : RE c a σ H fun x H1 => ∃ p kvs v, x = .ref p ∧ H1 p = some (.dK kvs) ∧ valV kvs (Sum.inr s) = some v ∧ Q v H1) (hs : NoSl (.Constant (.str s) j p2) := by intro _ _; rfl) : RE c (.Subscript a (.Constant (.str s) j p2) pos) σ H Q :=
  e_dget (RE.mono (fun x H1 z => e_str (by
    obtain ⟨p, kvs, v, rfl, h, e, q⟩ := z
    refine ⟨p, v, rfl, ?_, q⟩
    rw [← e]; exact DGet.k (k := Sum.inr s) h)) q) hs
theorem e_dgetK {a b : Expr} (q : RE c a σ H fun x H1 => RE c b σ H1 fun y H2 => ∃ p kvs k v, x = .ref p ∧ H2 p = some (.dK kvs) ∧ y = kV k ∧ valV kvs k = some v ∧ Q v H2) (hs : NoSl b := by intro _ _; rfl) : RE c (.Subscript a b pos) σ H Q :=
  e_dget (RE.mono (fun x H1 z => RE.mono (fun y H2 z => by
    obtain ⟨p, kvs, k, v, rfl, h, rfl, e, q⟩ := z
    refine ⟨p, v, rfl, ?_, q⟩
    rw [← e]; exact DGet.k h) z) q) hs
variable {nx : L2.St → Hp → Prop} {rt : VK} {bk ct : L2.St → Hp → Prop}
theorem s_dputS {a e : Expr} {s : Str} {j : Nat} {p2 p3 : Pos} (q : RE c e σ H fun v H1 => RE c a σ H1 fun x H2 => ∃ p kvs, x = .ref p ∧ H2 p = some (.dK kvs) ∧ kvs.length < 1000 ∧ nx σ (upd H2 p (.dK (putK kvs (Sum.inr s) v))))
    (hs : ∀ env, swapsWith e (some (.Subscript a (.Constant (.str s) j p2) p3)) pos.line env = pure false := by intro _; rfl) : RS c (.Assign [.Subscript a (.Constant (.str s) j p2) p3] e pos) ⟨nx, rt, bk, ct⟩ σ H :=
  s_dput (RE.mono (fun v H1 z => RE.mono (fun x H2 z => e_str (by
    obtain ⟨p, kvs, rfl, h, l, q⟩ := z
    exact ⟨p, _, rfl, DPut.k (k := Sum.inr s) h (Nat.lt_trans l (by decide)), q⟩)) z) q) hs
end

/-! ### the law's source of draws: a dict of four things -/
def fkv (a : V) (b d e : Int) : List (Key × V) := [(Sum.inr "cells", a), (Sum.inr "at", .int b), (Sum.inr "left", .int d), (Sum.inr "count", .int e)]
theorem fkv_len (a : V) (b d e : Int) : (fkv a b d e).length = 4 := rfl
theorem n01 : ¬ (Sum.inr ("cells" : Str) : Key) = Sum.inr ("at" : Str) := by decide +kernel
theorem n02 : ¬ (Sum.inr ("cells" : Str) : Key) = Sum.inr ("left" : Str) := by decide +kernel
theorem n03 : ¬ (Sum.inr ("cells" : Str) : Key) = Sum.inr ("count" : Str) := by decide +kernel
theorem n12 : ¬ (Sum.inr ("at" : Str) : Key) = Sum.inr ("left" : Str) := by decide +kernel
theorem n13 : ¬ (Sum.inr ("at" : Str) : Key) = Sum.inr ("count" : Str) := by decide +kernel
theorem n23 : ¬ (Sum.inr ("left" : Str) : Key) = Sum.inr ("count" : Str) := by decide +kernel
theorem fkv_0 {a : V} {b d e : Int} : valV (fkv a b d e) (Sum.inr "cells") = some a := valV_pos rfl
theorem fkv_1 {a : V} {b d e : Int} : valV (fkv a b d e) (Sum.inr "at") = some (.int b) := by rw [fkv, valV_neg n01]; exact valV_pos rfl
theorem fkv_2 {a : V} {b d e : Int} : valV (fkv a b d e) (Sum.inr "left") = some (.int d) := by rw [fkv, valV_neg n02, valV_neg n12]; exact valV_pos rfl
theorem fkv_3 {a : V} {b d e : Int} : valV (fkv a b d e) (Sum.inr "count") = some (.int e) := by rw [fkv, valV_neg n03, valV_neg n13, valV_neg n23]; exact valV_pos rfl
theorem fput_1 {a : V} {b d e x : Int} : putK (fkv a b d e) (Sum.inr "at") (.int x) = fkv a x d e := by
  unfold putK
  rw [valV_any, fkv_1, Option.isSome_some, if_pos rfl]
  simp only [fkv, List.map_cons, List.map_nil, if_neg n01, if_pos, if_neg (fun h => n12 (Eq.symm h)), if_neg (fun h => n13 (Eq.symm h))]
theorem fput_2 {a : V} {b d e x : Int} : putK (fkv a b d e) (Sum.inr "left") (.int x) = fkv a b x e := by
  unfold putK
  rw [valV_any, fkv_2, Option.isSome_some, if_pos rfl]
  simp only [fkv, List.map_cons, List.map_nil, if_neg n02, if_neg n12, if_pos, if_neg (fun h => n23 (Eq.symm h))]
theorem fput_3 {a : V} {b d e x : Int} : putK (fkv a b d e) (Sum.inr "count") (.int x) = fkv a b d x := by
  unfold putK
  rw [valV_any, fkv_3, Option.isSome_some, if_pos rfl]
  simp only [fkv, List.map_cons, List.map_nil, if_neg n03, if_neg n13, if_neg n23, if_pos]
def Feed (K : PySem.W.Frag) (H : Hp) (fd cl : Addr) : Prop := ∃ (ns : List Int) (b d e : Int), H fd = some (.dK (fkv (.ref cl) b d e)) ∧ H cl = some (.lst (ns.map V.int)) ∧ ns.length ≤ 63
theorem Feed.same {K : PySem.W.Frag} {H H' : Hp} {fd cl : Addr} (h : Feed K H fd cl) (s : Same H H') : Feed K H' fd cl := by
  obtain ⟨ns, b, d, e, h1, h2, h3⟩ := h
  exact ⟨ns, b, d, e, s _ _ h1, s _ _ h2, h3⟩
theorem Feed.upd {K : PySem.W.Frag} {H : Hp} {fd cl l : Addr} {o : HO} (h : Feed K H fd cl) (n1 : l ≠ fd) (n2 : l ≠ cl) : Feed K (upd H l o) fd cl := by
  obtain ⟨ns, b, d, e, h1, h2, h3⟩ := h
  exact ⟨ns, b, d, e, by rw [upd_ne (fun e => n1 e.symm)]; exact h1, by rw [upd_ne (fun e => n2 e.symm)]; exact h2, h3⟩
theorem kp_fd {H : Hp} {p : Addr} {kvs : List (Key × V)} {o' : HO} (h : H p = some (.dK kvs)) : Kp p H (upd H p o') := kp_upd h (fun _ e => nomatch e) fun _ _ e => nomatch e
/-- a def that draws: what it asks of its other arguments, what it may answer -/
def spD (Pre : List PyData → Prop) (R : List PyData → PyData → Prop) (K : PySem.W.Frag) : Sp := fun vs H Q _ => ∃ fd cl rest ds, vs = .ref fd :: rest ∧ Feed K H fd cl ∧ DtAll K H rest ds ∧ Pre ds ∧
  ∀ d v H', R ds d → Kp fd H H' → Feed K H' fd cl → Dt K H' v d → Q v H'
theorem spD_len {Pre : List PyData → Prop} {R : List PyData → PyData → Prop} {K : PySem.W.Frag} {n : Nat} (hp : ∀ ds, Pre ds → ds.length = n) : ∀ vs H Q E, spD Pre R K vs H Q E → vs.length = n + 1 := by
  rintro vs H Q E ⟨fd, cl, rest, ds, rfl, _, h, p, _⟩
  rw [List.length_cons, h.len, hp ds p]
end G

namespace G
open PySem PySem.Spec PyProof.Rows L2
structure Bl (M : Md) : Prop where
  len : M.mg "len" = none
  int : M.mg "int" = none
  max : M.mg "max" = none
  min : M.mg "min" = none
  range : M.mg "range" = none
  tuple : M.mg "tuple" = none
  list : M.mg "list" = none
  isinst : M.mg "isinstance" = none
  str : M.mg "str" = none
  bool : M.mg "bool" = none
  set : M.mg "set" = none
  dict : M.mg "dict" = none
  sorted : M.mg "sorted" = none
theorem dpInts {K : PySem.W.Frag} {H : Hp} : ∀ ns : List Int, DpAll K H (ns.map V.int) (ns.map PyData.int)
  | [] => .nil
  | n :: ns => .cons (.int n) (dpInts ns)
theorem shInts (ns : List Int) : SeqAt.shaped (.list (ns.map PyData.int)) = true := by
  have h : ∀ ns : List Int, PyData.canLayAll0 (ns.map PyData.int) = true ∧ PyData.depthAll (ns.map PyData.int) ≤ 1 := by
    intro ns
    induction ns with
    | nil => exact ⟨by simp [PyData.canLayAll0], by simp [PyData.depthAll]⟩
    | cons n ns ih => exact ⟨by simp [PyData.canLayAll0, PyData.canLay0, ih.1], by simp only [List.map_cons, PyData.depthAll, PyData.depth]; omega⟩
  show (PyData.canLay0 (.list _) && decide (PyData.depth (.list _) ≤ 64)) = true
  rw [Bool.and_eq_true]
  refine ⟨by simp only [PyData.canLay0]; exact (h ns).1, decide_eq_true ?_⟩
  simp only [PyData.depth]
  have := (h ns).2
  omega
theorem pl_at {α : Type} {xs : List α} {z : Int} {j : Nat} {v : α} (e : z = (j : Int)) (h : xs[j]? = some v) : atI xs z = some v := by
  rw [e]
  exact atI_nat h
end G

namespace G
open PySem PySem.Spec PyProof.Rows L2
/-! ### comprehensions -/
abbrev blkCd (c : Cd) (scope : Scope) : Cd := ⟨c.toMd, c.N, relS scope c.sc, c.k, false, c.g⟩
theorem is_blk {c : Cd} {X : Cx} (h : Is c X) {scope : Scope} (s : Shared) (H : Hp) (C : Addr) (cl : List (Str × Addr)) (fp : List Addr) : Is (blkCd c scope) (X.blk s H scope (compEnvC scope cl C X.env) fp) := by
  refine ⟨h.prog, h.w, h.K, h.mg, h.base, h.N, ?_, h.calm, h.room, (fun z => Bool.noConfusion z), PassesOwn.never, h.nd, h.gd⟩
  show relS scope X.env.scope = relS scope c.sc
  rw [h.sc]
section
variable {c : Cd} {σ : L2.St} {H : Hp} {Q : VK} {pos : Pos} {x y : V}
theorem ts_nil {Q : Bool → Hp → Prop} (q : Q true H) : RTs c [] σ H Q := rts_of (fun _ _ => pts_nil) q
theorem ts_one {Q : Bool → Hp → Prop} {e : Expr} (q : RT c e σ H Q) : RTs c [e] σ H Q := rts_of (fun _ h => pts_one (pt_rt h)) q
/-- what is asked of a comprehension's block -/
structure Blk (c : Cd) (scope : Scope) (own : List (Str × Nat)) : Prop where
  ok : BlkOk c.N c.sc scope own
theorem Blk.of {c : Cd} {scope : Scope} {own : List (Str × Nat)} {N : List Str} {sc : Scope} (h1 : c.N = N) (h2 : c.sc = sc) (h : blkC N sc scope own = true) : Blk c scope own := ⟨by rw [h1, h2]; exact blkOk_by h⟩
theorem e_lc {elt tg iter : Expr} {ifs : List Expr} {scope : Scope} {own : List (Str × Nat)} (ok : Blk c scope own)
    (q : tLc (RI c tg iter) (RG (blkCd c scope) tg) (RTs (blkCd c scope) ifs) (RE (blkCd c scope) elt) (own.map (·.2)) σ H Q) (hs : ∀ env x, foldedSetIterable iter env x = pure x := by intro _ _; rfl) : RE c (.ListComp elt [⟨tg, iter, ifs, 0⟩] scope pos) σ H Q :=
  re_of (fun X h => pe_lc h.calm (by rw [h.N]; exact h.nd) (pi_ri h) (by rw [h.N, h.sc]; exact ok.ok) (fun s H C cl fp => pg_rg (is_blk h s H C cl fp)) (fun s H C cl fp => pts_rts (is_blk h s H C cl fp)) (fun s H C cl fp => pe_re (is_blk h s H C cl fp)) (hs _)) q
theorem s_setLc {nx : L2.St → Hp → Prop} {rt : VK} {bk ct : L2.St → Hp → Prop} {i : Nat} {y : Str} {py : Pos} {elt tg iter : Expr} {ifs : List Expr} {scope : Scope} {own : List (Str × Nat)} {spos : Pos} (hA : At c.N i y) (ok : Blk c scope own)
    (q : tLc (RI c tg iter) (RG (blkCd c scope) tg) (RTs (blkCd c scope) ifs) (RE (blkCd c scope) elt) (own.map (·.2)) σ H fun v H1 => nx (σ.set i (some v)) H1)
    (hy : c.sc.names.lookup y = some .local := by rfl) (hl : (py.line == pos.line) = true := by rfl) (ha : (scope.names.any fun (n, k) => n == y && (k == .local || k == .cell)) = false := by rfl) (hf : c.sc.kind = .function := by rfl) (hs : ∀ env x, foldedSetIterable iter env x = pure x := by intro _ _; rfl) :
    RS c (.Assign [.Name y py] (.ListComp elt [⟨tg, iter, ifs, 0⟩] scope pos) spos) ⟨nx, rt, bk, ct⟩ σ H :=
  rs_of (c := c) (σ := σ) (H := H) (D := ⟨nx, rt, bk, ct⟩) (t := tAsg (tLc (RI c tg iter) (RG (blkCd c scope) tg) (RTs (blkCd c scope) ifs) (RE (blkCd c scope) elt) (own.map (fun p : Str × Nat => p.2))) (gName i)) (fun X h => ps_setLc h.calm (by rw [h.N]; exact h.nd) (by rw [h.N]; exact hA.get) (by rw [h.sc]; exact hy)
    (sw_true (by rw [h.sc]; exact hf) (by rw [h.sc]; exact hy) hl ha) (pi_ri h) (by rw [h.N, h.sc]; exact ok.ok) (fun s H C cl fp => pg_rg (is_blk h s H C cl fp)) (fun s H C cl fp => pts_rts (is_blk h s H C cl fp)) (fun s H C cl fp => pe_re (is_blk h s H C cl fp)) (hs _)) q

/-- a turn of a comprehension, with a word Pv: what the turn, the collected values and the heap are -/
def Turn1 (cB : Cd) (tg : Expr) (ifs : List Expr) (elt : Expr) (vs : List Nat) (σ : L2.St) (D : Addr) (x : V) (H' : Hp) (acc : List V) (Nx : List V → Hp → Prop) : Prop :=
  RG cB tg x (wipe σ vs) H' fun σ2 H2 => wipe σ2 vs = wipe σ vs ∧ RTs cB ifs σ2 H2 fun b H3 => if b = true then RE cB elt σ2 H3 fun y H4 => H4 D = some (.lst acc) ∧ Nx (acc ++ [y]) (upd H4 D (.lst (acc ++ [y]))) else Nx acc H3
section
variable {elt tg iter : Expr} {ifs : List Expr} {scope : Scope} {vs : List Nat}
/-- over a tuple -/
theorem lc_T (q : RE c iter σ H fun x H1 => ∃ a xs, x = .ref a ∧ SqT c.K H1 a xs ∧ xs.length ≤ 1000 ∧ ∀ D, H1 D = none → ∃ Pv : Nat → List V → Hp → Prop, Pv 0 [] (upd H1 D (.lst [])) ∧ (∀ i acc H', i ≤ xs.length → Pv i acc H' → SqT c.K H' a xs ∧ acc.length ≤ i) ∧
      (∀ i x acc H', xs[i]? = some x → Pv i acc H' → Turn1 (blkCd c scope) tg ifs elt vs σ D x H' acc (Pv (i + 1))) ∧ ∀ acc H', Pv xs.length acc H' → Q (.ref D) H') :
    tLc (RI c tg iter) (RG (blkCd c scope) tg) (RTs (blkCd c scope) ifs) (RE (blkCd c scope) elt) vs σ H Q := by
  refine i_tup (RE.mono (fun x H1 z => ?_) q)
  obtain ⟨a, xs, rfl, ht, hl, z⟩ := z
  refine ⟨a, rfl, ⟨xs, ht⟩, fun D hD => ?_⟩
  obtain ⟨Pv, p0, pk, pt, pe⟩ := z D hD
  refine lc_tup (xs := xs) (fun i H' => ∃ acc, Pv i acc H') ⟨_, p0⟩ (fun i H' hi ⟨acc, p⟩ => (pk i acc H' hi p).1) (fun i x H' hx ⟨acc, p⟩ => ?_) fun H' ⟨acc, p⟩ => pe acc H' p
  have hi : i < xs.length := (List.getElem?_eq_some_iff.mp hx).1
  have la := (pk i acc H' (Nat.le_of_lt hi) p).2
  refine RG.mono (fun σ2 H2 z => ?_) (pt i x acc H' hx p)
  refine ⟨z.1, RTs.mono (fun b H3 z => ?_) z.2⟩
  cases b with
  | true => exact RE.mono (fun y H4 z => ⟨acc, z.1, Nat.lt_of_le_of_lt la (Nat.lt_of_lt_of_le hi (Nat.le_trans hl (by decide))), _, z.2⟩) z
  | false => exact ⟨_, z⟩
/-- over a list -/
theorem lc_L (q : RE c iter σ H fun x H1 => ∃ a xs, x = .ref a ∧ SqL c.K H1 a xs ∧ xs.length ≤ 1000 ∧ ∀ D, H1 D = none → ∃ Pv : Nat → List V → Hp → Prop, Pv 0 [] (upd H1 D (.lst [])) ∧ (∀ i acc H', i ≤ xs.length → Pv i acc H' → SqL c.K H' a xs ∧ acc.length ≤ i) ∧
      (∀ i x acc H', xs[i]? = some x → Pv i acc H' → Turn1 (blkCd c scope) tg ifs elt vs σ D x H' acc (Pv (i + 1))) ∧ ∀ acc H', Pv xs.length acc H' → Q (.ref D) H') :
    tLc (RI c tg iter) (RG (blkCd c scope) tg) (RTs (blkCd c scope) ifs) (RE (blkCd c scope) elt) vs σ H Q := by
  refine i_list (RE.mono (fun x H1 z => ?_) q)
  obtain ⟨a, xs, rfl, ht, hl, z⟩ := z
  refine ⟨a, rfl, ⟨xs, ht⟩, fun D hD => ?_⟩
  obtain ⟨Pv, p0, pk, pt, pe⟩ := z D hD
  refine lc_list (xs := xs) (fun i H' => ∃ acc, Pv i acc H') ⟨_, p0⟩ (fun i H' hi ⟨acc, p⟩ => (pk i acc H' hi p).1) (fun i x H' hx ⟨acc, p⟩ => ?_) fun H' ⟨acc, p⟩ => pe acc H' p
  have hi : i < xs.length := (List.getElem?_eq_some_iff.mp hx).1
  have la := (pk i acc H' (Nat.le_of_lt hi) p).2
  refine RG.mono (fun σ2 H2 z => ?_) (pt i x acc H' hx p)
  refine ⟨z.1, RTs.mono (fun b H3 z => ?_) z.2⟩
  cases b with
  | true => exact RE.mono (fun y H4 z => ⟨acc, z.1, Nat.lt_of_le_of_lt la (Nat.lt_of_lt_of_le hi (Nat.le_trans hl (by decide))), _, z.2⟩) z
  | false => exact ⟨_, z⟩
/-- over range(a, b) -/
theorem lc_R2 {a b : Expr} {p ppos : Pos} (hm : c.mg "range" = none) (q : RE c a σ H fun x H1 => RE c b σ H1 fun y H2 => ∃ i j : Int, x = .int i ∧ y = .int j ∧ (-1000 ≤ i ∧ i ≤ 1000) ∧ (-1000 ≤ j ∧ j ≤ 1000) ∧ ∀ D, H2 D = none → ∃ Pv : Nat → List V → Hp → Prop, Pv 0 [] (upd H2 D (.lst [])) ∧ (∀ t acc H', Pv t acc H' → acc.length ≤ t) ∧
      (∀ t acc H', t < (j - i).toNat → Pv t acc H' → Turn1 (blkCd c scope) tg ifs elt vs σ D (.int (i + t)) H' acc (Pv (t + 1))) ∧ ∀ acc H', Pv (j - i).toNat acc H' → Q (.ref D) H')
    (hg : c.sc.names.lookup ("range" : Str) = some .globalImplicit := by rfl) (hs : ∀ env, starEach [a, b] env = [(false, eval a env), (false, eval b env)] := by intro _; rfl) (hs2 : ∀ env, starEach [b] env = [(false, eval b env)] := by intro _; rfl) :
    tLc (RI c tg (.Call (.Name "range" p) [a, b] [] ppos)) (RG (blkCd c scope) tg) (RTs (blkCd c scope) ifs) (RE (blkCd c scope) elt) vs σ H Q := by
  refine i_range2 hm (a_cons (RE.mono (fun x H1 z => a_cons (RE.mono (fun y H2 z => a_nil ?_) z) (fun env => by rw [hs2]; rfl)) q) (fun env => by rw [hs, hs2])) hg hs hs2
  obtain ⟨i, j, rfl, rfl, h1, h2, z⟩ := z
  refine ⟨i, j, rfl, ⟨by omega, by omega, by omega, by omega⟩, fun D hD => ?_⟩
  obtain ⟨Pv, p0, pk, pt, pe⟩ := z D hD
  refine lc_range (lo := i) (n := (j - i).toNat) (fun t H' => ∃ acc, Pv t acc H') ⟨_, p0⟩ (fun t H' ht ⟨acc, p⟩ => ?_) fun H' ⟨acc, p⟩ => pe acc H' p
  have la := pk t acc H' p
  refine RG.mono (fun σ2 H2 z => ?_) (pt t acc H' ht p)
  refine ⟨z.1, RTs.mono (fun b H3 z => ?_) z.2⟩
  cases b with
  | true => exact RE.mono (fun y H4 z => ⟨acc, z.1, Nat.lt_of_le_of_lt la (Nat.lt_of_lt_of_le ht (Nat.le_trans (show (j - i).toNat ≤ 2000 by omega) (by decide))), _, z.2⟩) z
  | false => exact ⟨_, z⟩
/-- over range(n) -/
theorem lc_R1 {a : Expr} {p ppos : Pos} (hm : c.mg "range" = none) (q : RE c a σ H fun y H2 => ∃ j : Int, y = .int j ∧ (-1000 ≤ j ∧ j ≤ 1000) ∧ ∀ D, H2 D = none → ∃ Pv : Nat → List V → Hp → Prop, Pv 0 [] (upd H2 D (.lst [])) ∧ (∀ t acc H', Pv t acc H' → acc.length ≤ t) ∧
      (∀ t acc H', t < j.toNat → Pv t acc H' → Turn1 (blkCd c scope) tg ifs elt vs σ D (.int t) H' acc (Pv (t + 1))) ∧ ∀ acc H', Pv j.toNat acc H' → Q (.ref D) H')
    (hg : c.sc.names.lookup ("range" : Str) = some .globalImplicit := by rfl) (hs : ∀ env, starEach [a] env = [(false, eval a env)] := by intro _; rfl) :
    tLc (RI c tg (.Call (.Name "range" p) [a] [] ppos)) (RG (blkCd c scope) tg) (RTs (blkCd c scope) ifs) (RE (blkCd c scope) elt) vs σ H Q := by
  refine i_range1 hm (a_cons (RE.mono (fun x H1 z => a_nil ?_) q) (fun env => by rw [hs]; rfl)) hg hs
  obtain ⟨j, rfl, h2, z⟩ := z
  refine ⟨j, rfl, by omega, by omega, fun D hD => ?_⟩
  obtain ⟨Pv, p0, pk, pt, pe⟩ := z D hD
  refine lc_range (lo := 0) (n := j.toNat) (fun t H' => ∃ acc, Pv t acc H') ⟨_, p0⟩ (fun t H' ht ⟨acc, p⟩ => ?_) fun H' ⟨acc, p⟩ => pe acc H' p
  have la := pk t acc H' p
  rw [Int.zero_add]
  refine RG.mono (fun σ2 H2 z => ?_) (pt t acc H' ht p)
  refine ⟨z.1, RTs.mono (fun b H3 z => ?_) z.2⟩
  cases b with
  | true => exact RE.mono (fun y H4 z => ⟨acc, z.1, Nat.lt_of_le_of_lt la (Nat.lt_of_lt_of_le ht (Nat.le_trans (show j.toNat ≤ 1000 by omega) (by decide))), _, z.2⟩) z
  | false => exact ⟨_, z⟩
/-- over a text's signs -/
theorem lc_S (q : RE c iter σ H fun x H1 => ∃ z : Str, x = .str z ∧ z.cps.size ≤ 1000 ∧ ∀ D, H1 D = none → ∃ Pv : Nat → List V → Hp → Prop, Pv 0 [] (upd H1 D (.lst [])) ∧ (∀ i acc H', Pv i acc H' → acc.length ≤ i) ∧
      (∀ i ch acc H', i < z.cps.size → Pv i acc H' → Turn1 (blkCd c scope) tg ifs elt vs σ D (.str ⟨#[ch]⟩) H' acc (Pv (i + 1))) ∧ ∀ acc H', Pv z.cps.size acc H' → Q (.ref D) H') :
    tLc (RI c tg iter) (RG (blkCd c scope) tg) (RTs (blkCd c scope) ifs) (RE (blkCd c scope) elt) vs σ H Q := by
  refine ri_of (t := iStr (RE c iter)) (fun X h => pi_str (pe_re h)) (RE.mono (fun x H1 z => ?_) q)
  obtain ⟨z, rfl, hl, w⟩ := z
  refine ⟨z, rfl, fun D hD => ?_⟩
  obtain ⟨Pv, p0, pk, pt, pe⟩ := w D hD
  refine ⟨fun i m H' => m = z.cps.size - i ∧ i ≤ z.cps.size ∧ ∃ acc, Pv i acc H', ⟨z.cps.size, by simp, Nat.zero_le _, _, p0⟩, ?_⟩
  rintro i m H' ⟨rfl, hi, acc, p⟩
  by_cases hlt : i < z.cps.size
  · refine .inr ⟨hlt, fun H' => ∃ acc, Pv (i + 1) acc H', fun H' p' => ⟨z.cps.size - (i + 1), by omega, rfl, hlt, p'⟩, fun x H2 yy => ?_⟩
    obtain ⟨e, ch, hc, rfl⟩ := yy
    subst e
    have la := pk i acc _ p
    refine RG.mono (fun σ2 H2 z => ?_) (pt i ch acc _ hlt p)
    refine ⟨z.1, RTs.mono (fun b H3 z => ?_) z.2⟩
    cases b with
    | true => exact RE.mono (fun y H4 z => ⟨acc, z.1, Nat.lt_of_le_of_lt la (Nat.lt_of_lt_of_le hlt (Nat.le_trans hl (by decide))), _, z.2⟩) z
    | false => exact ⟨_, z⟩
  · have e : i = z.cps.size := by omega
    subst e
    exact .inl ⟨Nat.le_refl _, pe acc H' p⟩
end
end

/-! ### comprehensions that change nothing: a function on data -/
section
variable {c : Cd} {σ : L2.St} {H : Hp} {Q : VK} {pos : Pos} {x y : V} {elt tg iter : Expr} {ifs : List Expr} {scope : Scope} {vs : List Nat}
/-- the pure turn -/
def TurnF (cB : Cd) (tg : Expr) (ifs : List Expr) (elt : Expr) (vs : List Nat) (σ : L2.St) (K : PySem.W.Frag) (x : V) (H' : Hp) (o : Option PyData) : Prop :=
  RG cB tg x (wipe σ vs) H' fun σ2 H2 => H2 = H' ∧ wipe σ2 vs = wipe σ vs ∧ RTs cB ifs σ2 H2 fun b H3 => Same H' H3 ∧ if b = true then RE cB elt σ2 H3 fun y H4 => Same H3 H4 ∧ ∃ e, o = some e ∧ Dt K H4 y e else o = none
theorem TurnF.one {cB : Cd} {σ : L2.St} {K : PySem.W.Frag} {x : V} {H1 H' : Hp} {o : Option PyData} {D : Addr} {acc : List V} {es : List PyData} (hD : H1 D = none) (s : Same H1 H') (ha : H' D = some (.lst acc)) (hd : DtAll K H' acc es) (t : TurnF cB tg ifs elt vs σ K x H' o) :
    Turn1 cB tg ifs elt vs σ D x H' acc fun acc' H2 => H2 D = some (.lst acc') ∧ Same H1 H2 ∧ DtAll K H2 acc' (es ++ o.toList) := by
  refine RG.mono (fun σ2 H2 z => ?_) t
  obtain ⟨rfl, z1, z2⟩ := z
  refine ⟨z1, RTs.mono (fun b H3 z => ?_) z2⟩
  obtain ⟨s3, z⟩ := z
  cases b with
  | true =>
    refine RE.mono (fun y H4 z => ?_) z
    obtain ⟨s4, e, rfl, he⟩ := z
    have aD := s4 _ _ (s3 _ _ ha)
    have k := kp_upd (o' := .lst (acc ++ [y])) aD (fun _ e => nomatch e) (fun _ _ e => nomatch e)
    exact ⟨aD, upd_same, same_mut (s.trans (s3.trans s4)) hD, ((hd.mono (tp_same (s3.trans s4))).mono k.t).app (.cons (he.mono k.t) .nil)⟩
  | false =>
    have z : o = none := z
    subst z
    exact ⟨s3 _ _ ha, s.trans s3, by rw [Option.toList_none, List.append_nil]; exact hd.mono (tp_same s3)⟩
theorem outs_step {g : PyData → Option PyData} {ds : List PyData} {i : Nat} {d : PyData} (h : ds[i]? = some d) : (ds.take i).filterMap g ++ (g d).toList = (ds.take (i + 1)).filterMap g := by
  obtain ⟨h1, rfl⟩ := List.getElem?_eq_some_iff.mp h
  rw [List.take_succ_eq_append_getElem h1, List.filterMap_append]
  congr 1
theorem lcT_F (g : PyData → Option PyData) (q : RE c iter σ H fun x H1 => ∃ ds, Dt c.K H1 x (.tuple ds) ∧ ds.length ≤ 1000 ∧ (∀ d x H', d ∈ ds → Same H1 H' → Dt c.K H' x d → TurnF (blkCd c scope) tg ifs elt vs σ c.K x H' (g d)) ∧
      ∀ p us H2, Same H1 H2 → H1 p = none → H2 p = some (.lst us) → DtAll c.K H2 us (ds.filterMap g) → Q (.ref p) H2) :
    tLc (RI c tg iter) (RG (blkCd c scope) tg) (RTs (blkCd c scope) ifs) (RE (blkCd c scope) elt) vs σ H Q := by
  refine lc_T (RE.mono (fun x H1 z => ?_) q)
  obtain ⟨ds, hx, hl, t, k⟩ := z
  obtain ⟨a, xs, rfl, ht, ha⟩ := hx.tupE
  have hle := ha.len
  refine ⟨a, xs, rfl, ht, by omega, fun D hD => ⟨fun i acc H' => acc.length ≤ i ∧ H' D = some (.lst acc) ∧ Same H1 H' ∧ DtAll c.K H' acc ((ds.take i).filterMap g), ⟨Nat.le_refl _, upd_same, same_new hD, .nil⟩, ?_, ?_, ?_⟩⟩
  · rintro i acc H' _ ⟨l, _, s, _⟩
    exact ⟨(tp_same s).sqt ht, l⟩
  · rintro i x acc H' hx ⟨l, h1, s, h2⟩
    obtain ⟨d, hd, hx'⟩ := ha.getV hx
    have T := TurnF.one hD s h1 h2 (t d x H' (List.mem_of_getElem? hd) s (hx'.mono (tp_same s)))
    refine RG.mono (fun σ2 H2 z => ⟨z.1, RTs.mono (fun b H3 z => ?_) z.2⟩) T
    cases b with
    | true => exact RE.mono (fun y H4 z => ⟨z.1, by rw [List.length_append, List.length_singleton]; omega, z.2.1, z.2.2.1, by rw [← outs_step hd]; exact z.2.2.2⟩) z
    | false => exact ⟨by omega, z.1, z.2.1, by rw [← outs_step hd]; exact z.2.2⟩
  · rintro acc H' ⟨l, h1, s, h2⟩
    refine k D acc H' s hD h1 ?_
    rw [hle, List.take_length] at h2
    exact h2
theorem lcL_F (g : PyData → Option PyData) (q : RE c iter σ H fun x H1 => ∃ a xs ds, x = .ref a ∧ SqL c.K H1 a xs ∧ DtAll c.K H1 xs ds ∧ ds.length ≤ 1000 ∧ (∀ d x H', d ∈ ds → Same H1 H' → Dt c.K H' x d → TurnF (blkCd c scope) tg ifs elt vs σ c.K x H' (g d)) ∧
      ∀ p us H2, Same H1 H2 → H1 p = none → H2 p = some (.lst us) → DtAll c.K H2 us (ds.filterMap g) → Q (.ref p) H2) :
    tLc (RI c tg iter) (RG (blkCd c scope) tg) (RTs (blkCd c scope) ifs) (RE (blkCd c scope) elt) vs σ H Q := by
  refine lc_L (RE.mono (fun x H1 z => ?_) q)
  obtain ⟨a, xs, ds, rfl, ht, ha, hl, t, k⟩ := z
  have hle := ha.len
  refine ⟨a, xs, rfl, ht, by omega, fun D hD => ⟨fun i acc H' => acc.length ≤ i ∧ H' D = some (.lst acc) ∧ Same H1 H' ∧ DtAll c.K H' acc ((ds.take i).filterMap g), ⟨Nat.le_refl _, upd_same, same_new hD, .nil⟩, ?_, ?_, ?_⟩⟩
  · rintro i acc H' _ ⟨l, _, s, _⟩
    exact ⟨s.seq ht, l⟩
  · rintro i x acc H' hx ⟨l, h1, s, h2⟩
    obtain ⟨d, hd, hx'⟩ := ha.getV hx
    have T := TurnF.one hD s h1 h2 (t d x H' (List.mem_of_getElem? hd) s (hx'.mono (tp_same s)))
    refine RG.mono (fun σ2 H2 z => ⟨z.1, RTs.mono (fun b H3 z => ?_) z.2⟩) T
    cases b with
    | true => exact RE.mono (fun y H4 z => ⟨z.1, by rw [List.length_append, List.length_singleton]; omega, z.2.1, z.2.2.1, by rw [← outs_step hd]; exact z.2.2.2⟩) z
    | false => exact ⟨by omega, z.1, z.2.1, by rw [← outs_step hd]; exact z.2.2⟩
  · rintro acc H' ⟨l, h1, s, h2⟩
    refine k D acc H' s hD h1 ?_
    rw [hle, List.take_length] at h2
    exact h2

/-! ### lists that grow -/
theorem e_app {o e : Expr} {apos : Pos} (q : RE c o σ H fun x H1 => ∃ l zs, x = .ref l ∧ H1 l = some (.lst zs) ∧ RE c e σ H1 fun y H2 => ∃ ys, H2 l = some (.lst ys) ∧ ys.length < 100000 ∧ Q .non (upd H2 l (.lst (ys ++ [y]))))
    (hbase : ∀ env, attributeBase o "append" env (eval o env) = eval o env := by intro _; rfl)
    (hfew : ∀ env, ((backTo pos (starEach [e] env)).all (fun x => !x.1) && (backToKw pos (keywordEach [] env)).all (fun x => x.1.isSome)
      && decide (([e] : List Expr).length + ([] : List Keyword).length + (if ([] : List Keyword).isEmpty then 0 else 1) < 30)) = true := by intro _; rfl)
    (hline : (apos.endLine == pos.line) = true := by rfl) (hs : ∀ env, starEach [e] env = (false, eval e env) :: starEach [] env := by intro _; rfl) (hplain : ∀ env, (backTo pos (starEach [] env)).any (·.1) = false := by intro _; rfl) :
    RE c (.Call (.Attribute o "append" apos) [e] [] pos) σ H Q := by
  refine e_bm PySem.F.plainAttrs_list PySem.F.slot_list_append PySem.F.type_list_append (RE.mono (fun x H1 z => ?_) q) hbase hfew hline hs hplain
  obtain ⟨l, zs, rfl, hl, z⟩ := z
  refine ⟨Or.inl ⟨rfl, _, Or.inl (Or.inl hl)⟩, a_cons (RE.mono (fun y H2 z => a_nil ?_) z) hs⟩
  obtain ⟨ys, hl, hz, z⟩ := z
  exact rm_of (fun X h => mt_append) ⟨l, ys, y, rfl, rfl, hl, Nat.lt_of_lt_of_le hz (by decide), z⟩
theorem e_ext {o e : Expr} {apos : Pos} (q : RE c o σ H fun x H1 => ∃ l zs, x = .ref l ∧ H1 l = some (.lst zs) ∧ RE c e σ H1 fun y H2 => ∃ b ys ws, y = .ref b ∧ H2 l = some (.lst ys) ∧ H2 b = some (.lst ws) ∧ ys.length + ws.length ≤ 100000 ∧ Q .non (upd H2 l (.lst (ys ++ ws))))
    (hbase : ∀ env, attributeBase o "extend" env (eval o env) = eval o env := by intro _; rfl)
    (hfew : ∀ env, ((backTo pos (starEach [e] env)).all (fun x => !x.1) && (backToKw pos (keywordEach [] env)).all (fun x => x.1.isSome)
      && decide (([e] : List Expr).length + ([] : List Keyword).length + (if ([] : List Keyword).isEmpty then 0 else 1) < 30)) = true := by intro _; rfl)
    (hline : (apos.endLine == pos.line) = true := by rfl) (hs : ∀ env, starEach [e] env = (false, eval e env) :: starEach [] env := by intro _; rfl) (hplain : ∀ env, (backTo pos (starEach [] env)).any (·.1) = false := by intro _; rfl) :
    RE c (.Call (.Attribute o "extend" apos) [e] [] pos) σ H Q := by
  refine e_bm PySem.F.plainAttrs_list PySem.F.slot_list_extend PySem.F.type_list_extend (RE.mono (fun x H1 z => ?_) q) hbase hfew hline hs hplain
  obtain ⟨l, zs, rfl, hl, z⟩ := z
  refine ⟨Or.inl ⟨rfl, _, Or.inl (Or.inl hl)⟩, a_cons (RE.mono (fun y H2 z => a_nil ?_) z) hs⟩
  obtain ⟨b, ys, ws, rfl, hl, hb, hz, z⟩ := z
  exact rm_of (fun X h => mt_extend) ⟨l, b, ys, ws, rfl, rfl, hl, hb, Nat.le_trans hz (by decide), z⟩
theorem tupend {K : PySem.W.Frag} {H1 : Hp} {xs : List V} {ds : List PyData} {Q : VK} (h : DtAll K H1 xs ds) (hl : xs.length ≤ 1000) (q : ∀ v H2, Same H1 H2 → Dt K H2 v (.tuple ds) → Q v H2) : ∃ ds, DtAll K H1 xs ds ∧ xs.length ≤ 1000 ∧ ∀ v H2, Same H1 H2 → Dt K H2 v (.tuple ds) → Q v H2 := ⟨ds, h, hl, q⟩
/-- [a, b, ..] -/
theorem e_lstD {es : List Expr} (q : RA c es σ H fun xs H1 => xs.length ≤ 1000 ∧ ∀ p H2, Same H1 H2 → H1 p = none → H2 p = some (.lst xs) → Q (.ref p) H2) : RE c (.List es pos) σ H Q :=
  e_lst (RA.mono (fun xs H1 z => ⟨Nat.le_trans z.1 (by decide), fun p hp => z.2 p _ (same_new hp) hp upd_same⟩) q)
/-- tuple(xs) of a list -/
theorem rc_tupL {p : Addr} {ys : List V} {ds : List PyData} (hl : SqL c.K H p ys) (hd : DtAll c.K H ys ds) (q : ∀ v H2, Same H H2 → Dt c.K H2 v (.tuple ds) → Q v H2) : RC c (.type "tuple") [.ref p] H Q :=
  rc_of (r := fun xs H Q => ∃ p ys, xs = [.ref p] ∧ ((SqL c.K H p ys ∧ ∀ l, H l = none → Q (.ref l) (upd H l (.tup ys))) ∨ (SqT c.K H p ys ∧ Q (.ref p) H))) (fun X h => by rw [← h.K]; exact call_tuple_of) ⟨p, ys, rfl, .inl ⟨hl, fun l hn => q _ _ (same_new hn) (.tup (.of upd_same) (hd.mono (tp_same (same_new hn))))⟩⟩
/-- list(xs) -/
theorem rc_lstL {p : Addr} {ys : List V} (hl : SqL c.K H p ys) (q : ∀ l H2, Same H H2 → H l = none → H2 l = some (.lst ys) → Q (.ref l) H2) : RC c (.type "list") [.ref p] H Q :=
  rc_of (r := fun xs H Q => ∃ p ys, xs = [.ref p] ∧ (SqL c.K H p ys ∨ SqT c.K H p ys) ∧ ∀ l, H l = none → Q (.ref l) (upd H l (.lst ys))) (fun X h => by rw [← h.K]; exact call_list_of) ⟨p, ys, rfl, .inl hl, fun l hn => q _ _ (same_new hn) hn upd_same⟩
theorem rc_lstT {ds : List PyData} (hx : Dt c.K H x (.tuple ds)) (q : ∀ l ys H2, Same H H2 → H l = none → H2 l = some (.lst ys) → DtAll c.K H2 ys ds → Q (.ref l) H2) : RC c (.type "list") [x] H Q := by
  obtain ⟨a, ys, rfl, ht, hd⟩ := hx.tupE
  exact rc_of (r := fun xs H Q => ∃ p ys, xs = [.ref p] ∧ (SqL c.K H p ys ∨ SqT c.K H p ys) ∧ ∀ l, H l = none → Q (.ref l) (upd H l (.lst ys))) (fun X h => by rw [← h.K]; exact call_list_of) ⟨a, ys, rfl, .inr ht, fun l hn => q _ _ _ (same_new hn) hn upd_same (hd.mono (tp_same (same_new hn)))⟩
end
end G
namespace G
open PySem PySem.Spec PyProof.Rows L2
/-! ### xs[lo:hi:step] of a list: some of its items -/
theorem picked_vals {xs : List V} {its : List Value} (r : Vals xs its) : ∀ ix : List Nat, ∃ ys : List V, Vals ys (ix.filterMap (its.toArray[·]?)) ∧ ∀ y ∈ ys, y ∈ xs
  | [] => ⟨[], .nil, fun _ h => nomatch h⟩
  | i :: ix => by
    obtain ⟨ys, h1, h2⟩ := picked_vals r ix
    cases e : its.toArray[i]? with
    | none => exact ⟨ys, by rw [List.filterMap_cons, e]; exact h1, h2⟩
    | some u =>
      have e' : its[i]? = some u := by simpa using e
      cases ex : xs[i]? with
      | none =>
        have := r.none_of ex
        rw [e'] at this
        cases this
      | some x =>
        obtain ⟨u', hu, ru⟩ := r.get ex
        rw [e'] at hu
        cases hu
        refine ⟨x :: ys, by rw [List.filterMap_cons, e]; exact .cons ru h1, fun y hy => ?_⟩
        rcases List.mem_cons.mp hy with rfl | hy
        · exact List.mem_of_getElem? ex
        · exact h2 y hy
def tSlS (K : PySem.W.Frag) (te : TE) (tl th ts : TO) : TE := fun σ H Q => te σ H fun x H1 => tl σ H1 fun l H2 => th σ H2 fun u H3 => ts σ H3 fun st H4 => ∃ a xs, x = .ref a ∧ SqL K H4 a xs ∧ st ≠ some 0 ∧
  ∀ p ys, H4 p = none → (∀ y ∈ ys, y ∈ xs) → ys.length ≤ xs.length → Q (.ref p) (upd H4 p (.lst ys))
theorem pe_sliceS {X : Cx} {e st : Expr} {lo hi : Option Expr} {p2 pos : Pos} {te : TE} {tl th ts : TO} (he : PE X e te) (hl : PO X lo tl) (hu : PO X hi th) (hst : PO X (some st) ts) : PE X (.Subscript e (.Slice lo hi (some st) p2) pos) (tSlS X.K te tl th ts) := by
  constructor
  intro pins s σ H Q I h
  apply Subscript_ (thn (he.run pins s σ H _ I h) _)
  rintro v s1 ⟨x, H1, I1, r1, q1⟩
  refine wpAny_Slice (thn (hl.run pins s1 σ H1 _ I1 q1) fun vl s2 ⟨l, H2, I2, pl, q2⟩ => thn (hu.run pins s2 σ H2 _ I2 q2) fun vu s3 ⟨u, H3, I3, pu, q3⟩ => thn (hst.run pins s3 σ H3 _ I3 q3) fun vs s4 ⟨sv, H4, I4, ps, q4⟩ => ?_)
  obtain ⟨a, xs, rfl, hx, h0, q⟩ := q4
  cases r1
  have J5 : Inv X pins σ H4 { s4 with heap := s4.heap.push { cls := .type "slice", data := .fields #[vl, vu, vs] } } := I4.kept (t' := s4.toks) fun b ob q => Heap.get?_push_of_some _ q
  obtain ⟨its, r, ht, hz⟩ := (J5.list hx)
  have hlen := r.length
  show wpAny (model X.prog X.w) X.A (subscriptTail e (.Slice lo hi (some st) p2) (.ref a) (.ref s4.heap.objs.size)) (EP X pins σ Q) X.xe { s4 with heap := s4.heap.push { cls := .type "slice", data := .fields #[vl, vu, vs] } }
  refine tail_any (ops := [.ref a, .ref s4.heap.objs.size]) (id := "list.__getitem__") ht.isList.typeIs slot_list_getitem.lookup ?_ (by with_unfolding_all rfl)
  refine wpAny_getItem_list_slice ht.isList (Heap.IsSliceOf.new ..) pl pu ps h0 ?_ (by rw [List.size_toArray] <;> omega)
  obtain ⟨ys, y1, y2⟩ := picked_vals r (sliceRange (sliceBounds l u sv its.toArray.size).1 (sliceBounds l u sv its.toArray.size).2.1 (sliceBounds l u sv its.toArray.size).2.2)
  have y3 : ys.length ≤ xs.length := by
    rw [y1.length, hlen]
    have := slicePick_size_le its.toArray l u sv
    unfold slicePick at this
    rw [List.size_toArray, List.size_toArray] at this
    exact this
  refine ⟨.ref _, _, J5.laid (t' := s4.toks) (o := .lst ys) (fun b ob q => Heap.get?_push_of_some _ q) (Nat.le_refl _) ?_, rfl, q _ ys (J5.hok.fresh (Nat.le_refl _)) y2 y3⟩
  exact ⟨Nat.le_trans y3 hz, _, 0, y1, Heap.get?_push_size _ rfl⟩
section
variable {c : Cd} {σ : L2.St} {H : Hp} {Q : VK} {pos : Pos} {x y : V}
theorem e_sliceS {e st : Expr} {lo hi : Option Expr} {p2 : Pos} (q : RE c e σ H fun x H1 => RPo c lo σ H1 fun l H2 => RPo c hi σ H2 fun u H3 => RPo c (some st) σ H3 fun sv H4 => ∃ a xs, x = .ref a ∧ SqL c.K H4 a xs ∧ sv ≠ some 0 ∧
    ∀ p ys H5, Same H4 H5 → H4 p = none → H5 p = some (.lst ys) → (∀ y ∈ ys, y ∈ xs) → ys.length ≤ xs.length → Q (.ref p) H5) : RE c (.Subscript e (.Slice lo hi (some st) p2) pos) σ H Q := by
  refine re_of (t := tSlS c.K (RE c e) (RPo c lo) (RPo c hi) (RPo c (some st))) (fun X h => by rw [← h.K]; exact pe_sliceS (pe_re h) (po_rp h) (po_rp h) (po_rp h)) ?_
  refine RE.mono (fun x H1 z => ?_) q
  obtain ⟨⟨t1, Q1, h1, q1, w1⟩⟩ := z
  refine ⟨⟨t1, Q1, h1, q1, fun l H2 z => ?_⟩⟩
  obtain ⟨⟨t2, Q2, h2, q2, w2⟩⟩ := w1 _ _ z
  refine ⟨⟨t2, Q2, h2, q2, fun u H3 z => ?_⟩⟩
  obtain ⟨⟨t3, Q3, h3, q3, w3⟩⟩ := w2 _ _ z
  refine ⟨⟨t3, Q3, h3, q3, fun sv H4 z => ?_⟩⟩
  obtain ⟨a, xs, e1, e2, e3, k⟩ := w3 _ _ z
  exact ⟨a, xs, e1, e2, e3, fun p ys hp m l => k p ys _ (same_new hp) hp upd_same m l⟩
theorem rsl_list {a : Addr} {xs : List V} {lo hi : Option Int} (hx : SqL c.K H a xs) (q : ∀ p H2, Same H H2 → H p = none → H2 p = some (.lst (cutV xs lo hi)) → Q (.ref p) H2) : RSl c (.ref a) lo hi H Q :=
  rsl_of (r := rSlL c.K) (fun X h => by rw [← h.K]; exact sl_list) ⟨a, xs, rfl, hx, fun p hp => q _ _ (same_new hp) hp upd_same⟩
/-- xs + ys of lists -/
theorem ro_cat {a b : Addr} {xs ys : List V} (h1 : H a = some (.lst xs)) (h2 : H b = some (.lst ys)) (hl : xs.length + ys.length ≤ 100000) (q : ∀ p H2, Same H H2 → H p = none → H2 p = some (.lst (xs ++ ys)) → Q (.ref p) H2) : RO c .Add (.ref a) (.ref b) H Q :=
  ro_of (fun X h => op_cat) ⟨a, b, xs, ys, rfl, rfl, h1, h2, Nat.le_trans hl (by decide), fun p hp => q _ _ (same_new hp) hp upd_same⟩
/-- xs * n of a list -/
theorem ro_rep {a : Addr} {xs : List V} {k : Int} (h1 : H a = some (.lst xs)) (h2 : -1000 ≤ k ∧ k ≤ 1000) (hl : xs.length ≤ 1000) (q : ∀ p H2, Same H H2 → H p = none → H2 p = some (.lst (List.replicate k.toNat xs).flatten) → Q (.ref p) H2) : RO c .Mult (.ref a) (.int k) H Q := by
  refine ro_of (fun X h => op_rep) ⟨a, k, xs, rfl, rfl, h1, by omega, by omega, ?_, fun p hp => q _ _ (same_new hp) hp upd_same⟩
  have : xs.length * k.toNat ≤ 1000 * 1000 := Nat.mul_le_mul hl (by omega)
  exact Nat.le_trans this (by decide)
end
end G

namespace G
open PySem PySem.Spec PyProof.Rows L2
theorem same_none {H H1 : Hp} (s : Same H H1) {l : Addr} (h : H1 l = none) : H l = none := by
  cases e : H l with
  | none => rfl
  | some o => rw [s _ _ e] at h; cases h
theorem ift {A B : Prop} (a : A) : if true = true then A else B := a
theorem ne_feed {K : PySem.W.Frag} {H H1 : Hp} {fd cl l : Addr} (h : Feed K H fd cl) (g : Same H H1) (n : H1 l = none) : l ≠ fd := by
  rintro rfl
  obtain ⟨ns, b, d, e, h1, _⟩ := h
  rw [g _ _ h1] at n
  cases n
theorem ne_cl {K : PySem.W.Frag} {H H1 : Hp} {fd cl l : Addr} (h : Feed K H fd cl) (g : Same H H1) (n : H1 l = none) : l ≠ cl := by
  rintro rfl
  obtain ⟨ns, b, d, e, _, h1, _⟩ := h
  rw [g _ _ h1] at n
  cases n
theorem fresh_ne {H H1 : Hp} {a l : Addr} {o : HO} (h : H a = some o) (g : Same H H1) (n : H1 l = none) : l ≠ a := by
  rintro rfl
  rw [g _ _ h] at n
  cases n
section
variable {c : Cd} {σ : L2.St} {H : Hp} {Q : VK} {pos : Pos} {x y : V}
/-- t + u of data -/
theorem ro_catT {ds es : List PyData} (h1 : Dt c.K H x (.tuple ds)) (h2 : Dt c.K H y (.tuple es)) (hl : ds.length + es.length ≤ 100000) (q : ∀ v H2, Same H H2 → Dt c.K H2 v (.tuple (ds ++ es)) → Q v H2) : RO c .Add x y H Q := by
  obtain ⟨a, xs, rfl, t1, d1⟩ := h1.tupE
  obtain ⟨b, ys, rfl, t2, d2⟩ := h2.tupE
  have l1 := d1.len
  have l2 := d2.len
  refine ro_of (r := rCatA c.K) (fun X h => by rw [← h.K]; exact op_catA) ⟨a, b, xs, ys, rfl, rfl, t1, t2, Nat.le_trans (by omega : xs.length + ys.length ≤ 100000) (by decide), ?_, ?_, ?_⟩
  · rintro rfl
    cases d1
    exact q _ _ (Same.refl _) h2
  · rintro _ rfl
    cases d2
    rw [List.append_nil] at q
    exact q _ _ (Same.refl _) h1
  · intro _ _ p hp
    exact q _ _ (same_new hp) (.tup (.of upd_same) ((d1.app d2).mono (tp_same (same_new hp))))
/-- a def that answers with a new list of data -/
def spL (R : List PyData → List PyData → Prop) (K : PySem.W.Frag) : Sp := fun vs H Q _ => ∃ ds es, DtAll K H vs ds ∧ R ds es ∧ ∀ l us H', Same H H' → H l = none → H' l = some (.lst us) → DtAll K H' us es → Q (.ref l) H'
theorem e_callL {x : Str} {p : Pos} {e : Expr} {es : List Expr} {ps : List Str} {k : Nat} {R : List PyData → List PyData → Prop} (D : Dc c.toMd x ps k (spL R c.K)) (q : RA c (e :: es) σ H fun vs H1 => ∃ ds es, DtAll c.K H1 vs ds ∧ R ds es ∧ ∀ l us H', Same H1 H' → H1 l = none → H' l = some (.lst us) → DtAll c.K H' us es → Q (.ref l) H') (hk : k ≤ c.k := by exact Nat.le_of_ble_eq_true rfl) (hg : c.sc.names.lookup x = some .globalImplicit := by rfl)
    (hdb : (x == ("__debug__" : Str)) = false := by decide) (he : ∀ env, starEach (e :: es) env = (false, eval e env) :: starEach es env := by intro _; rfl) (hpl : ∀ env, (backTo pos (starEach es env)).any (·.1) = false := by intro _; rfl) :
    RE c (.Call (.Name x p) (e :: es) [] pos) σ H Q := e_call D q hk hg hdb he hpl
/-- a def that is given a list of data (and data behind it) and answers with a new list of data -/
def spLL (R : List PyData → List PyData → List PyData → Prop) (K : PySem.W.Frag) : Sp := fun vs H Q _ => ∃ a xs rest ds cs es, vs = .ref a :: rest ∧ SqL K H a xs ∧ DtAll K H xs ds ∧ DtAll K H rest cs ∧ R ds cs es ∧ ∀ l us H', Same H H' → H l = none → H' l = some (.lst us) → DtAll K H' us es → Q (.ref l) H'
theorem rx_pick {p : Addr} {xs : List V} {ds : List PyData} {i : Int} (hx : SqL c.K H p xs) (hd : DtAll c.K H xs ds) (h0 : 0 ≤ i) (h1 : i < ds.length) (q : ∀ v d, ds[i.toNat]? = some d → Dt c.K H v d → Q v H) : RX c (.ref p) (.int i) H Q := by
  have hlt : i.toNat < ds.length := by omega
  obtain ⟨v, hv, h⟩ := hd.get (List.getElem?_eq_getElem hlt)
  exact rx_list hx (pl_at (j := i.toNat) (by omega) hv) (q v _ (List.getElem?_eq_getElem hlt) h)
theorem rx_pickT {ds : List PyData} {i : Int} (hx : Dt c.K H x (.tuple ds)) (h0 : 0 ≤ i) (h1 : i < ds.length) (q : ∀ v d, ds[i.toNat]? = some d → Dt c.K H v d → Q v H) : RX c x (.int i) H Q := by
  have hlt : i.toNat < ds.length := by omega
  exact rx_tup hx (pl_at (j := i.toNat) (by omega) (List.getElem?_eq_getElem hlt)) fun v h => q v _ (List.getElem?_eq_getElem hlt) h
/-- a drawing call -/
theorem e_callD {x : Str} {p : Pos} {e : Expr} {es : List Expr} {ps : List Str} {k : Nat} {Pre : List PyData → Prop} {R : List PyData → PyData → Prop} (D : Dc c.toMd x ps k (spD Pre R c.K)) (q : RA c (e :: es) σ H fun vs H1 => ∃ fd cl rest ds, vs = .ref fd :: rest ∧ Feed c.K H1 fd cl ∧ DtAll c.K H1 rest ds ∧ Pre ds ∧ ∀ d v H', R ds d → Kp fd H1 H' → Feed c.K H' fd cl → Dt c.K H' v d → Q v H') (hk : k ≤ c.k := by exact Nat.le_of_ble_eq_true rfl) (hg : c.sc.names.lookup x = some .globalImplicit := by rfl)
    (hdb : (x == ("__debug__" : Str)) = false := by decide) (he : ∀ env, starEach (e :: es) env = (false, eval e env) :: starEach es env := by intro _; rfl) (hpl : ∀ env, (backTo pos (starEach es env)).any (·.1) = false := by intro _; rfl) :
    RE c (.Call (.Name x p) (e :: es) [] pos) σ H Q := e_call D q hk hg hdb he hpl

section
variable {elt tg iter : Expr} {ifs : List Expr} {scope : Scope} {vs : List Nat}
theorem rng_step {g : Int → Option PyData} {i : Int} (t : Nat) : (List.range t).filterMap (fun t : Nat => g (i + (t : Int))) ++ (g (i + (t : Int))).toList = (List.range (t + 1)).filterMap (fun t : Nat => g (i + (t : Int))) := by
  rw [List.range_succ, List.filterMap_append]
  congr 1
theorem lcR2_F (g : Int → Option PyData) {a b : Expr} {p ppos : Pos} (hm : c.mg "range" = none) (q : RE c a σ H fun x H1 => RE c b σ H1 fun y H2 => ∃ i j : Int, x = .int i ∧ y = .int j ∧ (-1000 ≤ i ∧ i ≤ 1000) ∧ (-1000 ≤ j ∧ j ≤ 1000) ∧ (∀ (t : Nat) H', t < (j - i).toNat → Same H2 H' → TurnF (blkCd c scope) tg ifs elt vs σ c.K (.int (i + t)) H' (g (i + t))) ∧
      ∀ p us H3, Same H2 H3 → H2 p = none → H3 p = some (.lst us) → DtAll c.K H3 us ((List.range (j - i).toNat).filterMap fun t : Nat => g (i + (t : Int))) → Q (.ref p) H3)
    (hg : c.sc.names.lookup ("range" : Str) = some .globalImplicit := by rfl) (hs : ∀ env, starEach [a, b] env = [(false, eval a env), (false, eval b env)] := by intro _; rfl) (hs2 : ∀ env, starEach [b] env = [(false, eval b env)] := by intro _; rfl) :
    tLc (RI c tg (.Call (.Name "range" p) [a, b] [] ppos)) (RG (blkCd c scope) tg) (RTs (blkCd c scope) ifs) (RE (blkCd c scope) elt) vs σ H Q := by
  refine lc_R2 hm (RE.mono (fun x H1 z => RE.mono (fun y H2 z => ?_) z) q) hg hs hs2
  obtain ⟨i, j, rfl, rfl, h1, h2, tn, k⟩ := z
  refine ⟨i, j, rfl, rfl, h1, h2, fun D hD => ⟨fun t acc H' => acc.length ≤ t ∧ H' D = some (.lst acc) ∧ Same H2 H' ∧ DtAll c.K H' acc ((List.range t).filterMap fun t : Nat => g (i + (t : Int))), ⟨Nat.le_refl _, upd_same, same_new hD, .nil⟩, fun _ _ _ h => h.1, ?_, ?_⟩⟩
  · rintro t acc H' ht ⟨l, h1, s, h2⟩
    have T := TurnF.one hD s h1 h2 (tn t H' ht s)
    refine RG.mono (fun σ2 H2 z => ⟨z.1, RTs.mono (fun b H3 z => ?_) z.2⟩) T
    cases b with
    | true => exact RE.mono (fun y H4 z => ⟨z.1, by rw [List.length_append, List.length_singleton]; omega, z.2.1, z.2.2.1, by rw [← rng_step]; exact z.2.2.2⟩) z
    | false => exact ⟨by omega, z.1, z.2.1, by rw [← rng_step]; exact z.2.2⟩
  · rintro acc H' ⟨l, h1, s, h2⟩
    exact k D acc H' s hD h1 h2
theorem lcR1_F (g : Int → Option PyData) {a : Expr} {p ppos : Pos} (hm : c.mg "range" = none) (q : RE c a σ H fun y H2 => ∃ j : Int, y = .int j ∧ (-1000 ≤ j ∧ j ≤ 1000) ∧ (∀ (t : Nat) H', t < j.toNat → Same H2 H' → TurnF (blkCd c scope) tg ifs elt vs σ c.K (.int t) H' (g t)) ∧
      ∀ p us H3, Same H2 H3 → H2 p = none → H3 p = some (.lst us) → DtAll c.K H3 us ((List.range j.toNat).filterMap fun t : Nat => g (t : Int)) → Q (.ref p) H3)
    (hg : c.sc.names.lookup ("range" : Str) = some .globalImplicit := by rfl) (hs : ∀ env, starEach [a] env = [(false, eval a env)] := by intro _; rfl) :
    tLc (RI c tg (.Call (.Name "range" p) [a] [] ppos)) (RG (blkCd c scope) tg) (RTs (blkCd c scope) ifs) (RE (blkCd c scope) elt) vs σ H Q := by
  refine lc_R1 hm (RE.mono (fun y H2 z => ?_) q) hg hs
  obtain ⟨j, rfl, h2, tn, k⟩ := z
  refine ⟨j, rfl, h2, fun D hD => ⟨fun t acc H' => acc.length ≤ t ∧ H' D = some (.lst acc) ∧ Same H2 H' ∧ DtAll c.K H' acc ((List.range t).filterMap fun t : Nat => g (t : Int)), ⟨Nat.le_refl _, upd_same, same_new hD, .nil⟩, fun _ _ _ h => h.1, ?_, ?_⟩⟩
  · rintro t acc H' ht ⟨l, h1, s, h2⟩
    have T := TurnF.one hD s h1 h2 (tn t H' ht s)
    have e := rng_step (g := g) (i := 0) t
    simp only [Int.zero_add] at e
    refine RG.mono (fun σ2 H2 z => ⟨z.1, RTs.mono (fun b H3 z => ?_) z.2⟩) T
    cases b with
    | true => exact RE.mono (fun y H4 z => ⟨z.1, by rw [List.length_append, List.length_singleton]; omega, z.2.1, z.2.2.1, by rw [← e]; exact z.2.2.2⟩) z
    | false => exact ⟨by omega, z.1, z.2.1, by rw [← e]; exact z.2.2⟩
  · rintro acc H' ⟨l, h1, s, h2⟩
    exact k D acc H' s hD h1 h2
end
end
end G

namespace G
open PySem PySem.Spec PyProof.Rows L2
def isStar : Expr → Bool
  | .Starred .. => true
  | _ => false
theorem any_star (vs : List Expr) : (vs.any fun | .Starred .. => true | _ => false) = vs.any isStar := by
  congr 1
theorem sw2 {x y : Str} {px py pt : Pos} {kt k2 pt2} {a b : Expr} {env : Env} (hk : env.scope.kind = .function) (hx : env.scope.names.lookup x = some .local) (hy : env.scope.names.lookup y = some .local) (hxy : [x, y].eraseDups.length = 2) (hl : (py.line == px.line) = true)
    (h1 : [a, b].any isStar = false) (h2 : [a, b].all (foldedForSure 8) = false) (h3 : [a, b].all (constantsAlone 8) = false) :
    swappedStores [.Tuple [.Name x px, .Name y py] kt pt] (.Tuple [a, b] k2 pt2) env = pure (some [x, y]) := by
  have kx : env.kindOf x = some .local := hx
  have ky : env.kindOf y = some .local := hy
  have hb : env.blockKind = .function := by unfold Env.blockKind; rw [hk]; rfl
  have hn : ([Expr.Name x px, Expr.Name y py].filterMap fun
    | .Name id pos => if env.kindOf id == some .local && pos.line == px.line then some id else none
    | _ => none) = [x, y] := by
    simp only [List.filterMap_cons, List.filterMap_nil, kx, ky, hl, beq_self_eq_true, Bool.and_self, if_true]
  unfold swappedStores
  simp only [hb]
  show (if _ = true then _ else if ([a, b].any fun | .Starred .. => true | _ => false) = true then _ else _) = _
  rw [any_star, h1]
  generalize hz : List.filterMap _ [Expr.Name x px, Expr.Name y py] = z
  have hz' : z = [x, y] := by rw [← hz]; exact hn
  subst hz'
  rw [if_neg (by show ¬ (false = true); decide), if_neg (by decide), if_neg (by rw [hxy]; show ¬ (false = true); decide), h2, if_neg (by decide), h3, if_neg (by decide)]
theorem sw3 {x y z : Str} {px py pz pt : Pos} {kt k2 pt2} {a b d : Expr} {env : Env} (hk : env.scope.kind = .function) (hx : env.scope.names.lookup x = some .local) (hy : env.scope.names.lookup y = some .local) (hz0 : env.scope.names.lookup z = some .local) (hxy : [x, y, z].eraseDups.length = 3) (hl : (py.line == px.line) = true) (hl2 : (pz.line == px.line) = true)
    (h1 : [a, b, d].any isStar = false) (h2 : [a, b, d].all (foldedForSure 8) = false) (h3 : [a, b, d].all (constantsAlone 8) = false) :
    swappedStores [.Tuple [.Name x px, .Name y py, .Name z pz] kt pt] (.Tuple [a, b, d] k2 pt2) env = pure (some [x, y, z]) := by
  have kx : env.kindOf x = some .local := hx
  have ky : env.kindOf y = some .local := hy
  have kz : env.kindOf z = some .local := hz0
  have hb : env.blockKind = .function := by unfold Env.blockKind; rw [hk]; rfl
  have hn : ([Expr.Name x px, Expr.Name y py, Expr.Name z pz].filterMap fun
    | .Name id pos => if env.kindOf id == some .local && pos.line == px.line then some id else none
    | _ => none) = [x, y, z] := by
    simp only [List.filterMap_cons, List.filterMap_nil, kx, ky, kz, hl, hl2, beq_self_eq_true, Bool.and_self, if_true]
  unfold swappedStores
  simp only [hb]
  show (if _ = true then _ else if ([a, b, d].any fun | .Starred .. => true | _ => false) = true then _ else _) = _
  rw [any_star, h1]
  generalize hz : List.filterMap _ [Expr.Name x px, Expr.Name y py, Expr.Name z pz] = w
  have hz' : w = [x, y, z] := by rw [← hz]; exact hn
  subst hz'
  rw [if_neg (by show ¬ (false = true); decide), if_neg (by decide), if_neg (by rw [hxy]; show ¬ (false = true); decide), h2, if_neg (by decide), h3, if_neg (by decide)]
section
variable {c : Cd} {σ : L2.St} {H : Hp} {D : Ends} {pos : Pos}
theorem s_par2 {i j : Nat} {x y : Str} {a b : Expr} {px py pt : Pos} {kt k2 pt2} (hi : At c.N i x) (hj : At c.N j y) (q : RE c a σ H fun v H1 => RE c b σ H1 fun w H2 => D.nx ((σ.set i (some v)).set j (some w)) H2) (hij : i ≠ j := by decide)
    (hx : c.sc.names.lookup x = some .local := by rfl) (hy : c.sc.names.lookup y = some .local := by rfl) (hk : c.sc.kind = .function := by rfl) (hxy : [x, y].eraseDups.length = 2 := by decide +kernel) (hl : (py.line == px.line) = true := by rfl)
    (e1 : [a, b].any isStar = false := by rfl) (e2 : [a, b].all (foldedForSure 8) = false := by rfl) (e3 : [a, b].all (constantsAlone 8) = false := by rfl)
    (hs : ∀ env, swapsWithSole [.Tuple [.Name x px, .Name y py] kt pt] (.Tuple [a, b] k2 pt2) pos.line env = pure false := by intro _; rfl)
    (h1 : ∀ env, starEach [a, b] env = (false, eval a env) :: starEach [b] env := by intro _; rfl) (h2 : ∀ env, starEach [b] env = (false, eval b env) :: starEach [] env := by intro _; rfl) :
    RS c (.Assign [.Tuple [.Name x px, .Name y py] kt pt] (.Tuple [a, b] k2 pt2) pos) D σ H :=
  s_par hi hj q hij hx hy (fun env he => sw2 (by rw [he]; exact hk) (by rw [he]; exact hx) (by rw [he]; exact hy) hxy hl e1 e2 e3) hs h1 h2
theorem s_par3 {i j l : Nat} {x y z : Str} {a b d : Expr} {px py pz pt : Pos} {kt k2 pt2} (hi : At c.N i x) (hj : At c.N j y) (hl0 : At c.N l z) (q : RE c a σ H fun v H1 => RE c b σ H1 fun w H2 => RE c d σ H2 fun u H3 => D.nx (((σ.set i (some v)).set j (some w)).set l (some u)) H3) (hij : i ≠ j := by decide) (hil : i ≠ l := by decide) (hjl : j ≠ l := by decide)
    (hx : c.sc.names.lookup x = some .local := by rfl) (hy : c.sc.names.lookup y = some .local := by rfl) (hz : c.sc.names.lookup z = some .local := by rfl) (hk : c.sc.kind = .function := by rfl) (hxy : [x, y, z].eraseDups.length = 3 := by decide +kernel) (hl : (py.line == px.line) = true := by rfl) (hl2 : (pz.line == px.line) = true := by rfl)
    (e1 : [a, b, d].any isStar = false := by rfl) (e2 : [a, b, d].all (foldedForSure 8) = false := by rfl) (e3 : [a, b, d].all (constantsAlone 8) = false := by rfl)
    (hs : ∀ env, swapsWithSole [.Tuple [.Name x px, .Name y py, .Name z pz] kt pt] (.Tuple [a, b, d] k2 pt2) pos.line env = pure false := by intro _; rfl)
    (h0 : ∀ env, starEach [a, b, d] env = (false, eval a env) :: starEach [b, d] env := by intro _; rfl) (h1 : ∀ env, starEach [b, d] env = (false, eval b env) :: starEach [d] env := by intro _; rfl) (h2 : ∀ env, starEach [d] env = (false, eval d env) :: starEach [] env := by intro _; rfl) :
    RS c (.Assign [.Tuple [.Name x px, .Name y py, .Name z pz] kt pt] (.Tuple [a, b, d] k2 pt2) pos) D σ H := by
  refine rs_of (t := tPar3 i j l (RA c [a, b, d])) (fun X h => ps_par3 h.calm (by rw [h.N]; exact h.nd) (by rw [h.N]; exact hi.get) (by rw [h.N]; exact hj.get) (by rw [h.N]; exact hl0.get) hij hil hjl (by rw [h.sc]; exact hx) (by rw [h.sc]; exact hy) (by rw [h.sc]; exact hz) (pa_ra h) (sw3 (by rw [h.sc]; exact hk) (by rw [h.sc]; exact hx) (by rw [h.sc]; exact hy) (by rw [h.sc]; exact hz) hxy hl hl2 e1 e2 e3) (hs _)) ?_
  exact a_cons (RE.mono (fun v H1 z => a_cons (RE.mono (fun w H2 z => a_cons (RE.mono (fun u H3 z => a_nil ⟨v, w, u, rfl, z⟩) z) h2) z) h1) q) h0
theorem e_bo1 {Q : VK} {op : BoolOp} {a : Expr} (q : RE c a σ H Q) : RE c (.BoolOp op [a] pos) σ H Q := re_of (fun X h => pe_one (pe_re h)) q
theorem e_disp {Q : VK} {keys : List (Option Expr)} {values : List Expr} {trs : List (TE × TE)} (hp : ∀ X, Is c X → PPs X pos keys values trs) (hall : keys.all (·.isSome) = true) (hl : keys.length = values.length) (h0 : keys ≠ []) (h15 : keys.length ≤ 15) (q : tDisp trs σ H Q) : RE c (.Dict keys values pos) σ H Q :=
  re_of (fun X h => pe_disp (hp X h) hall hl h0 h15) q
theorem e_dnew {Q : VK} (q : ∀ p, H p = none → Q (.ref p) (upd H p (.dK []))) : RE c (.Dict [] [] pos) σ H Q := re_of (fun X h => pe_dnewK) q
theorem kp_none {fp l : Addr} {H H1 : Hp} (k : Kp fp H H1) (h : H1 l = none) (n : l ≠ fp) : H l = none := by
  cases e : H l with
  | none => rfl
  | some o => rw [k.k _ _ n e] at h; cases h
theorem ty_tup {K : PySem.W.Frag} {a : Addr} {xs : List V} (h : SqT K H a xs) : TyX K H (.ref a) (.type "tuple") := by
  rcases h with (h | ⟨o, h⟩) | ⟨o, its, n, h1, h2, _⟩
  · exact .base (.tup h)
  · exact .fTuple h
  · exact .kTuple h1 h2
theorem rc_isi {Q : VK} {x : V} {t T : String} {b : Bool} (ty : TyX c.K H x (.type t)) (e : PySem.W.kitOne c.K (.type t) (.type T) = some b) (q : Q (.bl b) H) : RC c (.builtin "isinstance") [x, .ty T] H Q :=
  rc_of (r := rIsi c.K) (fun X h => by rw [← h.K]; exact call_isi) ⟨x, _, _, _, b, rfl, .ty T, ty, e, q⟩
/-- a def with defaults -/
structure DcV (c : Md) (x : Str) (ps : List Str) (dvs : List V) (k : Nat) (sp : Sp) : Prop where
  ex : ∃ (f : Addr) (fd : FuncData) (ds : List Value), FnG c.prog c.w c.K c.mg c.base noX k f fd ps sp ∧ c.mg x = some (.ref f) ∧ PySem.W.keepIn c.K (.ref f) = true ∧ Binds c.K fd ps ds ∧ Vals dvs ds
theorem e_callV {Q : VK} {x : Str} {p : Pos} {e : Expr} {es : List Expr} {ps : List Str} {dvs : List V} {k : Nat} {sp : Sp} (D : DcV c.toMd x ps dvs k sp) (q : RA c (e :: es) σ H fun vs H1 => sp (vs ++ dvs) H1 Q fun _ _ _ => False) (hk : k ≤ c.k := by exact Nat.le_of_ble_eq_true rfl) (hg : c.sc.names.lookup x = some .globalImplicit := by rfl)
    (hdb : (x == ("__debug__" : Str)) = false := by decide) (he : ∀ env, starEach (e :: es) env = (false, eval e env) :: starEach es env := by intro _; rfl) (hpl : ∀ env, (backTo pos (starEach es env)).any (·.1) = false := by intro _; rfl) :
    RE c (.Call (.Name x p) (e :: es) [] pos) σ H Q := by
  obtain ⟨f, fd, ds, F, hm, hkp, hb, hv⟩ := D.ex
  refine re_of (t := tCall sp dvs (fun _ _ _ => False) (RA c (e :: es))) (fun X h => ?_) q
  refine pe_call (CX := fun _ _ _ _ _ _ => False) (k := k) (f := f) (fd := fd) (ps := ps) (ds := ds) ?_ (h.room.mono hk) (gl_of h hg) (by rw [h.mg]; exact hm) (by rw [h.K]; exact hkp) (by rw [h.K]; exact hb) hv (fun _ _ _ _ _ _ _ z => z.elim) (pa_ra h) hdb (he _) (hpl _)
  rw [h.prog, h.w, h.K, h.mg, h.base]; exact F
/-- x, y = e with a pair of data -/
theorem g_unp2 {R : L2.St → Hp → Prop} {i j : Nat} {x y : Str} {px py pt : Pos} {kt : Nat} {v : V} {d1 d2 : PyData} (hi : At c.N i x) (hj : At c.N j y) (hv : Dt c.K H v (.tuple [d1, d2])) (q : ∀ v1 v2, Dt c.K H v1 d1 → Dt c.K H v2 d2 → R ((σ.set i (some v1)).set j (some v2)) H)
    (hx : c.sc.names.lookup x = some .local ∨ (c.sc.names.lookup x = some .cell ∧ c.top = true) := by first | exact Or.inl rfl | exact Or.inr ⟨rfl, rfl⟩) (hy : c.sc.names.lookup y = some .local ∨ (c.sc.names.lookup y = some .cell ∧ c.top = true) := by first | exact Or.inl rfl | exact Or.inr ⟨rfl, rfl⟩)
    (hst : ∀ env, (assignEach [.Name x px, .Name y py] env).findIdx? (·.1) = none := by intro _; rfl) : RG c (.Tuple [.Name x px, .Name y py] kt pt) v σ H R := by
  obtain ⟨a, xs, rfl, ht, hd⟩ := hv.tupE
  obtain _ | ⟨h1, hd⟩ := hd
  obtain _ | ⟨h2, hd⟩ := hd
  cases hd
  exact g_tup ht (gs_cons (g_name hi (gs_cons (g_name hj (gs_nil (q _ _ h1 h2)) hy)) hx)) rfl (fun _ => rfl) hst
theorem g_unp3 {R : L2.St → Hp → Prop} {i j l : Nat} {x y z : Str} {px py pz pt : Pos} {kt : Nat} {v : V} {d1 d2 d3 : PyData} (hi : At c.N i x) (hj : At c.N j y) (hl : At c.N l z) (hv : Dt c.K H v (.tuple [d1, d2, d3])) (q : ∀ v1 v2 v3, Dt c.K H v1 d1 → Dt c.K H v2 d2 → Dt c.K H v3 d3 → R (((σ.set i (some v1)).set j (some v2)).set l (some v3)) H)
    (hx : c.sc.names.lookup x = some .local ∨ (c.sc.names.lookup x = some .cell ∧ c.top = true) := by first | exact Or.inl rfl | exact Or.inr ⟨rfl, rfl⟩) (hy : c.sc.names.lookup y = some .local ∨ (c.sc.names.lookup y = some .cell ∧ c.top = true) := by first | exact Or.inl rfl | exact Or.inr ⟨rfl, rfl⟩) (hz : c.sc.names.lookup z = some .local ∨ (c.sc.names.lookup z = some .cell ∧ c.top = true) := by first | exact Or.inl rfl | exact Or.inr ⟨rfl, rfl⟩)
    (hst : ∀ env, (assignEach [.Name x px, .Name y py, .Name z pz] env).findIdx? (·.1) = none := by intro _; rfl) : RG c (.Tuple [.Name x px, .Name y py, .Name z pz] kt pt) v σ H R := by
  obtain ⟨a, xs, rfl, ht, hd⟩ := hv.tupE
  obtain _ | ⟨h1, hd⟩ := hd
  obtain _ | ⟨h2, hd⟩ := hd
  obtain _ | ⟨h3, hd⟩ := hd
  cases hd
  exact g_tup ht (gs_cons (g_name hi (gs_cons (g_name hj (gs_cons (g_name hl (gs_nil (q _ _ _ h1 h2 h3)) hz)) hy)) hx)) rfl (fun _ => rfl) hst
end
end G

namespace G
open PySem PySem.Spec PyProof.Rows L2
/-- a tuple's object as the built-in makes it -/
def BareT (ob : Obj) : Prop := ob.cls = .type "tuple" ∧ ob.dict = none
/-- none, or a tuple of data whose object is known to be bare -/
def Fz (K : PySem.W.Frag) (H : Hp) (v : V) (d : PyData) : Prop := (v = .non ∧ d = .none) ∨ ∃ a ob us ds, v = .ref a ∧ d = .tuple ds ∧ H a = some (.frz ob (.tup us)) ∧ BareT ob ∧ DtAll K H us ds
theorem Fz.mono {K : PySem.W.Frag} {H H' : Hp} {v : V} {d : PyData} (e : Tp H H') (h : Fz K H v d) : Fz K H' v d := by
  rcases h with h | ⟨a, ob, us, ds, h1, h2, h3, h4, h5⟩
  · exact .inl h
  · exact .inr ⟨a, ob, us, ds, h1, h2, e.f _ _ _ h3, h4, h5.mono e⟩
theorem Fz.dt {K : PySem.W.Frag} {H : Hp} {v : V} {d : PyData} (h : Fz K H v d) : Dt K H v d := by
  rcases h with ⟨rfl, rfl⟩ | ⟨a, ob, us, ds, rfl, rfl, h3, h4, h5⟩
  · exact .non
  · exact .tup (.inl (.inr ⟨ob, h3⟩)) h5
theorem Fz.tup {K : PySem.W.Frag} {H : Hp} {v : V} {ds : List PyData} (h : Fz K H v (.tuple ds)) : ∃ a ob us, v = .ref a ∧ H a = some (.frz ob (.tup us)) ∧ BareT ob ∧ DtAll K H us ds := by
  rcases h with ⟨_, h⟩ | ⟨a, ob, us, es, h1, h2, h3⟩
  · cases h
  · cases h2
    exact ⟨a, ob, us, h1, h3⟩
section
variable {X : Cx}
theorem cr_tupF : CallR X (.type "tuple") (fun vs H Q => ∃ l zs, vs = [.ref l] ∧ SqL X.K H l zs ∧ ∀ t ob, H t = none → BareT ob → Q (.ref t) (upd H t (.frz ob (.tup zs)))) := by
  rintro pins s σ H vs us Q I rv ⟨l, zs, rfl, hl, k⟩
  obtain ⟨w, rfl, rw0⟩ := vals1 rv
  cases rw0
  obtain ⟨ws, rz, plain, short⟩ := I.list hl
  have same := rz.length
  refine call_tuple_list plain.isList (fun hp kept => ?_) (by rw [List.size_toArray] <;> omega)
  have J : Inv X pins σ H { s with heap := hp } := I.kept (t' := s.toks) kept
  refine ⟨.ref hp.objs.size, _, J.laid (o := .frz { cls := .type "tuple", data := .seq ws.toArray } (.tup zs)) (t' := s.toks) (h' := hp.push { cls := .type "tuple", data := .seq ws.toArray }) (fun b o e => Heap.get?_push_of_some _ e) (Nat.le_refl _) ?_, rfl, k _ _ (J.hok.fresh (Nat.le_refl _)) ⟨rfl, rfl⟩⟩
  exact ⟨Heap.get?_push_size _ rfl, short, ws, rz, IsTup.new _ _⟩
end
section
variable {c : Cd} {σ : L2.St} {H : Hp} {Q : VK} {pos : Pos}
theorem rc_tupF {l : Addr} {ys : List V} {ds : List PyData} (hl : SqL c.K H l ys) (hd : DtAll c.K H ys ds) (q : ∀ v H2, Same H H2 → Dt c.K H2 v (.tuple ds) → Fz c.K H2 v (.tuple ds) → Q v H2) : RC c (.type "tuple") [.ref l] H Q :=
  rc_of (r := fun vs H Q => ∃ l zs, vs = [.ref l] ∧ SqL c.K H l zs ∧ ∀ t ob, H t = none → BareT ob → Q (.ref t) (upd H t (.frz ob (.tup zs)))) (fun X h => by rw [← h.K]; exact cr_tupF) ⟨l, ys, rfl, hl, fun t ob hn hb => q _ _ (same_new hn) (.tup (.inl (.inr ⟨ob, upd_same⟩)) (hd.mono (tp_same (same_new hn)))) (.inr ⟨t, ob, ys, ds, rfl, rfl, upd_same, hb, hd.mono (tp_same (same_new hn))⟩)⟩
/-- a def that changes nothing and answers with none or a bare tuple -/
def spZ (R : List PyData → PyData → Prop) (K : PySem.W.Frag) : Sp := fun vs H Q _ => ∃ ds d, DtAll K H vs ds ∧ R ds d ∧ ∀ v H', Same H H' → Dt K H' v d → Fz K H' v d → Q v H'
theorem e_callZ {x : Str} {p : Pos} {e : Expr} {es : List Expr} {ps : List Str} {k : Nat} {R : List PyData → PyData → Prop} (D : Dc c.toMd x ps k (spZ R c.K)) (q : RA c (e :: es) σ H fun vs H1 => ∃ ds d, DtAll c.K H1 vs ds ∧ R ds d ∧ ∀ v H', Same H1 H' → Dt c.K H' v d → Fz c.K H' v d → Q v H') (hk : k ≤ c.k := by exact Nat.le_of_ble_eq_true rfl) (hg : c.sc.names.lookup x = some .globalImplicit := by rfl)
    (hdb : (x == ("__debug__" : Str)) = false := by decide) (he : ∀ env, starEach (e :: es) env = (false, eval e env) :: starEach es env := by intro _; rfl) (hpl : ∀ env, (backTo pos (starEach es env)).any (·.1) = false := by intro _; rfl) :
    RE c (.Call (.Name x p) (e :: es) [] pos) σ H Q := e_call D q hk hg hdb he hpl
end
end G

open PySem L2 G
local macro_rules | `(tactic| tm_at "at") => `(tactic| (first | with_reducible exact At.z | (with_reducible apply At.s; tm_at "at")))
local macro_rules | `(tactic| tm_at "tp") => `(tactic| (first
  | exact Tp.refl _
  | assumption
  | exact tp_same (by assumption)
  | exact Kp.t (by assumption)
  | (refine Tp.trans ?_ (tp_same (by assumption)); tm_at "tp")
  | (refine Tp.trans ?_ (Kp.t (by assumption)); tm_at "tp")
  | (refine Tp.trans ?_ (tp_same (same_new (by assumption))); tm_at "tp")))
local macro_rules | `(tactic| tm_at "same") => `(tactic| (first
  | exact Same.refl _
  | assumption
  | (refine Same.trans ?_ (by assumption); tm_at "same")
  | (refine Same.trans ?_ (same_new (by assumption)); tm_at "same")))
local macro_rules | `(tactic| tm_at "dt") => `(tactic| (first
  | assumption
  | exact Dt.int _ | exact Dt.str _ | exact Dt.bl _ | exact Dt.non
  | (refine Dt.mono ?_ (by assumption); tm_at "tp")))
local macro_rules | `(tactic| tm_at "dts") => `(tactic| (first
  | exact DtAll.nil
  | (with_reducible apply DtAll.cons; tm_at "dt"; tm_at "dts")))
local macro_rules | `(tactic| tm_at "s") => `(tactic| first
  | (refine gRE ?_; first | refine e_var (by tm_at "at") ?_ | refine e_int ?_ | refine e_str ?_ | refine e_non ?_ | refine e_bl ?_ | refine e_bin ?_ | refine e_cmp ?_ | refine e_chain ?_ | refine e_dgetS ?_ | refine e_sliceS ?_ | refine e_slice ?_ | refine e_ix ?_ | refine e_not ?_ | refine e_bo1 ?_ | refine e_or ?_ | refine e_and ?_ | refine e_un ?_ | refine e_if ?_ | refine e_callB (id := "isinstance") (by with_reducible exact Bl.isinst (by assumption)) (by decide +kernel) ?_ | refine e_bltn (v := .ty "int") (u := .type "int") (by with_reducible exact Bl.int (by assumption)) (by decide +kernel) rfl ?_ | refine e_bltn (v := .ty "str") (u := .type "str") (by with_reducible exact Bl.str (by assumption)) (by decide +kernel) rfl ?_ | refine e_bltn (v := .ty "bool") (u := .type "bool") (by with_reducible exact Bl.bool (by assumption)) (by decide +kernel) rfl ?_ | refine e_callT (T := "int") (by with_reducible exact Bl.int (by assumption)) (by decide +kernel) ?_ | refine e_callB (id := "len") (by with_reducible exact Bl.len (by assumption)) (by decide +kernel) ?_ | refine e_callB (id := "max") (by with_reducible exact Bl.max (by assumption)) (by decide +kernel) ?_ | refine e_callB (id := "min") (by with_reducible exact Bl.min (by assumption)) (by decide +kernel) ?_ | refine e_callT (T := "tuple") (by with_reducible exact Bl.tuple (by assumption)) (by decide +kernel) ?_ | refine e_callT (T := "dict") (by with_reducible exact Bl.dict (by assumption)) (by decide +kernel) ?_ | refine e_callB (id := "sorted") (by with_reducible exact Bl.sorted (by assumption)) (by decide +kernel) ?_ | refine e_callT (T := "list") (by with_reducible exact Bl.list (by assumption)) (by decide +kernel) ?_)
  | (refine gRA ?_; first | refine a_cons ?_ | refine a_nil ?_)
  | (refine gRX ?_; first | refine rx_int (by tm_at "dt") (by rfl) ?_ | refine rx_str (by tm_at "dt") (by rfl) ?_ | refine rx_bl (by tm_at "dt") (by rfl) ?_)
  | (refine gRQ ?_; first | refine ro_eqI ?_ | refine ro_eqS ?_ | refine ro_eqB ?_ | refine ro_neI ?_ | refine ro_lt ?_ | refine ro_le ?_ | refine ro_gt ?_ | refine ro_ge ?_ | refine ro_isN ?_ | refine ro_notN ?_)
  | (refine gRS ?_; first | refine s_ret ?_ | refine s_if ?_ | refine s_retN ?_ | refine s_dputS ?_ | refine s_par2 (by tm_at "at") (by tm_at "at") ?_ | refine s_par3 (by tm_at "at") (by tm_at "at") (by tm_at "at") ?_ | refine s_set (by tm_at "at") ?_)
  | (refine gRT ?_; first | refine t_cmp ?_ | refine t_chain ?_ | refine t_not ?_ | refine t_w (e := .BoolOp _ _ _) ?_)
  | (refine gRW ?_; first | refine w_and ?_ | refine w_or ?_ | refine w_and1 ?_ | refine w_or1 ?_)
  | (refine gRO ?_; first | refine ro_add ?_ | refine ro_sub ?_)
  | (refine gRC ?_; first | refine rc_max2 ?_ | refine rc_min2 ?_ | refine rc_intI ?_ | refine rc_intB ?_)
  | (refine gRG ?_; first | refine g_name (by tm_at "at") ?_)
  | (refine gRPo ?_; first | refine p_none ?_ | refine p_some ?_)
  | (refine gRU ?_; first | refine ru_neg ?_)
  | with_reducible refine ⟨_, rfl, ?_⟩
  | with_reducible refine ifT rfl ?_)
local macro_rules | `(tactic| tm_at "run") => `(tactic| repeat tm_at "s")
local macro_rules | `(tactic| tm_at "go") => `(tactic| repeat (first | tm_at "s" | (refine gRB ?_; first | refine b_one ?_ | refine b_cons ?_ | refine b_nil ?_)))

namespace K
open PySem L2 G
variable {M : Md}
def preDraw : List PyData → Prop := fun ds => ∃ m : Int, ds = [.int m] ∧ 0 < m ∧ m < 1000
def rDraw : List PyData → PyData → Prop := fun ds d => ∃ m r : Int, ds = [.int m] ∧ d = .int r ∧ 0 ≤ r ∧ r < m
theorem ok_draw {f fd} (F : Fun M.K "_law_draw" "_law_draw" s__law_draw f fd) (b : Bl M) : FnG M.prog M.w M.K M.mg M.base CX0 1 f fd ["_law_feed_here", "_law_many"] (spD preDraw rDraw M.K) := by
  refine fn_ok F sc__law_draw (spD_len (n := 1) (by rintro ds ⟨m, rfl, _⟩; rfl)) (fun H vs Q E h => ?_)
  obtain ⟨fp, cl, rest, ds, rfl, ⟨ns, at0, left, count, h1, h2, h3⟩, hds, ⟨m, rfl, m0, m1⟩, k⟩ := h
  obtain _ | ⟨hm, hds⟩ := hds
  cases hds
  cases hm
  have ncl : cl ≠ fp := fun e => by rw [e, h1] at h2; cases h2
  tm_at "go"
  refine ⟨_, _, _, rfl, h1, fkv_3, ?_⟩
  tm_at "run"
  refine ⟨_, _, rfl, h1, by rw [fkv_len]; decide, ?_⟩
  rw [fput_3]
  have k1 : Kp fp H (upd H fp (.dK (fkv (.ref cl) at0 left (count + 1)))) := kp_fd h1
  have g1 : (upd H fp (.dK (fkv (.ref cl) at0 left (count + 1)))) fp = _ := upd_same
  generalize upd H fp (.dK (fkv (.ref cl) at0 left (count + 1))) = H1 at *
  tm_at "go"
  refine ⟨_, _, _, rfl, g1, fkv_2, ?_⟩
  tm_at "run"
  refine ifd (fun c1 => ?_) (fun c1 => ?_)
  · tm_at "go"
    refine ⟨_, _, _, rfl, g1, fkv_2, ?_⟩
    tm_at "run"
    refine ro_mod m0 ?_
    tm_at "go"
    refine ⟨_, _, _, rfl, g1, fkv_2, ?_⟩
    tm_at "run"
    refine ro_div m0 (by omega) ?_
    tm_at "run"
    refine ⟨_, _, rfl, g1, by rw [fkv_len]; decide, ?_⟩
    rw [fput_2]
    have k2 := k1.trans (kp_fd (o' := .dK (fkv (.ref cl) at0 (left / m) (count + 1))) g1)
    have n2 := k2.k cl _ ncl h2
    tm_at "go"
    refine k (.int (left % m)) _ _ ⟨m, _, rfl, rfl, Int.emod_nonneg _ (by omega), Int.emod_lt_of_pos _ m0⟩ k2 ⟨ns, _, _, _, upd_same, n2, h3⟩ (.int _)
  tm_at "go"
  refine ⟨_, _, _, rfl, g1, fkv_1, ?_⟩
  tm_at "go"
  refine ⟨_, _, rfl, g1, by rw [fkv_len]; decide, ?_⟩
  rw [fput_1]
  have k2 : Kp fp H (upd H1 fp (.dK (fkv (.ref cl) (at0 + 1) left (count + 1)))) := k1.trans (kp_fd g1)
  have g2 : (upd H1 fp (.dK (fkv (.ref cl) (at0 + 1) left (count + 1)))) fp = _ := upd_same
  generalize upd H1 fp (.dK (fkv (.ref cl) (at0 + 1) left (count + 1))) = H2 at *
  have n2 := k2.k cl _ ncl h2
  refine b_cut (fun σ1 H3 => Same H2 H3 ∧ ∃ cell : Int, σ1 = [some (.ref fp), some (.int m), none, some (.int at0), some (.int cell), none]) ?_ ?_
  · tm_at "run"
    refine ⟨_, _, _, rfl, g2, fkv_0, ?_⟩
    refine e_lst ?_
    tm_at "run"
    refine ⟨by decide, fun pe hpe => ?_⟩
    have s3 : Same H2 (upd H2 pe (.lst [])) := same_new hpe
    have g3 : (upd H2 pe (.lst [])) pe = some (.lst []) := upd_same
    generalize upd H2 pe (.lst []) = H3 at *
    refine ro_neD (.lst (SqL.of (s3 _ _ n2)) (dpInts ns)) (.lst (SqL.of g3) .nil) (shInts ns) (by decide) ?_
    refine ⟨_, rfl, ifb (fun e => ?_) (fun e => ?_)⟩
    · have hn : 0 < ns.length := by
        cases ns with
        | nil => exact absurd e (by decide)
        | cons => exact Nat.succ_pos _
      tm_at "run"
      refine ⟨_, _, _, rfl, s3 _ _ g2, fkv_0, ?_⟩
      tm_at "run"
      refine ⟨_, _, _, rfl, s3 _ _ g2, fkv_0, ?_⟩
      tm_at "run"
      refine rc_lenL (SqL.of (s3 _ _ n2)) ?_
      rw [List.length_map]
      refine ro_mod (by omega) ?_
      have lt : (at0 % (ns.length : Int)).toNat < ns.length := by
        have h1 := Int.emod_nonneg at0 (show (ns.length : Int) ≠ 0 by omega)
        have h2 := Int.emod_lt_of_pos at0 (show (0 : Int) < ns.length by omega)
        omega
      refine rx_list (SqL.of (s3 _ _ n2)) (v := .int ns[(at0 % (ns.length : Int)).toNat]) ?_ ?_
      · have h1 := Int.emod_nonneg at0 (show (ns.length : Int) ≠ 0 by omega)
        refine pl_at (j := (at0 % (ns.length : Int)).toNat) (by omega) ?_
        rw [List.getElem?_map, List.getElem?_eq_getElem lt]; rfl
      · exact ⟨s3, _, rfl⟩
    · tm_at "run"
      exact ⟨s3, _, rfl⟩
  rintro _ H3 ⟨s3, cell, rfl⟩
  have k3 : Kp fp H H3 := k2.trans (kp_same s3)
  have g3 := s3 _ _ g2
  have n3 := s3 _ _ n2
  refine b_cut (fun σ1 H4 => H4 = H3 ∧ σ1 = [some (.ref fp), some (.int m), none, some (.int at0), some (.int cell), none]) ?_ ?_
  · tm_at "run"
    refine ro_pow ⟨by decide, by decide, by decide⟩ ?_
    tm_at "run"
    refine ifd (fun c2 => ?_) (fun c2 => ?_)
    · tm_at "run"
      refine ⟨_, _, _, rfl, g3, fkv_0, ?_⟩
      tm_at "run"
      refine rc_lenL (SqL.of n3) ?_
      tm_at "run"
      refine ifd (fun c3 => ?_) (fun c3 => ?_)
      · tm_at "go"
        refine ro_div m0 (by omega) ?_
        tm_at "run"
        refine ⟨_, _, rfl, g3, by rw [fkv_len]; decide, ?_⟩
        rw [fput_2]
        tm_at "go"
        refine ro_mod m0 ?_
        have k4 := k3.trans (kp_fd (o' := .dK (fkv (.ref cl) (at0 + 1) (cell / m) (count + 1))) g3)
        refine k (.int (cell % m)) _ _ ⟨m, _, rfl, rfl, Int.emod_nonneg _ (by omega), Int.emod_lt_of_pos _ m0⟩ k4 ⟨ns, _, _, _, upd_same, k4.k cl _ ncl h2, h3⟩ (.int _)
      · tm_at "go"
        exact ⟨rfl, rfl⟩
    · tm_at "go"
      exact ⟨rfl, rfl⟩
  rintro _ _ ⟨rfl, rfl⟩
  tm_at "go"
  refine ro_mod (by decide) ?_
  tm_at "go"
  refine ⟨_, _, _, rfl, g3, fkv_3, ?_⟩
  refine ro_mul (.inl ⟨by decide, by decide⟩) ?_
  tm_at "go"
  refine ro_mod (by decide) ?_
  generalize hmx : (cell % 1000000531 + 170003 * (count + 1) + 97) % 2147483353 = mx
  have b1 : 0 ≤ mx ∧ mx < 2147483353 := by rw [← hmx]; exact ⟨Int.emod_nonneg _ (by decide), Int.emod_lt_of_pos _ (by decide)⟩
  tm_at "go"
  refine ro_mul (.inl ⟨by omega, by omega⟩) ?_
  tm_at "go"
  refine ⟨_, _, _, rfl, g3, fkv_3, ?_⟩
  refine ro_mul (.inl ⟨by decide, by decide⟩) ?_
  tm_at "go"
  refine ro_mod (by decide) ?_
  generalize hmy : (mx * mx + 3700177 * (count + 1) + 61) % 2147483323 = my
  have b2 : 0 ≤ my ∧ my < 2147483323 := by rw [← hmy]; exact ⟨Int.emod_nonneg _ (by decide), Int.emod_lt_of_pos _ (by decide)⟩
  tm_at "go"
  refine ro_mul (.inl ⟨by omega, by omega⟩) ?_
  tm_at "go"
  refine ro_mul (.inl ⟨by decide, by decide⟩) ?_
  tm_at "go"
  refine ro_mod (by decide) ?_
  tm_at "go"
  refine ro_div (by decide) (by decide) ?_
  tm_at "go"
  refine ro_mod m0 ?_
  exact k (.int _) _ _ ⟨m, _, rfl, rfl, Int.emod_nonneg _ (by omega), Int.emod_lt_of_pos _ m0⟩ k3 ⟨ns, _, _, _, g3, n3, h3⟩ (.int _)
end K

namespace K
open PySem L2 G
def rowD (r : Str × Nat × Int × Int × Bool × Bool × Int) : PyData := .tuple [.str r.1, .int r.2.1, .int r.2.2.1, .int r.2.2.2.1, .bool r.2.2.2.2.1, .bool r.2.2.2.2.2.1, .int r.2.2.2.2.2.2]
abbrev Row := Str × Nat × Int × Int × Bool × Bool × Int
def width (r : Row) : Nat := max 1 r.2.1
def rWidth : List PyData → PyData → Prop := fun ds d => ∃ r : Row, ds = [rowD r] ∧ d = .int (width r)
variable {M : Md}
theorem ok_width {f fd} (F : Fun M.K "row_width" "row_width" s_row_width f fd) (b : Bl M) : FnG M.prog M.w M.K M.mg M.base CX0 1 f fd ["row"] (spF rWidth M.K) := by
  refine fn_ok F sc_row_width (fun vs H Q E h => ?_) (fun H vs Q E h => ?_)
  · obtain ⟨ds, d, h, ⟨r, rfl, _⟩, _⟩ := h
    exact h.len
  obtain ⟨ds, d, h, ⟨r, rfl, rfl⟩, k⟩ := h
  cases h with
  | cons h1 h2 =>
  cases h2
  tm_at "go"
  have e : (if ((r.2.1 : Nat) : Int) > 1 then ((r.2.1 : Nat) : Int) else 1) = ((width r : Nat) : Int) := by unfold width; split <;> omega
  rw [e]
  exact k _ _ (Same.refl _) (.int _)

def hit (r : Row) : Option Int → Int → Option Int
  | none, b => if (r.2.1 : Int) = 0 then some b else none
  | some k, b => if 0 ≤ k ∧ k < r.2.1 then some (b + k) else none
def fIdx : List Row → Str → Option Int → Int → Option Int
  | [], _, _, _ => none
  | r :: rs, nm, key, b => if r.1 = nm then hit r key b else fIdx rs nm key (b + width r)
def optD : Option Int → PyData
  | none => .none
  | some k => .int k
def cellsD (rs : List Row) : PyData := .tuple (rs.map rowD)
def rFound : List PyData → PyData → Prop := fun ds d => ∃ (rs : List Row) (nm : Str) (key : Option Int), ds = [cellsD rs, .str nm, optD key] ∧ d = optD (fIdx rs nm key 0)
theorem ok_found {f fd} (F : Fun M.K "found_index" "found_index" s_found_index f fd) (dw : Dc M "row_width" ["row"] 1 (spF rWidth M.K)) : FnG M.prog M.w M.K M.mg M.base CX0 2 f fd ["cells", "name", "key"] (spF rFound M.K) := by
  refine fn_ok F sc_found_index (fun vs H Q E h => ?_) (fun H vs Q E h => ?_)
  · obtain ⟨ds, d, h, ⟨rs, nm, key, rfl, _⟩, _⟩ := h
    exact h.len
  obtain ⟨ds, d, h, ⟨rs, nm, key, rfl, rfl⟩, k⟩ := h
  obtain _ | ⟨hc, h⟩ := h
  obtain _ | ⟨hn, h⟩ := h
  obtain _ | ⟨hk, h⟩ := h
  cases h
  cases hn
  obtain ⟨a, xs, rfl, hxs, hrs⟩ := hc.tupE
  rename_i vk
  tm_at "go"
  refine s_forT ?_
  tm_at "s"
  refine ⟨a, xs, rfl, hxs, fun i σ1 H1 => ∃ (b : Int) (v : Option V), σ1 = [some (.ref a), some (.str nm), some vk, some (.int b), v] ∧ Same H H1 ∧ fIdx rs nm key 0 = fIdx (rs.drop i) nm key b, ⟨0, _, rfl, Same.refl _, rfl⟩, ?_, ?_, ?_⟩
  · rintro i σ' H' _ ⟨b, v, rfl, s, _⟩
    exact (tp_same s).sqt hxs
  · rintro i x σ' H' hx ⟨b, v, rfl, s, e⟩
    obtain ⟨d, hd, hx'⟩ := hrs.getV hx
    rw [List.getElem?_map] at hd
    obtain ⟨r, hr, rfl⟩ := Option.map_eq_some_iff.mp hd
    have ed : rs.drop i = r :: rs.drop (i + 1) := by
      obtain ⟨h1, h2⟩ := List.getElem?_eq_some_iff.mp hr
      rw [← h2]; exact List.drop_eq_getElem_cons h1
    rw [ed] at e
    refine g_name (by tm_at "at") ?_
    tm_at "go"
    refine ifd (fun c1 => ?_) (fun c1 => ?_)
    · cases key with
      | none =>
        cases hk
        tm_at "go"
        refine ifd (fun c2 => ?_) (fun c2 => ?_)
        · tm_at "go"
          refine k _ _ s ?_
          rw [e, fIdx, if_pos c1, hit, if_pos c2]; exact .int _
        · tm_at "go"
          refine k _ _ s ?_
          rw [e, fIdx, if_pos c1, hit, if_neg c2]; exact .non
      | some kk =>
        cases hk
        tm_at "go"
        refine ifd (fun c2 => ?_) (fun c2 => ?_)
        · tm_at "go"
          refine ifd (fun c3 => ?_) (fun c3 => ?_)
          · tm_at "go"
            refine k _ _ s ?_
            rw [e, fIdx, if_pos c1, hit, if_pos ⟨c2, c3⟩]; exact .int _
          · tm_at "go"
            refine k _ _ s ?_
            rw [e, fIdx, if_pos c1, hit, if_neg fun z => c3 z.2]; exact .non
        · tm_at "go"
          refine k _ _ s ?_
          rw [e, fIdx, if_pos c1, hit, if_neg fun z => c2 z.1]; exact .non
    · tm_at "go"
      refine e_callF dw ?_
      tm_at "go"
      refine ⟨_, _, by tm_at "dts", ⟨r, rfl, rfl⟩, fun v' H2 s2 hv => ?_⟩
      cases hv
      tm_at "go"
      refine ⟨_, _, rfl, s.trans s2, ?_⟩
      rw [e, fIdx, if_neg c1]
  · rintro σ' H' ⟨b, v, rfl, s, e⟩
    tm_at "go"
    refine k _ _ s ?_
    rw [e, List.drop_eq_nil_of_le (by have := hrs.len; rw [List.length_map] at this; omega)]
    exact .non

def total (rs : List Row) : Nat := (rs.map width).sum
def pairD (r : Row) : PyData := .tuple [.int r.2.2.1, .int r.2.2.2.1]
def rngs (rs : List Row) : List PyData := rs.flatMap fun r => List.replicate (width r) (pairD r)
theorem rngs_len : ∀ rs : List Row, (rngs rs).length = total rs
  | [] => rfl
  | r :: rs => by
    have := rngs_len rs
    simp only [rngs, total, List.flatMap_cons, List.length_append, List.length_replicate, List.map_cons, List.sum_cons] at *
    omega
theorem rngs_snoc {rs : List Row} {i : Nat} {r : Row} (h : rs[i]? = some r) : rngs (rs.take (i + 1)) = rngs (rs.take i) ++ List.replicate (width r) (pairD r) := by
  obtain ⟨h1, rfl⟩ := List.getElem?_eq_some_iff.mp h
  rw [List.take_succ_eq_append_getElem h1, rngs, List.flatMap_append]
  simp [rngs]
theorem total_take (rs : List Row) (i : Nat) : total (rs.take i) ≤ total rs := by
  induction rs generalizing i with
  | nil => simp
  | cons r rs ih =>
    cases i with
    | zero => simp [total]
    | succ i =>
      have := ih i
      simp only [total, List.take_succ_cons, List.map_cons, List.sum_cons] at *
      omega
theorem width_le {rs : List Row} {i : Nat} {r : Row} (h : rs[i]? = some r) : total (rs.take i) + width r ≤ total rs := by
  have h1 := total_take rs (i + 1)
  have h2 := congrArg List.length (rngs_snoc h)
  rw [rngs_len, List.length_append, rngs_len, List.length_replicate] at h2
  omega
theorem dt_rep {K : PySem.W.Frag} {H : Hp} {v : V} {d : PyData} (h : Dt K H v d) : ∀ n : Nat, DtAll K H (List.replicate n v) (List.replicate n d)
  | 0 => .nil
  | n + 1 => .cons h (dt_rep h n)
def rRanges : List PyData → PyData → Prop := fun ds d => ∃ rs : List Row, ds = [cellsD rs] ∧ total rs ≤ 500 ∧ d = .tuple (rngs rs)
theorem ok_ranges {f fd} (F : Fun M.K "cell_ranges" "cell_ranges" s_cell_ranges f fd) (b : Bl M) (dw : Dc M "row_width" ["row"] 1 (spF rWidth M.K)) : FnG M.prog M.w M.K M.mg M.base CX0 2 f fd ["cells"] (spF rRanges M.K) := by
  refine fn_ok F sc_cell_ranges (fun vs H Q E h => ?_) (fun H vs Q E h => ?_)
  · obtain ⟨ds, d, h, ⟨rs, rfl, _⟩, _⟩ := h
    exact h.len
  obtain ⟨ds, d, h, ⟨rs, rfl, hl, rfl⟩, k⟩ := h
  obtain _ | ⟨hc, h⟩ := h
  cases h
  obtain ⟨a, xs, rfl, hxs, hrs⟩ := hc.tupE
  have hle := hrs.len
  rw [List.length_map] at hle
  tm_at "go"
  refine e_lstD ?_
  tm_at "go"
  refine ⟨by decide, fun l0 H0 s0 n0 g0 => ?_⟩
  tm_at "go"
  refine s_forT ?_
  tm_at "s"
  refine ⟨a, xs, rfl, (tp_same s0).sqt hxs, fun i σ1 H1 => ∃ (l : Addr) (us : List V) (v : Option V), σ1 = [some (.ref a), some (.ref l), v] ∧ Same H H1 ∧ H1 l = some (.lst us) ∧ DtAll M.K H1 us (rngs (rs.take i)), ⟨l0, [], _, rfl, s0, g0, .nil⟩, ?_, ?_, ?_⟩
  · rintro i σ' H' _ ⟨l, us, v, rfl, s, _⟩
    exact (tp_same s).sqt hxs
  · rintro i x σ' H' hx ⟨l, us, v, rfl, s, hl1, hu⟩
    obtain ⟨d, hd, hx'⟩ := hrs.getV hx
    rw [List.getElem?_map] at hd
    obtain ⟨r, hr, rfl⟩ := Option.map_eq_some_iff.mp hd
    have hw := width_le hr
    have hul := hu.len
    rw [rngs_len] at hul
    tm_at "go"
    refine e_lstD ?_
    tm_at "go"
    refine e_tupD ?_
    tm_at "go"
    refine tupend (by tm_at "dts") (Nat.le_of_ble_eq_true rfl) fun vp H2 s2 hp => ?_
    tm_at "go"
    refine ⟨(Nat.le_of_ble_eq_true rfl), fun l2 H3 s3 n3 g3 => ?_⟩
    tm_at "go"
    refine e_callF dw ?_
    tm_at "go"
    refine ⟨_, _, by tm_at "dts", ⟨r, rfl, rfl⟩, fun v' H4 s4 hv => ?_⟩
    cases hv
    refine ro_rep (s4 _ _ g3) (by omega) (Nat.le_of_ble_eq_true rfl) fun l5 H5 s5 n5 g5 => ?_
    have e5 : (List.replicate (((width r : Nat) : Int)).toNat [vp]).flatten = List.replicate (width r) vp := by
      rw [Int.toNat_natCast]
      induction width r with
      | zero => rfl
      | succ n ih => rw [List.replicate_succ, List.replicate_succ, List.flatten_cons, ih]; rfl
    rw [e5] at g5
    have s25 := s2.trans (s3.trans (s4.trans s5))
    refine ro_cat (s25 _ _ hl1) g5 (by rw [List.length_replicate]; omega) fun l6 H6 s6 n6 g6 => ?_
    refine ⟨l6, _, _, rfl, s.trans (s25.trans s6), g6, ?_⟩
    rw [rngs_snoc hr]
    exact (hu.mono (tp_same (s25.trans s6))).app (dt_rep (hp.mono (tp_same (s3.trans (s4.trans (s5.trans s6))))) _)
  · rintro σ' H' ⟨l, us, v, rfl, s, hl1, hu⟩
    rw [hle, List.take_length] at hu
    tm_at "go"
    refine rc_tupL (.of hl1) hu fun v2 H2 s2 h2 => ?_
    exact k _ _ (s.trans s2) h2
end K

namespace K
open PySem L2 G
variable {M : Md}
def rLRanges : List PyData → List PyData → Prop := fun ds es => ∃ rs : List Row, ds = [cellsD rs] ∧ total rs ≤ 500 ∧ es = rngs rs
theorem ok_lranges {f fd} (F : Fun M.K "_law_ranges" "_law_ranges" s__law_ranges f fd) (b : Bl M) : FnG M.prog M.w M.K M.mg M.base CX0 1 f fd ["_law_rows_here"] (spL rLRanges M.K) := by
  refine fn_ok F sc__law_ranges (fun vs H Q E h => ?_) (fun H vs Q E h => ?_)
  · obtain ⟨ds, d, h, ⟨rs, rfl, _⟩, _⟩ := h
    exact h.len
  obtain ⟨ds, d, h, ⟨rs, rfl, hl, rfl⟩, k⟩ := h
  obtain _ | ⟨hc, h⟩ := h
  cases h
  obtain ⟨a, xs, rfl, hxs, hrs⟩ := hc.tupE
  have hle := hrs.len
  rw [List.length_map] at hle
  tm_at "go"
  refine e_lstD ?_
  tm_at "go"
  refine ⟨by decide, fun l H0 s0 n0 g0 => ?_⟩
  tm_at "go"
  refine s_forT ?_
  tm_at "s"
  refine ⟨a, xs, rfl, (tp_same s0).sqt hxs, fun i σ1 H1 => ∃ (us : List V) (v : Option V), σ1 = [some (.ref a), some (.ref l), v] ∧ Same H H1 ∧ H1 l = some (.lst us) ∧ DtAll M.K H1 us (rngs (rs.take i)), ⟨[], _, rfl, s0, g0, .nil⟩, ?_, ?_, ?_⟩
  · rintro i σ' H' _ ⟨us, v, rfl, s, _⟩
    exact (tp_same s).sqt hxs
  · rintro i x σ' H' hx ⟨us, v, rfl, s, hl1, hu⟩
    obtain ⟨d, hd, hx'⟩ := hrs.getV hx
    rw [List.getElem?_map] at hd
    obtain ⟨r, hr, rfl⟩ := Option.map_eq_some_iff.mp hd
    have hw := width_le hr
    have hul := hu.len
    rw [rngs_len] at hul
    tm_at "go"
    refine s_expr ?_
    refine e_ext ?_
    tm_at "go"
    refine ⟨l, _, rfl, hl1, ?_⟩
    tm_at "go"
    refine e_lstD ?_
    tm_at "go"
    refine e_tupD ?_
    tm_at "go"
    refine tupend (by tm_at "dts") (Nat.le_of_ble_eq_true rfl) fun vp H2 s2 hp => ?_
    tm_at "go"
    refine ⟨(Nat.le_of_ble_eq_true rfl), fun l2 H3 s3 n3 g3 => ?_⟩
    tm_at "go"
    have e : (if ((r.2.1 : Nat) : Int) > 1 then ((r.2.1 : Nat) : Int) else 1) = ((width r : Nat) : Int) := by unfold width; split <;> omega
    rw [e]
    refine ro_rep g3 (by omega) (Nat.le_of_ble_eq_true rfl) fun l5 H5 s5 n5 g5 => ?_
    have e5 : (List.replicate (((width r : Nat) : Int)).toNat [vp]).flatten = List.replicate (width r) vp := by
      rw [Int.toNat_natCast]
      induction width r with
      | zero => rfl
      | succ n ih => rw [List.replicate_succ, List.replicate_succ, List.flatten_cons, ih]; rfl
    rw [e5] at g5
    have s25 := s2.trans (s3.trans s5)
    have k6 := kp_upd (o' := .lst (us ++ List.replicate (width r) vp)) (s25 _ _ hl1) (fun _ e => nomatch e) (fun _ _ e => nomatch e)
    refine ⟨l5, _, _, rfl, s25 _ _ hl1, g5, by rw [List.length_replicate]; omega, ?_⟩
    refine ⟨_, _, rfl, same_mut (s.trans s25) n0, upd_same, ?_⟩
    rw [rngs_snoc hr]
    exact (hu.mono ((tp_same s25).trans k6.t)).app (dt_rep (hp.mono ((tp_same (s3.trans s5)).trans k6.t)) _)
  · rintro σ' H' ⟨us, v, rfl, s, hl1, hu⟩
    rw [hle, List.take_length] at hu
    tm_at "go"
    exact k _ _ _ s n0 hl1 hu

def preMenu : List PyData → Prop := fun ds => ds = []
def menus : List (List Str) := [["a", "at", "i", "x"], ["big", "if", "t", "when"], ["c", "rule", "set", "y"], ["b", "not", "s", "zzzzzzzz"]]
def rMenu : List PyData → PyData → Prop := fun ds d => ∃ m ∈ menus, d = .tuple (m.map .str)
theorem ok_menu {f fd} (F : Fun M.K "_law_menu" "_law_menu" s__law_menu f fd) (b : Bl M) (dd : Dc M "_law_draw" ["_law_feed_here", "_law_many"] 1 (spD preDraw rDraw M.K)) : FnG M.prog M.w M.K M.mg M.base CX0 2 f fd ["_law_feed_here"] (spD preMenu rMenu M.K) := by
  refine fn_ok F sc__law_menu (spD_len (n := 0) (by rintro ds rfl; rfl)) (fun H vs Q E h => ?_)
  obtain ⟨fp, cl, rest, ds, rfl, hf, hds, rfl, k⟩ := h
  cases hds
  tm_at "go"
  refine e_lstD ?_
  tm_at "go"
  refine e_tupD ?_
  tm_at "go"
  refine tupend (by tm_at "dts") (Nat.le_of_ble_eq_true rfl) fun v1 H1 s1 h1 => ?_
  tm_at "go"
  refine e_tupD ?_
  tm_at "go"
  refine tupend (by tm_at "dts") (Nat.le_of_ble_eq_true rfl) fun v2 H2 s2 h2 => ?_
  tm_at "go"
  refine e_tupD ?_
  tm_at "go"
  refine tupend (by tm_at "dts") (Nat.le_of_ble_eq_true rfl) fun v3 H3 s3 h3 => ?_
  tm_at "go"
  refine ⟨(Nat.le_of_ble_eq_true rfl), fun l H4 s4 n4 g4 => ?_⟩
  tm_at "go"
  refine s_expr ?_
  refine e_ext ?_
  tm_at "go"
  refine ⟨l, _, rfl, g4, ?_⟩
  refine e_lstD ?_
  tm_at "go"
  refine e_tupD ?_
  tm_at "go"
  refine tupend (by tm_at "dts") (Nat.le_of_ble_eq_true rfl) fun v5 H5 s5 h5 => ?_
  tm_at "go"
  refine ⟨(Nat.le_of_ble_eq_true rfl), fun l6 H6 s6 n6 g6 => ?_⟩
  have s06 := s1.trans (s2.trans (s3.trans (s4.trans (s5.trans s6))))
  have k7 := kp_upd (o' := .lst ([v1, v2, v3] ++ [v5])) ((s5.trans s6) _ _ g4) (fun _ e => nomatch e) (fun _ _ e => nomatch e)
  refine ⟨l6, _, _, rfl, (s5.trans s6) _ _ g4, g6, (Nat.le_of_ble_eq_true rfl), ?_⟩
  have f7 := hf.same (same_mut (o := .lst ([v1, v2, v3] ++ [v5])) s06 (same_none (s1.trans (s2.trans s3)) n4))
  tm_at "go"
  refine e_callD dd ?_
  tm_at "go"
  refine ⟨fp, cl, _, _, rfl, f7, by tm_at "dts", ⟨4, rfl, by decide, by decide⟩, ?_⟩
  rintro d v H8 ⟨m, r, hm, rfl, r0, r1⟩ k8 f8 hv
  cases hm
  cases hv
  have nl : l ≠ fp := ne_feed hf (s1.trans (s2.trans s3)) n4
  have g8 := k8.k l _ nl (upd_same (o := .lst ([v1, v2, v3] ++ [v5])))
  have t8 := k7.t.trans k8.t
  refine rx_pick (ds := menus.map fun m => .tuple (m.map .str)) (.of g8) (.cons (h1.mono ((tp_same (s2.trans (s3.trans (s4.trans (s5.trans s6))))).trans t8)) (.cons (h2.mono ((tp_same (s3.trans (s4.trans (s5.trans s6)))).trans t8)) (.cons (h3.mono ((tp_same (s4.trans (s5.trans s6))).trans t8)) (.cons (h5.mono ((tp_same s6).trans t8)) .nil)))) r0 (by show r < 4; omega) fun v d hd hv => ?_
  rw [List.getElem?_map] at hd
  obtain ⟨m, hm, rfl⟩ := Option.map_eq_some_iff.mp hd
  exact k _ _ _ ⟨m, List.mem_of_getElem? hm, rfl⟩ ((kp_mut (kp_same s06) (same_none (s1.trans (s2.trans s3)) n4)).trans k8) f8 hv

def rPower : List PyData → PyData → Prop := fun ds d => ∃ (b : Int) (n : Nat), ds = [.int b, .int n] ∧ (0 ≤ b ∧ b ≤ 4) ∧ n ≤ 9 ∧ d = .int (b ^ n)
theorem ok_power {f fd} (F : Fun M.K "_law_power" "_law_power" s__law_power f fd) (b : Bl M) : FnG M.prog M.w M.K M.mg M.base CX0 1 f fd ["_law_base", "_law_many"] (spF rPower M.K) := by
  refine fn_ok F sc__law_power (fun vs H Q E h => ?_) (fun H vs Q E h => ?_)
  · obtain ⟨ds, d, h, ⟨b, n, rfl, _⟩, _⟩ := h
    exact h.len
  obtain ⟨ds, d, h, ⟨bb, n, rfl, hb, hn, rfl⟩, k⟩ := h
  obtain _ | ⟨hc, h⟩ := h
  obtain _ | ⟨hd, h⟩ := h
  cases h
  cases hc
  cases hd
  tm_at "go"
  refine s_forR1 b.range ?_
  tm_at "go"
  refine ⟨by omega, by omega, fun i σ1 H1 => H1 = H ∧ ∃ v, σ1 = [some (.int bb), some (.int n), some (.int (bb ^ i)), v], ⟨rfl, _, by rw [Int.pow_zero]; rfl⟩, ?_, ?_⟩
  · rintro i σ' _ hi ⟨rfl, v, rfl⟩
    tm_at "go"
    refine ro_mul (.inr ⟨by omega, by omega⟩) ?_
    exact ⟨rfl, some (.int i), by rw [Int.pow_succ]; rfl⟩
  · rintro σ' _ ⟨rfl, v, rfl⟩
    rw [Int.toNat_natCast]
    tm_at "go"
    exact k _ _ (Same.refl _) (.int _)

/-! states -/
abbrev Rng := Int × Int
def rngD (p : Rng) : PyData := .tuple [.int p.1, .int p.2]
def rg (rs : List Row) : List Rng := rs.flatMap fun r => List.replicate (width r) (r.2.2.1, r.2.2.2.1)
theorem rngs_eq (rs : List Row) : rngs rs = (rg rs).map rngD := by
  unfold rngs rg
  induction rs with
  | nil => rfl
  | cons r rs ih =>
    rw [List.flatMap_cons, List.flatMap_cons, List.map_append, ih, List.map_replicate]
    rfl
abbrev St1 := List Int
def stD (s : St1) : PyData := .tuple (s.map .int)
def span (p : Rng) : Nat := (p.2 + 1 - p.1).toNat
def widen (acc : List St1) (p : Rng) : List St1 := acc.flatMap fun o => (List.range (span p)).map fun t : Nat => (o ++ [p.1 + (t : Int)] : St1)
def statesOf (ps : List Rng) : List St1 := ps.foldl widen [[]]
def many (ps : List Rng) : Nat := (ps.map span).foldl (· * ·) 1
theorem flat_len {α : Type} (n : Nat) (f : α → List St1) (h : ∀ a, (f a).length = n) : ∀ l : List α, (l.flatMap f).length = l.length * n
  | [] => by simp
  | a :: l => by rw [List.flatMap_cons, List.length_append, h, flat_len n f h l, List.length_cons, Nat.succ_mul, Nat.add_comm]
theorem widen_len (acc : List St1) (p : Rng) : (widen acc p).length = acc.length * span p := flat_len _ _ (fun _ => by simp) _
theorem foldl_len (ps : List Rng) : ∀ acc : List St1, (ps.foldl widen acc).length = (ps.map span).foldl (· * ·) acc.length := by
  induction ps with
  | nil => intro acc; rfl
  | cons p ps ih => intro acc; rw [List.foldl_cons, ih, widen_len, List.map_cons, List.foldl_cons]
theorem states_len (ps : List Rng) : (statesOf ps).length = many ps := foldl_len ps [[]]
theorem states_snoc {ps : List Rng} {i : Nat} {p : Rng} (h : ps[i]? = some p) : statesOf (ps.take (i + 1)) = widen (statesOf (ps.take i)) p := by
  obtain ⟨h1, rfl⟩ := List.getElem?_eq_some_iff.mp h
  rw [List.take_succ_eq_append_getElem h1, statesOf, List.foldl_append]
  rfl
theorem foldl_le (ns : List Nat) (h : ∀ n ∈ ns, 1 ≤ n) : ∀ m, m ≤ ns.foldl (· * ·) m := by
  induction ns with
  | nil => intro m; exact Nat.le_refl _
  | cons n ns ih =>
    intro m
    have h1 := h n (List.mem_cons_self ..)
    exact Nat.le_trans (Nat.le_mul_of_pos_right m h1) (ih (fun k hk => h k (List.mem_cons_of_mem _ hk)) _)
theorem many_take {ps : List Rng} (h : ∀ p ∈ ps, 1 ≤ span p) (i : Nat) : many (ps.take i) ≤ many ps := by
  have e : ps.map span = (ps.take i).map span ++ (ps.drop i).map span := by rw [← List.map_append, List.take_append_drop]
  unfold many
  rw [e, List.foldl_append]
  refine foldl_le _ (fun n hn => ?_) _
  obtain ⟨p, hp, rfl⟩ := List.mem_map.mp hn
  exact h p (List.mem_of_mem_drop hp)
theorem fold_mem (ps : List Rng) : ∀ (acc : List St1) (n : Nat), (∀ o ∈ acc, o.length = n) → ∀ o ∈ ps.foldl widen acc, o.length = n + ps.length := by
  induction ps with
  | nil => intro acc n h o ho; exact h o ho
  | cons p ps ih =>
    intro acc n h o ho
    have := ih (widen acc p) (n + 1) (fun o' ho' => by
      obtain ⟨o2, h2, h3⟩ := List.mem_flatMap.mp ho'
      obtain ⟨t, _, rfl⟩ := List.mem_map.mp h3
      rw [List.length_append, h o2 h2]; rfl) o ho
    rw [List.length_cons]; omega
theorem states_mem {ps : List Rng} {o : St1} (h : o ∈ statesOf ps) : o.length = ps.length := by
  have := fold_mem ps [[]] 0 (fun o h => by rw [List.mem_singleton.mp h]; rfl) o h
  omega
theorem widen_snoc {acc : List St1} {j : Nat} {o : St1} {p : Rng} (h : acc[j]? = some o) : widen (acc.take (j + 1)) p = widen (acc.take j) p ++ (List.range (span p)).map fun t : Nat => (o ++ [p.1 + (t : Int)] : St1) := by
  obtain ⟨h1, rfl⟩ := List.getElem?_eq_some_iff.mp h
  rw [List.take_succ_eq_append_getElem h1, widen, List.flatMap_append]
  simp [widen]
theorem rg_len (rs : List Row) : (rg rs).length = total rs := by rw [← rngs_len, rngs_eq, List.length_map]
/-- what is asked of the rows of a law's cells -/
structure Small (rs : List Row) : Prop where
  tot : total rs ≤ 10
  sp : ∀ p ∈ rg rs, 1 ≤ span p ∧ -10 ≤ p.1 ∧ p.2 ≤ 10
  many : many (rg rs) ≤ 256
def rStates : List PyData → List PyData → Prop := fun ds es => ∃ rs : List Row, ds = [cellsD rs] ∧ Small rs ∧ es = (statesOf (rg rs)).map stD
theorem ok_states {f fd} (F : Fun M.K "_law_states" "_law_states" s__law_states f fd) (b : Bl M) (dr : Dc M "_law_ranges" ["_law_rows_here"] 1 (spL rLRanges M.K)) : FnG M.prog M.w M.K M.mg M.base CX0 2 f fd ["_law_rows_here"] (spL rStates M.K) := by
  refine fn_ok F sc__law_states (fun vs H Q E h => ?_) (fun H vs Q E h => ?_)
  · obtain ⟨ds, d, h, ⟨rs, rfl, _⟩, _⟩ := h
    exact h.len
  obtain ⟨ds, d, h, ⟨rs, rfl, sm, rfl⟩, k⟩ := h
  obtain _ | ⟨hc, h⟩ := h
  cases h
  tm_at "go"
  refine e_lstD ?_
  tm_at "go"
  refine e_tupD ?_
  tm_at "go"
  refine tupend .nil (Nat.le_of_ble_eq_true rfl) fun v0 H0 s0 h0 => ?_
  tm_at "go"
  refine ⟨(Nat.le_of_ble_eq_true rfl), fun l1 H1 s1 n1 g1 => ?_⟩
  tm_at "go"
  refine s_forL ?_
  refine e_callL dr ?_
  tm_at "go"
  refine ⟨_, _, by tm_at "dts", ⟨rs, rfl, Nat.le_trans sm.tot (by decide), rfl⟩, fun l2 us H2 s2 n2 g2 hu => ?_⟩
  have s02 := s0.trans (s1.trans s2)
  refine ⟨l2, us, rfl, .of g2, fun i σ1 H' => ∃ (lf : Addr) (fs : List V) (v2 v3 v4 v5 : Option V), σ1 = [_, some (.ref lf), v2, v3, v4, v5, none] ∧ H lf = none ∧ Same H2 H' ∧ H' lf = some (.lst fs) ∧ DtAll M.K H' fs ((statesOf ((rg rs).take i)).map stD), ⟨l1, _, _, _, _, _, rfl, same_none s0 n1, Same.refl _, s2 _ _ g1, .cons (h0.mono (tp_same (s1.trans s2))) .nil⟩, ?_, ?_, ?_⟩
  · rintro i σ' H' _ ⟨lf, fs, v2, v3, v4, v5, rfl, nf, s, _⟩
    exact .of (s _ _ g2)
  · rintro i x σ' H3 hx ⟨lf, fs, v2, v3, v4, v5, rfl, nf, s3, g3, h3⟩
    rw [rngs_eq] at hu
    obtain ⟨d, hd, hx'⟩ := hu.getV hx
    rw [List.getElem?_map] at hd
    obtain ⟨pr, hp, rfl⟩ := Option.map_eq_some_iff.mp hd
    obtain ⟨ap, xp, rfl, htp, hdp⟩ := (hx'.mono (tp_same s3)).tupE
    obtain _ | ⟨e1, hdp⟩ := hdp
    obtain _ | ⟨e2, hdp⟩ := hdp
    cases hdp
    cases e1
    cases e2
    refine g_tup htp (gs_cons (g_name (by tm_at "at") (gs_cons (g_name (by tm_at "at") (gs_nil ?_))))) 
    tm_at "go"
    refine e_lstD ?_
    tm_at "go"
    refine ⟨(Nat.le_of_ble_eq_true rfl), fun l4 H4 s4 n4 g4 => ?_⟩
    tm_at "go"
    refine s_forL ?_
    tm_at "go"
    have ws := widen_len (statesOf ((rg rs).take i)) pr
    refine ⟨lf, fs, rfl, .of (s4 _ _ g3), fun j σ1 H' => ∃ (ws : List V) (v5 : Option V), σ1 = [_, some (.ref lf), some (.int pr.1), some (.int pr.2), some (.ref l4), v5, none] ∧ Same H3 H' ∧ H' l4 = some (.lst ws) ∧ DtAll M.K H' ws ((widen ((statesOf ((rg rs).take i)).take j) pr).map stD), ⟨[], _, rfl, s4, g4, .nil⟩, ?_, ?_, ?_⟩
    · rintro j σ' H' _ ⟨ws, v5, rfl, s, _⟩
      exact .of (s _ _ g3)
    · rintro j y σ' H5 hy ⟨ws, v5, rfl, s5, g5, h5⟩
      obtain ⟨d, hd, hy'⟩ := h3.getV hy
      rw [List.getElem?_map] at hd
      obtain ⟨o, ho, rfl⟩ := Option.map_eq_some_iff.mp hd
      have spn := sm.sp pr (List.mem_of_getElem? hp)
      refine g_name (by tm_at "at") ?_
      tm_at "go"
      refine s_expr ?_
      refine e_ext ?_
      tm_at "go"
      refine ⟨l4, ws, rfl, g5, ?_⟩
      refine e_lc (own := [("_law_value", 6)]) (Blk.of (N := N__law_states) (sc := defScope s__law_states) rfl rfl (by decide +kernel)) ?_
      refine lcR2_F (fun t => some (stD (o ++ [t]))) b.range ?_
      tm_at "go"
      refine ⟨pr.1, pr.2 + 1, rfl, rfl, by unfold span at spn; omega, by unfold span at spn; omega, fun t H' ht sH => ?_, fun p us6 H6 s6 n6 g6 h6 => ?_⟩
      · refine g_name (by tm_at "at") ⟨rfl, rfl, ts_nil ⟨Same.refl _, ift ?_⟩⟩
        tm_at "go"
        refine e_tupD ?_
        tm_at "go"
        refine tupend (by tm_at "dts") (Nat.le_of_ble_eq_true rfl) fun vp H2 s2 hp => ?_
        have ol : o.length ≤ 100 := by
          have h1 := states_mem (List.mem_of_getElem? ho)
          have h2 : ((rg rs).take i).length ≤ (rg rs).length := by rw [List.length_take]; omega
          have h3 := sm.tot
          rw [rg_len] at h2
          omega
        refine ro_catT (hy'.mono (tp_same (s5.trans (sH.trans s2)))) hp (by simp; omega) fun v9 H9 s9 h9 => ?_
        refine ⟨s2.trans s9, _, rfl, ?_⟩
        rw [stD, List.map_append]
        exact h9
      · have k6 := kp_upd (o' := .lst (ws ++ us6)) (s6 _ _ g5) (fun _ e => nomatch e) (fun _ _ e => nomatch e)
        have lw := h5.len
        have lu := h6.len
        refine ⟨p, _, _, rfl, s6 _ _ g5, g6, ?_, ?_⟩
        · have b1 : (widen ((statesOf ((rg rs).take i)).take j) pr).length ≤ 256 := by
            rw [widen_len, List.length_take]
            refine Nat.le_trans (Nat.mul_le_mul_right _ (Nat.min_le_right _ _)) ?_
            rw [← widen_len, ← states_snoc hp, states_len]
            exact Nat.le_trans (many_take (fun p hp => (sm.sp p hp).1) _) sm.many
          have b2 := List.length_filterMap_le (fun t : Nat => some (stD (o ++ [pr.1 + (t : Int)]))) (List.range (pr.2 + 1 - pr.1).toNat)
          rw [List.length_range] at b2
          rw [List.length_map] at lw
          omega
        · refine ⟨_, _, rfl, same_mut (s5.trans s6) n4, upd_same, ?_⟩
          rw [widen_snoc ho, List.map_append]
          refine (h5.mono ((tp_same s6).trans k6.t)).app ?_
          have h6' := h6.mono k6.t
          rw [List.filterMap_eq_map'] at h6'
          rw [List.map_map]
          exact h6'
    · rintro σ' H5 ⟨ws, v5, rfl, s5, g5, h5⟩
      tm_at "go"
      have l3 := h3.len
      rw [l3, List.length_map, List.take_length, ← states_snoc hp] at h5
      exact ⟨l4, ws, _, _, _, _, rfl, same_none s02 (same_none s3 n4), s3.trans s5, g5, h5⟩
  · rintro σ' H3 ⟨lf, fs, v2, v3, v4, v5, rfl, nf, s3, g3, h3⟩
    tm_at "go"
    have l2 := hu.len
    rw [l2, rngs_len, ← rg_len, List.take_length] at h3
    exact k _ _ _ (s02.trans s3) nf g3 h3
end K

namespace K
open PySem L2 G
variable {M : Md}
theorem dtAll_mem {K : PySem.W.Frag} {H : Hp} {xs : List V} {ds : List PyData} (h : DtAll K H xs ds) {y : V} (hy : y ∈ xs) : ∃ d ∈ ds, Dt K H y d := by
  obtain ⟨i, hi⟩ := List.mem_iff_getElem?.mp hy
  obtain ⟨d, h1, h2⟩ := h.getV hi
  exact ⟨d, List.mem_of_getElem? h1, h2⟩
theorem dtAll_pick {K : PySem.W.Frag} {H : Hp} {xs : List V} {ds : List PyData} (h : DtAll K H xs ds) : ∀ ys : List V, (∀ y ∈ ys, y ∈ xs) → ∃ es, DtAll K H ys es ∧ ∀ e ∈ es, e ∈ ds
  | [], _ => ⟨[], .nil, fun _ h => nomatch h⟩
  | y :: ys, hy => by
    obtain ⟨d, hd, h1⟩ := dtAll_mem h (hy y (List.mem_cons_self ..))
    obtain ⟨es, h2, h3⟩ := dtAll_pick h ys fun z hz => hy z (List.mem_cons_of_mem _ hz)
    refine ⟨d :: es, .cons h1 h2, fun e he => ?_⟩
    rcases List.mem_cons.mp he with rfl | he
    · exact hd
    · exact h3 e he
/-- some of the states -/
def spSome (K : PySem.W.Frag) : Sp := fun vs H Q _ => ∃ a xs ds m, vs = [.ref a, .int m] ∧ (1 ≤ m ∧ m ≤ 1000) ∧ H a = some (.lst xs) ∧ DtAll K H xs ds ∧ ds.length ≤ 1000 ∧
  ∀ l us es H', Same H H' → H l = none → H' l = some (.lst us) → DtAll K H' us es → (∀ e ∈ es, e ∈ ds) → es.length ≤ 2 * ds.length → Q (.ref l) H'
def mea (s : Int) : Nat := if s % 6 = 0 then 1 else if s % 6 = 2 then 3 else if s % 6 = 3 then 2 else if s % 6 = 4 then 1 else 0
theorem mea_lt {s : Int} (h : s % 2 = 0 ∨ s % 3 = 0) : mea (s + 1) < mea s := by
  unfold mea
  have h1 : s % 6 = 0 ∨ s % 6 = 2 ∨ s % 6 = 3 ∨ s % 6 = 4 := by omega
  rcases h1 with e | e | e | e
  · rw [if_neg (by omega), if_neg (by omega), if_neg (by omega), if_neg (by omega), if_pos e]; decide
  · rw [if_neg (by omega), if_neg (by omega), if_pos (by omega), if_neg (by omega), if_pos e]; decide
  · rw [if_neg (by omega), if_neg (by omega), if_neg (by omega), if_pos (by omega), if_neg (by omega), if_neg (by omega), if_pos e]; decide
  · rw [if_neg (by omega), if_neg (by omega), if_neg (by omega), if_neg (by omega), if_neg (by omega), if_neg (by omega), if_neg (by omega), if_pos e]; decide
theorem ok_some {f fd} (F : Fun M.K "_law_some" "_law_some" s__law_some f fd) (b : Bl M) : FnG M.prog M.w M.K M.mg M.base CX0 1 f fd ["_law_states_now", "_law_most"] (spSome M.K) := by
  refine fn_ok F sc__law_some (fun vs H Q E h => ?_) (fun H vs Q E h => ?_)
  · obtain ⟨a, xs, ds, m, rfl, _⟩ := h
    rfl
  obtain ⟨a, xs, ds, m, rfl, hm, ha, hd, hl, k⟩ := h
  have hle := hd.len
  tm_at "go"
  refine rc_lenL (.of ha) ?_
  tm_at "go"
  refine ro_div (by omega) (by omega) ?_
  tm_at "go"
  have q0 : 0 ≤ (xs.length : Int) / m := Int.ediv_nonneg (by omega) (by omega)
  refine s_while (fun n σ1 H1 => H1 = H ∧ ∃ s : Int, 1 ≤ s ∧ n = mea s ∧ σ1 = [some (.ref a), some (.int m), some (.int s)]) (mea (1 + (xs.length : Int) / m)) ⟨rfl, _, by omega, rfl, rfl⟩ ?_
  · rintro n σ1 _ ⟨rfl, s, s1, rfl, rfl⟩
    tm_at "go"
    refine ro_mod (by decide) ?_
    tm_at "go"
    refine ifd (fun c1 => ?_) (fun c1 => ?_)
    · refine ift ?_
      tm_at "go"
      exact ⟨_, mea_lt (.inl c1), rfl, _, by omega, rfl, rfl⟩
    · tm_at "go"
      refine ro_mod (by decide) ?_
      tm_at "go"
      refine ifd (fun c2 => ?_) (fun c2 => ?_)
      · tm_at "go"
        exact ⟨_, mea_lt (.inr c2), rfl, _, by omega, rfl, rfl⟩
      · tm_at "go"
        refine ⟨a, xs, rfl, .of ha, fun e => ?_, fun p ys H5 s5 n5 g5 m5 l5 => ?_⟩
        · cases e; omega
        tm_at "go"
        refine rsl_list (.of (s5 _ _ ha)) fun p6 H6 s6 n6 g6 => ?_
        have l6 := cutV_length xs (some (-1)) none
        refine ro_cat (s6 _ _ g5) g6 (by omega) fun p7 H7 s7 n7 g7 => ?_
        obtain ⟨es, h7, m7⟩ := dtAll_pick (hd.mono (tp_same (s5.trans (s6.trans s7)))) (ys ++ cutV xs (some (-1)) none) (fun y hy => by
          rcases List.mem_append.mp hy with hy | hy
          · exact m5 y hy
          · exact List.mem_of_mem_drop (List.mem_of_mem_take hy))
        have l7 := h7.len
        rw [List.length_append] at l7
        exact k _ _ es _ (s5.trans (s6.trans s7)) (same_none (s5.trans s6) n7) g7 h7 m7 (by omega)
end K

namespace G
open PySem PySem.Spec PyProof.Rows L2
theorem iff0 {A B : Prop} (b : B) : if false = true then A else B := b
section
variable {c : Cd} {σ : L2.St} {H : Hp} {Q : VK} {pos : Pos} {x y : V}
def cutD {α : Type} (xs : List α) (lo hi : Option Int) : List α := (xs.drop (HT.sIx xs.length 0 lo)).take (HT.sIx xs.length xs.length hi - HT.sIx xs.length 0 lo)
theorem rsl_tup {ds : List PyData} {lo hi : Option Int} (hx : Dt c.K H x (.tuple ds)) (q : ∀ v H2, Same H H2 → Dt c.K H2 v (.tuple (cutD ds lo hi)) → Q v H2) : RSl c x lo hi H Q := by
  obtain ⟨a, xs, rfl, ht, hd⟩ := hx.tupE
  have hl := hd.len
  have hc : DtAll c.K H (cutV xs lo hi) (cutD ds lo hi) := by
    unfold cutV cutD
    rw [hl]
    exact DtAll.take _ (DtAll.drop _ hd)
  refine rsl_of (r := rSlA c.K) (fun X h => by rw [← h.K]; exact sl_tupA) ⟨a, xs, rfl, ht, fun e => ?_, fun _ p hp => q _ _ (same_new hp) (.tup (.of upd_same) (hc.mono (tp_same (same_new hp))))⟩
  refine q _ _ (Same.refl _) ?_
  have e2 : cutD ds lo hi = ds := by
    unfold cutD
    rw [← hl, e.1, e.2]
    simp [hl]
  rw [e2]
  exact hx
end
end G
namespace K
open PySem L2 G
variable {M : Md}
section
variable {c : Cd} {σ : L2.St} {H : Hp} {Q : VK} {pos : Pos}
theorem e_draw (D : Dc c.toMd "_law_draw" ["_law_feed_here", "_law_many"] 1 (spD preDraw rDraw c.K)) {e1 e2 : Expr} {p : Pos} (q : RE c e1 σ H fun x H1 => RE c e2 σ H1 fun y H2 => ∃ (fp cl : Addr) (m : Int), x = .ref fp ∧ y = .int m ∧ (0 < m ∧ m < 1000) ∧ Feed c.K H2 fp cl ∧ ∀ r H3, 0 ≤ r → r < m → Kp fp H2 H3 → Feed c.K H3 fp cl → Q (.int r) H3)
    (hk : 1 ≤ c.k := by exact Nat.le_of_ble_eq_true rfl) (hg : c.sc.names.lookup ("_law_draw" : Str) = some .globalImplicit := by rfl) (h1 : ∀ env, starEach [e1, e2] env = (false, eval e1 env) :: starEach [e2] env := by intro _; rfl) (h2 : ∀ env, starEach [e2] env = (false, eval e2 env) :: starEach [] env := by intro _; rfl) (hpl : ∀ env, (backTo pos (starEach [e2] env)).any (·.1) = false := by intro _; rfl) :
    RE c (.Call (.Name "_law_draw" p) [e1, e2] [] pos) σ H Q := by
  refine e_callD D (a_cons (RE.mono (fun x H1 z => a_cons (RE.mono (fun y H2 z => a_nil ?_) z) h2) q) h1) hk hg (by decide) h1 hpl
  obtain ⟨fp, cl, m, rfl, rfl, hm, hf, k⟩ := z
  refine ⟨fp, cl, _, _, rfl, hf, .cons (.int m) .nil, ⟨m, rfl, hm⟩, ?_⟩
  rintro d v H3 ⟨m', r, hm', rfl, r0, r1⟩ k3 f3 hv
  cases hm'
  cases hv
  exact k r H3 r0 r1 k3 f3
end
def nameOf (r : Row) : Str := r.1
structure RowOk (r : Row) : Prop where
  size : r.2.1 ≤ 3
  lo : -2 ≤ r.2.2.1
  lh : r.2.2.1 ≤ r.2.2.2.1
  hi : r.2.2.2.1 ≤ r.2.2.1 + 3
  lo1 : r.2.2.1 ≤ 1
  fst : r.2.2.1 ≤ r.2.2.2.2.2.2 ∧ r.2.2.2.2.2.2 ≤ r.2.2.2.1
  giv : r.2.2.2.2.1 = true → r.2.2.2.2.2.2 = r.2.2.1
structure Rows3 (most : Nat) (rs : List Row) : Prop where
  ok : ∀ r ∈ rs, RowOk r
  nm : ∃ m ∈ menus, (rs.map nameOf).Sublist m
  len : rs.length = 3
  many : many (rg rs) ≤ most
def preRows : List PyData → Prop := fun ds => ∃ most : Nat, ds = [.int most] ∧ 1 ≤ most ∧ most ≤ 100
def rRows : List PyData → PyData → Prop := fun ds d => ∃ (most : Nat) (rs : List Row), ds = [.int most] ∧ d = cellsD rs ∧ Rows3 most rs
/-- within: the feed goes on, the list stays -/
structure In (K : PySem.W.Frag) (fp cl l : Addr) (us : List V) (H H' : Hp) : Prop where
  kp : Kp fp H H'
  fd : Feed K H' fp cl
  nc : l ≠ cl
  g : H' l = some (.lst us)
  n : H l = none
  ne : l ≠ fp
theorem In.draw {K : PySem.W.Frag} {fp cl l : Addr} {us : List V} {H H1 H2 : Hp} (i : In K fp cl l us H H1) (k : Kp fp H1 H2) (f : Feed K H2 fp cl) : In K fp cl l us H H2 := ⟨i.kp.trans k, f, i.nc, k.k _ _ i.ne i.g, i.n, i.ne⟩
theorem In.same {K : PySem.W.Frag} {fp cl l : Addr} {us : List V} {H H1 H2 : Hp} (i : In K fp cl l us H H1) (s : Same H1 H2) : In K fp cl l us H H2 := ⟨i.kp.trans (kp_same s), i.fd.same s, i.nc, s _ _ i.g, i.n, i.ne⟩
theorem many_app (ps qs : List Rng) : many (ps ++ qs) = many ps * many qs := by
  unfold many
  rw [List.map_append, List.foldl_append]
  have h : ∀ (ns : List Nat) (a : Nat), ns.foldl (· * ·) a = a * ns.foldl (· * ·) 1 := by
    intro ns
    induction ns with
    | nil => intro a; simp
    | cons n ns ih => intro a; rw [List.foldl_cons, List.foldl_cons, ih (a * n), ih (1 * n), Nat.one_mul, Nat.mul_assoc]
  exact h _ _
theorem many_rep (n : Nat) (p : Rng) : many (List.replicate n p) = span p ^ n := by
  induction n with
  | zero => rfl
  | succ n ih =>
    rw [List.replicate_succ, show p :: List.replicate n p = [p] ++ List.replicate n p from rfl, many_app, ih, Nat.pow_succ, Nat.mul_comm]
    congr 1
    exact Nat.one_mul _
theorem many_row (rs : List Row) (r : Row) : many (rg (rs ++ [r])) = many (rg rs) * span (r.2.2.1, r.2.2.2.1) ^ width r := by
  have : rg (rs ++ [r]) = rg rs ++ List.replicate (width r) (r.2.2.1, r.2.2.2.1) := by simp [rg, List.flatMap_append]
  rw [this, many_app, many_rep]
theorem dtInts {K : PySem.W.Frag} {H : Hp} : ∀ ns : List Int, DtAll K H (ns.map V.int) (ns.map PyData.int)
  | [] => .nil
  | n :: ns => .cons (.int n) (dtInts ns)
theorem dtStrs {K : PySem.W.Frag} {H : Hp} : ∀ ns : List Str, DtAll K H (ns.map V.str) (ns.map PyData.str)
  | [] => .nil
  | n :: ns => .cons (.str n) (dtStrs ns)
theorem cutD_sub {α : Type} (xs : List α) (lo hi : Option Int) : (cutD xs lo hi).Sublist xs := (List.take_sublist _ _).trans (List.drop_sublist _ _)
theorem cutD_map {α β : Type} (g : α → β) (xs : List α) (lo hi : Option Int) : cutD (xs.map g) lo hi = (cutD xs lo hi).map g := by
  unfold cutD
  rw [List.length_map, List.map_take, List.map_drop]
set_option maxHeartbeats 1000000 in
theorem ok_rows {f fd} (F : Fun M.K "_law_rows" "_law_rows" s__law_rows f fd) (b : Bl M) (dd : Dc M "_law_draw" ["_law_feed_here", "_law_many"] 1 (spD preDraw rDraw M.K)) (dm : Dc M "_law_menu" ["_law_feed_here"] 2 (spD preMenu rMenu M.K)) (dp : Dc M "_law_power" ["_law_base", "_law_many"] 1 (spF rPower M.K)) :
    FnG M.prog M.w M.K M.mg M.base CX0 3 f fd ["_law_feed_here", "_law_most"] (spD preRows rRows M.K) := by
  refine fn_ok F sc__law_rows (spD_len (n := 1) (by rintro ds ⟨_, rfl, _⟩; rfl)) (fun H vs Q E h => ?_)
  obtain ⟨fp, cl, rest, ds, rfl, hf, hds, ⟨most, rfl, m1, m2⟩, k⟩ := h
  obtain _ | ⟨hm, hds⟩ := hds
  cases hds
  cases hm
  tm_at "go"
  refine e_lstD ?_
  tm_at "go"
  refine ⟨by decide, fun l H1 s1 n1 g1 => ?_⟩
  tm_at "go"
  have i1 : In M.K fp cl l [] H H1 := ⟨kp_same s1, hf.same s1, ne_cl hf (Same.refl _) n1, g1, n1, ne_feed hf (Same.refl _) n1⟩
  refine s_forT ?_
  tm_at "go"
  refine e_callD dm ?_
  tm_at "go"
  refine ⟨fp, cl, _, _, rfl, i1.fd, .nil, rfl, ?_⟩
  rintro d vm H2 ⟨mn, hmn, rfl⟩ k2 f2 hvm
  tm_at "go"
  have i2 := i1.draw k2 f2
  refine e_draw dd ?_
  tm_at "go"
  refine ⟨fp, cl, _, rfl, rfl, by decide, i2.fd, fun r H3 r0 r1 k3 f3 => ?_⟩
  have i3 := i2.draw k3 f3
  tm_at "go"
  refine rsl_tup (hvm.mono k3.t) fun vn H4 s4 hvn => ?_
  have i4 := i3.same s4
  rw [cutD_map] at hvn
  have sub : (cutD mn (some r) none).Sublist mn := cutD_sub _ _ _
  have long : 3 ≤ (cutD mn (some r) none).length := by
    have h : ∀ m ∈ menus, 3 ≤ (cutD m (some 0) none).length ∧ 3 ≤ (cutD m (some 1) none).length := by decide +kernel
    have hr : r = 0 ∨ r = 1 := by omega
    rcases hr with rfl | rfl
    · exact (h mn hmn).1
    · exact (h mn hmn).2
  generalize cutD mn (some r) none = nms at *
  obtain ⟨a, xs, rfl, hxs, hns⟩ := hvn.tupE
  have hle := hns.len
  rw [List.length_map] at hle
  refine ⟨a, xs, rfl, hxs, fun i σ1 H' => ∃ (rs : List Row) (us : List V) (had : Bool) (v5 v6 v7 v8 v9 v10 v11 : Option V), σ1 = [some (.ref fp), some (.int most), some (.ref l), some (.int (many (rg rs))), some (.bl had), v5, v6, v7, v8, v9, v10, v11] ∧ Tp H4 H' ∧ In M.K fp cl l us H H' ∧ DtAll M.K H' us (rs.map rowD) ∧
    (∀ r ∈ rs, RowOk r) ∧ (rs.map nameOf).Sublist (nms.take i) ∧ rs.length = min i 3 ∧ many (rg rs) ≤ most, ⟨[], [], false, _, _, _, _, _, _, _, rfl, Tp.refl _, i4, .nil, (fun _ h => nomatch h), .slnil, rfl, m1⟩, ?_, ?_, ?_⟩
  · rintro i σ' H' _ ⟨rs, us, had, v5, v6, v7, v8, v9, v10, v11, rfl, t, _⟩
    exact t.sqt hxs
  · rintro i x σ' H5 hx ⟨rs, us, had, v5, v6, v7, v8, v9, v10, v11, rfl, t5, i5, h5, ok5, sub5, len5, many5⟩
    obtain ⟨d, hd, hx'⟩ := hns.getV hx
    rw [List.getElem?_map] at hd
    obtain ⟨nm, hnm, rfl⟩ := Option.map_eq_some_iff.mp hd
    cases hx'
    refine g_name (by tm_at "at") ?_
    refine b_cut (fun σ1 H' => ∃ sz : Nat, sz ≤ 3 ∧ σ1 = [some (.ref fp), some (.int most), some (.ref l), some (.int (many (rg rs))), some (.bl had), some (.str nm), some (.int sz), v7, v8, v9, v10, v11] ∧ Kp fp H5 H' ∧ In M.K fp cl l us H H') ?_ ?_
    · tm_at "go"
      refine t_val ?_
      tm_at "go"
      cases had with
      | true =>
        refine iff0 ?_
        refine iff0 ?_
        tm_at "go"
        exact ⟨0, by decide, rfl, Kp.refl _ _, i5⟩
      | false =>
        refine ift ?_
        tm_at "go"
        refine e_draw dd ?_
        tm_at "go"
        refine ⟨fp, cl, _, rfl, rfl, by decide, i5.fd, fun r6 H6 r60 r61 k6 f6 => ?_⟩
        have i6 := i5.draw k6 f6
        tm_at "go"
        refine ifd (fun c1 => ?_) (fun c1 => ?_)
        · tm_at "go"
          refine e_draw dd ?_
          tm_at "go"
          refine ⟨fp, cl, _, rfl, rfl, by decide, i6.fd, fun r7 H7 r70 r71 k7 f7 => ?_⟩
          have i7 := i6.draw k7 f7
          tm_at "go"
          exact ⟨(1 + r7).toNat, by omega, by rw [show (((1 + r7).toNat : Nat) : Int) = 1 + r7 by omega]; rfl, k6.trans k7, i7⟩
        · tm_at "go"
          exact ⟨0, by decide, rfl, k6, i6⟩
    rintro _ H6 ⟨sz, sz3, rfl, k6, i6⟩
    refine b_cut (fun σ1 H' => ∃ wd : Nat, (1 ≤ wd ∧ wd ≤ 4) ∧ σ1 = [some (.ref fp), some (.int most), some (.ref l), some (.int (many (rg rs))), some (.bl had), some (.str nm), some (.int sz), some (.int wd), v8, v9, v10, v11] ∧ Kp fp H5 H' ∧ In M.K fp cl l us H H') ?_ ?_
    · tm_at "go"
      refine e_lstD ?_
      tm_at "go"
      refine ⟨(Nat.le_of_ble_eq_true rfl), fun lw H7 s7 n7 g7 => ?_⟩
      have i7 := i6.same s7
      tm_at "go"
      refine e_draw dd ?_
      tm_at "go"
      refine ⟨fp, cl, _, rfl, rfl, by decide, i7.fd, fun r8 H8 r80 r81 k8 f8 => ?_⟩
      have i8 := i7.draw k8 f8
      have nw : lw ≠ fp := ne_feed i6.fd (Same.refl _) n7
      refine rx_pick (ds := ([2, 3, 4, 2, 1] : List Int).map .int) (.of (k8.k _ _ nw g7)) (dtInts [2, 3, 4, 2, 1]) r80 r81 fun v d hd hv => ?_
      rw [List.getElem?_map] at hd
      obtain ⟨wd, hw, rfl⟩ := Option.map_eq_some_iff.mp hd
      have hw' : wd ∈ ([2, 3, 4, 2, 1] : List Int) := List.mem_of_getElem? hw
      have hb : 1 ≤ wd ∧ wd ≤ 4 := by
        rcases List.mem_cons.mp hw' with rfl | hw'
        · decide
        rcases List.mem_cons.mp hw' with rfl | hw'
        · decide
        rcases List.mem_cons.mp hw' with rfl | hw'
        · decide
        rcases List.mem_cons.mp hw' with rfl | hw'
        · decide
        rcases List.mem_cons.mp hw' with rfl | hw'
        · decide
        cases hw'
      cases hv
      exact ⟨wd.toNat, by omega, by rw [show ((wd.toNat : Nat) : Int) = wd by omega]; rfl, k6.trans ((kp_same s7).trans k8), i8⟩
    rintro _ H7 ⟨wd, hwd, rfl, k7, i7⟩
    refine b_cut (fun σ1 H' => ∃ sz wd : Nat, sz ≤ 3 ∧ (1 ≤ wd ∧ wd ≤ 4) ∧ many (rg rs) * wd ^ max 1 sz ≤ most ∧ σ1 = [some (.ref fp), some (.int most), some (.ref l), some (.int (many (rg rs))), some (.bl had), some (.str nm), some (.int sz), some (.int wd), v8, v9, v10, v11] ∧ Kp fp H5 H' ∧ In M.K fp cl l us H H') ?_ ?_
    · tm_at "go"
      refine e_callF dp ?_
      tm_at "go"
      have e1 : (if ((sz : Nat) : Int) > 1 then ((sz : Nat) : Int) else 1) = ((max 1 sz : Nat) : Int) := by split <;> omega
      rw [e1]
      refine ⟨_, _, by tm_at "dts", ⟨wd, max 1 sz, rfl, by omega, by omega, rfl⟩, fun v H8 s8 hv => ?_⟩
      cases hv
      have i8 := i7.same s8
      refine ro_mul (.inl ⟨by omega, by omega⟩) ?_
      tm_at "go"
      have e2 : ((many (rg rs) : Nat) : Int) * ((wd : Nat) : Int) ^ max 1 sz = ((many (rg rs) * wd ^ max 1 sz : Nat) : Int) := by rw [Int.natCast_mul, Int.natCast_pow]
      rw [e2]
      refine ifd (fun c1 => ?_) (fun c1 => ?_)
      · tm_at "go"
        refine ro_mul (.inr ⟨by decide, by decide⟩) ?_
        tm_at "go"
        refine ifd (fun c2 => ?_) (fun c2 => ?_)
        · tm_at "go"
          exact ⟨0, 2, by decide, by decide, by rw [show max 1 0 = 1 from rfl, Nat.pow_one]; omega, rfl, k7.trans (kp_same s8), i8⟩
        · tm_at "go"
          exact ⟨0, 1, by decide, by decide, by rw [show max 1 0 = 1 from rfl, Nat.pow_one]; omega, rfl, k7.trans (kp_same s8), i8⟩
      · tm_at "go"
        exact ⟨sz, wd, sz3, hwd, by omega, rfl, k7.trans (kp_same s8), i8⟩
    clear sz3 hwd k6 i6 k7 i7
    clear wd sz
    rintro _ H8 ⟨sz, wd, sz3, hwd, hmany, rfl, k8, i8⟩
    refine b_cut (fun σ1 H' => ∃ (lo : Int) (gv sh : Bool), (-2 ≤ lo ∧ lo ≤ 1) ∧ σ1 = [some (.ref fp), some (.int most), some (.ref l), some (.int (many (rg rs))), some (.bl had), some (.str nm), some (.int sz), some (.int wd), some (.int lo), some (.bl gv), some (.bl sh), v11] ∧ Kp fp H5 H' ∧ In M.K fp cl l us H H') ?_ ?_
    · tm_at "go"
      refine e_draw dd ?_
      tm_at "go"
      refine ⟨fp, cl, _, rfl, rfl, by decide, i8.fd, fun r9 H9 r90 r91 k9 f9 => ?_⟩
      have i9 := i8.draw k9 f9
      tm_at "go"
      refine e_draw dd ?_
      tm_at "go"
      refine ⟨fp, cl, _, rfl, rfl, by decide, i9.fd, fun ra Ha ra0 ra1 ka fa => ?_⟩
      have ia := i9.draw ka fa
      tm_at "go"
      refine e_draw dd ?_
      tm_at "go"
      refine ⟨fp, cl, _, rfl, rfl, by decide, ia.fd, fun rb Hb rb0 rb1 kb fb => ?_⟩
      have ib := ia.draw kb fb
      tm_at "go"
      exact ⟨r9 - 2, _, _, by omega, rfl, k8.trans (k9.trans (ka.trans kb)), ib⟩
    clear k8 i8
    rintro _ H9 ⟨lo, gv, sh, hlo, rfl, k9, i9⟩
    refine b_cut (fun σ1 H' => ∃ fs : Int, (lo ≤ fs ∧ fs ≤ lo + wd - 1 ∧ (gv = true → fs = lo)) ∧ σ1 = [some (.ref fp), some (.int most), some (.ref l), some (.int (many (rg rs))), some (.bl had), some (.str nm), some (.int sz), some (.int wd), some (.int lo), some (.bl gv), some (.bl sh), some (.int fs)] ∧ Kp fp H5 H' ∧ In M.K fp cl l us H H') ?_ ?_
    · tm_at "go"
      refine t_val ?_
      tm_at "go"
      cases gv with
      | true =>
        refine ift ?_
        tm_at "go"
        exact ⟨lo, ⟨Int.le_refl _, by omega, fun _ => rfl⟩, rfl, k9, i9⟩
      | false =>
        refine iff0 ?_
        tm_at "go"
        refine e_draw dd ?_
        tm_at "go"
        refine ⟨fp, cl, _, rfl, rfl, by omega, i9.fd, fun ra Ha ra0 ra1 ka fa => ?_⟩
        tm_at "go"
        exact ⟨lo + ra, ⟨by omega, by omega, fun e => nomatch e⟩, rfl, k9.trans ka, i9.draw ka fa⟩
    clear k9 i9
    rintro _ H9 ⟨fs, hfs, rfl, k9, i9⟩
    have hul := h5.len
    rw [List.length_map] at hul
    tm_at "go"
    refine rc_lenL (.of i9.g) ?_
    tm_at "go"
    refine ifd (fun c1 => ?_) (fun c1 => ?_)
    · refine b_cut (fun σ1 H' => ∃ us', σ1 = [some (.ref fp), some (.int most), some (.ref l), some (.int (many (rg rs))), some (.bl had), some (.str nm), some (.int sz), some (.int wd), some (.int lo), some (.bl gv), some (.bl sh), some (.int fs)] ∧ Tp H4 H' ∧ In M.K fp cl l us' H H' ∧ DtAll M.K H' us' ((rs ++ [(nm, sz, lo, lo + wd - 1, gv, sh, fs)]).map rowD)) ?_ ?_
      · refine s_expr ?_
        refine e_app ?_
        tm_at "go"
        refine ⟨l, _, rfl, i9.g, ?_⟩
        refine e_tupD ?_
        tm_at "go"
        refine tupend (ds := [.str nm, .int sz, .int lo, .int (lo + wd - 1), .bool gv, .bool sh, .int fs]) (by tm_at "dts") (Nat.le_of_ble_eq_true rfl) fun v H10 s10 hv => ?_
        have i10 := i9.same s10
        have ku := kp_upd (o' := .lst (us ++ [v])) i10.g (fun _ e => nomatch e) (fun _ _ e => nomatch e)
        refine ⟨us, i10.g, by omega, us ++ [v], rfl, t5.trans (k9.t.trans ((tp_same s10).trans ku.t)), ⟨kp_mut i10.kp i10.n, i10.fd.upd i10.ne i10.nc, i10.nc, upd_same, i10.n, i10.ne⟩, ?_⟩
        · rw [List.map_append]
          exact (h5.mono (k9.t.trans ((tp_same s10).trans ku.t))).app (.cons (hv.mono ku.t) .nil)
      rintro _ Ha ⟨us', rfl, ta, ia, ha⟩
      tm_at "go"
      refine e_callF dp ?_
      tm_at "go"
      have e1 : (if ((sz : Nat) : Int) > 1 then ((sz : Nat) : Int) else 1) = ((max 1 sz : Nat) : Int) := by split <;> omega
      rw [e1]
      refine ⟨_, _, by tm_at "dts", ⟨wd, max 1 sz, rfl, by omega, by omega, rfl⟩, fun v Hb sb hv => ?_⟩
      cases hv
      have ib := ia.same sb
      refine ro_mul (.inl ⟨by omega, by omega⟩) ?_
      have e2 : ((many (rg rs) : Nat) : Int) * ((wd : Nat) : Int) ^ max 1 sz = ((many (rg rs) * wd ^ max 1 sz : Nat) : Int) := by rw [Int.natCast_mul, Int.natCast_pow]
      have e3 : many (rg (rs ++ [(nm, sz, lo, lo + wd - 1, gv, sh, fs)])) = many (rg rs) * wd ^ max 1 sz := by
        rw [many_row]
        congr 1
        show (lo + wd - 1 + 1 - lo).toNat ^ max 1 sz = _
        congr 1
        omega
      rw [e2, ← e3]
      have sub' : ((rs ++ [((nm, sz, lo, lo + wd - 1, gv, sh, fs) : Row)]).map nameOf).Sublist (nms.take (i + 1)) := by
        obtain ⟨z1, z2⟩ := List.getElem?_eq_some_iff.mp hnm
        rw [List.take_succ_eq_append_getElem z1, z2, List.map_append]
        exact sub5.append (List.Sublist.refl _)
      have ok' : ∀ r ∈ rs ++ [((nm, sz, lo, lo + wd - 1, gv, sh, fs) : Row)], RowOk r := by
        intro r hr
        rcases List.mem_append.mp hr with hr | hr
        · exact ok5 r hr
        · rw [List.mem_singleton.mp hr]
          exact ⟨sz3, hlo.1, by show lo ≤ lo + wd - 1; omega, by show lo + wd - 1 ≤ lo + 3; omega, hlo.2, ⟨hfs.1, hfs.2.1⟩, hfs.2.2⟩
      have len' : (rs ++ [((nm, sz, lo, lo + wd - 1, gv, sh, fs) : Row)]).length = min (i + 1) 3 := by rw [List.length_append, List.length_singleton]; omega
      tm_at "go"
      refine ifb (fun e => ?_) (fun e => ?_)
      · exact ⟨_, us', true, _, _, _, _, _, _, _, rfl, ta.trans (tp_same sb), ib, ha.mono (tp_same sb), ok', sub', len', by rw [e3]; exact hmany⟩
      · tm_at "go"
        exact ⟨_, us', _, _, _, _, _, _, _, _, rfl, ta.trans (tp_same sb), ib, ha.mono (tp_same sb), ok', sub', len', by rw [e3]; exact hmany⟩
    · tm_at "go"
      exact ⟨rs, us, had, _, _, _, _, _, _, _, rfl, t5.trans k9.t, i9, h5.mono k9.t, ok5, sub5.trans (List.take_sublist_take_left (Nat.le_succ i)), by omega, many5⟩
  · rintro σ' H5 ⟨rs, us, had, v5, v6, v7, v8, v9, v10, v11, rfl, t5, i5, h5, ok5, sub5, len5, many5⟩
    tm_at "go"
    refine rc_tupL (.of i5.g) h5 fun v2 H6 s6 h6 => ?_
    have i6 := i5.same s6
    refine k _ _ _ ⟨most, rs, rfl, rfl, ok5, ⟨mn, hmn, (sub5.trans (List.take_sublist _ _)).trans sub⟩, by omega, many5⟩ i6.kp i6.fd h6
end K

namespace G
open PySem PySem.Spec PyProof.Rows L2
structure Shp (n : Nat) (d : PyData) : Prop where
  lay : PyData.canLay0 d = true
  dep : PyData.depth d ≤ n
theorem shp_all {n : Nat} : ∀ {ds : List PyData}, (∀ d ∈ ds, Shp n d) → PyData.canLayAll0 ds = true ∧ PyData.depthAll ds ≤ n
  | [], _ => ⟨by simp [PyData.canLayAll0], by simp [PyData.depthAll]⟩
  | d :: ds, h => by
    have h1 := h d (List.mem_cons_self ..)
    have h2 := shp_all fun e he => h e (List.mem_cons_of_mem _ he)
    refine ⟨by simp [PyData.canLayAll0, h1.lay, h2.1], ?_⟩
    simp only [PyData.depthAll]
    have := h1.dep
    have := h2.2
    omega
theorem shp_tup {n : Nat} {ds : List PyData} (h : ∀ d ∈ ds, Shp n d) : Shp (n + 1) (.tuple ds) := by
  have := shp_all h
  exact ⟨by simp only [PyData.canLay0]; exact this.1, by simp only [PyData.depth]; omega⟩
theorem shp_lst {n : Nat} {ds : List PyData} (h : ∀ d ∈ ds, Shp n d) : Shp (n + 1) (.list ds) := by
  have := shp_all h
  exact ⟨by simp only [PyData.canLay0]; exact this.1, by simp only [PyData.depth]; omega⟩
theorem shp_int {n : Nat} (i : Int) : Shp (n + 1) (.int i) := ⟨by simp [PyData.canLay0], by simp [PyData.depth]⟩
theorem shp_bl {n : Nat} (i : Bool) : Shp (n + 1) (.bool i) := ⟨by simp [PyData.canLay0], by simp [PyData.depth]⟩
theorem shp_non {n : Nat} : Shp (n + 1) .none := ⟨by simp [PyData.canLay0], by simp [PyData.depth]⟩
theorem shp_str {n : Nat} {s : Str} (h : PyData.strOk s = true) : Shp (n + 1) (.str s) := ⟨by simp only [PyData.canLay0]; exact h, by simp [PyData.depth]⟩
theorem Shp.ok {n : Nat} {d : PyData} (h : Shp n d) (hn : n ≤ 64 := by decide) : SeqAt.shaped d = true := by
  show (PyData.canLay0 d && decide (PyData.depth d ≤ 64)) = true
  rw [h.lay, Bool.true_and]
  exact decide_eq_true (Nat.le_trans h.dep hn)
section
variable {c : Cd} {σ : L2.St} {H : Hp} {Q : VK} {pos : Pos} {x y : V}
/-- xs == [] -/
theorem ro_eqNil {p q0 : Addr} {xs : List V} {ds : List PyData} {n : Nat} (h1 : H p = some (.lst xs)) (hd : DtAll c.K H xs ds) (hs : ∀ d ∈ ds, Shp n d) (hn : n + 1 ≤ 64) (h2 : H q0 = some (.lst [])) (q : Q (.bl ds.isEmpty) H) : RQ c .Eq (.ref p) (.ref q0) H Q := by
  refine ro_eqD (.lst (SqL.of h1) hd.dp) (.lst (SqL.of h2) .nil) ((shp_lst hs).ok hn) (by decide) ?_
  cases ds with
  | nil => exact q
  | cons d ds => exact q
theorem ro_neNil {p q0 : Addr} {xs : List V} {ds : List PyData} {n : Nat} (h1 : H p = some (.lst xs)) (hd : DtAll c.K H xs ds) (hs : ∀ d ∈ ds, Shp n d) (hn : n + 1 ≤ 64) (h2 : H q0 = some (.lst [])) (q : Q (.bl (!ds.isEmpty)) H) : RQ c .NotEq (.ref p) (.ref q0) H Q := by
  refine ro_neD (.lst (SqL.of h1) hd.dp) (.lst (SqL.of h2) .nil) ((shp_lst hs).ok hn) (by decide) ?_
  cases ds with
  | nil => exact q
  | cons d ds => exact q
end
end G
namespace K
open PySem L2 G
variable {M : Md}
inductive Ex where
  | int (i : Int) | nm (s : Str) | at (t : Str) (e : Ex) | un (op : Str) (e : Ex) | bin (op : Str) (a b : Ex) | kk (op : Str) (e : Ex) (n : Int) | ite (a b d : Ex)
def Ex.d : Ex → PyData
  | .int i => .int i
  | .nm s => .str s
  | .at t e => .tuple [.str "at", .str t, e.d]
  | .un op e => .tuple [.str op, e.d]
  | .bin op a b => .tuple [.str op, a.d, b.d]
  | .kk op e n => .tuple [.str op, e.d, .int n]
  | .ite a b e => .tuple [.str "if", a.d, b.d, e.d]
def Ex.dep : Ex → Nat
  | .int _ | .nm _ => 0
  | .at _ e | .un _ e | .kk _ e _ => e.dep + 1
  | .bin _ a b => max a.dep b.dep + 1
  | .ite a b e => max a.dep (max b.dep e.dep) + 1
def bins : List Str := ["+", "-", "*", "least", "most", "=", "<", "<=", "and", "or"]
def uns : List Str := ["not", "neg"]
def kks : List Str := ["div", "mod"]
/-- an expression that fits the rows -/
def Fit (rs : List Row) : Ex → Prop
  | .int i => -1000000 ≤ i ∧ i ≤ 1000000
  | .nm s => ∃ r ∈ rs, r.1 = s ∧ r.2.1 = 0
  | .at t e => (∃ r ∈ rs, r.1 = t ∧ 0 < r.2.1) ∧ Fit rs e
  | .un op e => op ∈ uns ∧ Fit rs e
  | .bin op a b => op ∈ bins ∧ Fit rs a ∧ Fit rs b
  | .kk op e n => op ∈ kks ∧ Fit rs e ∧ (1 ≤ n ∧ n ≤ 3)
  | .ite a b e => Fit rs a ∧ Fit rs b ∧ Fit rs e
/-- rows that drawing functions are given -/
structure RowsIn (rs : List Row) : Prop where
  len : rs.length ≤ 10
  nm : ∀ r ∈ rs, PyData.strOk r.1 = true
def preLeaf : List PyData → Prop := fun ds => ∃ rs, ds = [cellsD rs] ∧ RowsIn rs
def rLeaf : List PyData → PyData → Prop := fun ds d => ∃ rs e, ds = [cellsD rs] ∧ d = Ex.d e ∧ Fit rs e ∧ e.dep = 0
def plains (rs : List Row) : List Str := (rs.filter fun r => r.2.1 == 0).map nameOf
def gPlain : PyData → Option PyData
  | .tuple (n :: .int s :: _) => if s = 0 then some n else none
  | _ => none
theorem gPlain_all (rs : List Row) : (rs.map rowD).filterMap gPlain = (plains rs).map .str := by
  induction rs with
  | nil => rfl
  | cons r rs ih =>
    unfold plains at *
    rw [List.map_cons, List.filterMap_cons, List.filter_cons]
    have e : gPlain (rowD r) = if ((r.2.1 : Nat) : Int) = 0 then some (PyData.str r.1) else none := rfl
    rw [e]
    by_cases h : r.2.1 = 0
    · rw [if_pos (by omega), if_pos (by simpa using h), List.map_cons, List.map_cons, ← ih]; rfl
    · rw [if_neg (by omega), if_neg (by simpa using h), ← ih]
theorem plains_mem {rs : List Row} {s : Str} (h : s ∈ plains rs) : ∃ r ∈ rs, r.1 = s ∧ r.2.1 = 0 := by
  obtain ⟨r, hr, rfl⟩ := List.mem_map.mp h
  obtain ⟨h1, h2⟩ := List.mem_filter.mp hr
  exact ⟨r, h1, rfl, by simpa using h2⟩
theorem leafInt (w : Int) (h : w ∈ ([0, 1, 2, -1, 3, -2, 7, 1] : List Int)) : -1000000 ≤ w ∧ w ≤ 1000000 := by
  have : ∀ w ∈ ([0, 1, 2, -1, 3, -2, 7, 1] : List Int), -1000000 ≤ w ∧ w ≤ 1000000 := by decide
  exact this w h
theorem ok_leaf {f fd} (F : Fun M.K "_law_leaf" "_law_leaf" s__law_leaf f fd) (b : Bl M) (dd : Dc M "_law_draw" ["_law_feed_here", "_law_many"] 1 (spD preDraw rDraw M.K)) :
    FnG M.prog M.w M.K M.mg M.base CX0 2 f fd ["_law_feed_here", "_law_rows_here"] (spD preLeaf rLeaf M.K) := by
  refine fn_ok F sc__law_leaf (spD_len (n := 1) (by rintro ds ⟨_, rfl, _⟩; rfl)) (fun H vs Q E h => ?_)
  obtain ⟨fp, cl, rest, ds, rfl, hf, hds, ⟨rs, rfl, ri⟩, k⟩ := h
  obtain _ | ⟨hc, hds⟩ := hds
  cases hds
  refine b_cons (s_setLc (own := [("_law_own", 3)]) (by tm_at "at") (Blk.of (N := N__law_leaf) (sc := defScope s__law_leaf) rfl rfl (by decide +kernel)) ?_)
  refine lcT_F gPlain ?_
  tm_at "go"
  refine ⟨rs.map rowD, hc, by rw [List.length_map]; exact Nat.le_trans ri.len (show 10 ≤ 1000 by decide), fun d x H' hd s hx => ?_, fun l us H1 s1 n1 g1 h1 => ?_⟩
  · obtain ⟨r, hr, rfl⟩ := List.mem_map.mp hd
    refine g_name (by tm_at "at") ⟨rfl, rfl, ts_one ?_⟩
    tm_at "go"
    refine ⟨Same.refl _, ifd (fun c1 => ?_) (fun c1 => ?_)⟩
    · tm_at "go"
      exact ⟨Same.refl _, _, by show (if _ then _ else _) = _; rw [if_pos c1], .str _⟩
    · show (if _ then _ else _) = _
      rw [if_neg c1]
  rw [gPlain_all] at h1
  have hul := h1.len
  rw [List.length_map] at hul
  tm_at "go"
  refine e_lstD ?_
  tm_at "go"
  refine ⟨(Nat.le_of_ble_eq_true rfl), fun q0 H2 s2 n2 g2 => ?_⟩
  have f2 := (hf.same s1).same s2
  have k2 : Kp fp H H2 := kp_same (s1.trans s2)
  have nl : l ≠ fp := ne_feed hf (Same.refl _) n1
  refine ro_eqNil (n := 1) (s2 _ _ g1) (h1.mono (tp_same s2)) (fun d hd => ?_) (by decide) g2 ?_
  · obtain ⟨s, hs, rfl⟩ := List.mem_map.mp hd
    obtain ⟨r, hr, rfl, _⟩ := plains_mem hs
    exact shp_str (ri.nm r hr)
  refine ⟨_, rfl, ifb (fun e => ?_) (fun e => ?_)⟩
  · refine ift ?_
    tm_at "go"
    refine e_lstD ?_
    tm_at "go"
    refine ⟨(Nat.le_of_ble_eq_true rfl), fun lw H7 s7 n7 g7 => ?_⟩
    tm_at "go"
    refine e_draw dd ?_
    tm_at "go"
    refine ⟨fp, cl, _, rfl, rfl, by decide, f2.same s7, fun r8 H8 r80 r81 k8 f8 => ?_⟩
    have nw : lw ≠ fp := ne_feed f2 (Same.refl _) n7
    refine rx_pick (ds := ([0, 1, 2, -1, 3, -2, 7, 1] : List Int).map .int) (.of (k8.k _ _ nw g7)) (dtInts [0, 1, 2, -1, 3, -2, 7, 1]) r80 r81 fun v d hd hv => ?_
    rw [List.getElem?_map] at hd
    obtain ⟨wd, hw, rfl⟩ := Option.map_eq_some_iff.mp hd
    exact k _ _ _ ⟨rs, .int wd, rfl, rfl, leafInt wd (List.mem_of_getElem? hw), rfl⟩ (k2.trans ((kp_same s7).trans k8)) f8 hv
  · tm_at "go"
    refine e_draw dd ?_
    tm_at "go"
    refine ⟨fp, cl, _, rfl, rfl, by decide, f2, fun r3 H3 r30 r31 k3 f3 => ?_⟩
    tm_at "go"
    refine ifd (fun c1 => ?_) (fun c1 => ?_)
    · have k3' := k2.trans k3
      tm_at "go"
      refine e_lstD ?_
      tm_at "go"
      refine ⟨(Nat.le_of_ble_eq_true rfl), fun lw H7 s7 n7 g7 => ?_⟩
      tm_at "go"
      refine e_draw dd ?_
      tm_at "go"
      refine ⟨fp, cl, _, rfl, rfl, by decide, f3.same s7, fun r8 H8 r80 r81 k8 f8 => ?_⟩
      have nw : lw ≠ fp := ne_feed f3 (Same.refl _) n7
      refine rx_pick (ds := ([0, 1, 2, -1, 3, -2, 7, 1] : List Int).map .int) (.of (k8.k _ _ nw g7)) (dtInts [0, 1, 2, -1, 3, -2, 7, 1]) r80 r81 fun v d hd hv => ?_
      rw [List.getElem?_map] at hd
      obtain ⟨wd, hw, rfl⟩ := Option.map_eq_some_iff.mp hd
      exact k _ _ _ ⟨rs, .int wd, rfl, rfl, leafInt wd (List.mem_of_getElem? hw), rfl⟩ (k3'.trans ((kp_same s7).trans k8)) f8 hv
    · tm_at "go"
      have g3 := k3.k _ _ nl (s2 _ _ g1)
      refine e_draw dd ?_
      tm_at "go"
      refine rc_lenL (.of g3) ?_
      have hp : 0 < (plains rs).length := by
        cases hpl : plains rs with
        | nil => rw [hpl] at e; cases e
        | cons => exact Nat.succ_pos _
      have hp2 : (plains rs).length ≤ 10 := by
        unfold plains
        rw [List.length_map]
        exact Nat.le_trans (List.length_filter_le _ _) ri.len
      refine ⟨fp, cl, _, rfl, rfl, by omega, f3, fun r8 H8 r80 r81 k8 f8 => ?_⟩
      refine rx_pick (ds := (plains rs).map .str) (.of (k8.k _ _ nl g3)) (h1.mono ((tp_same s2).trans (k3.t.trans k8.t))) r80 (by rw [List.length_map]; omega) fun v d hd hv => ?_
      rw [List.getElem?_map] at hd
      obtain ⟨wd, hw, rfl⟩ := Option.map_eq_some_iff.mp hd
      exact k _ _ _ ⟨rs, .nm wd, rfl, rfl, plains_mem (List.mem_of_getElem? hw), rfl⟩ (k2.trans (k3.trans k8)) f8 hv
end K

namespace K
open PySem L2 G
variable {M : Md}
def plan0 : List (Key × V) := [(Sum.inr "at", .str "ne"), (Sum.inr "not", .str "e"), (Sum.inr "neg", .str "e"), (Sum.inr "div", .str "ek"), (Sum.inr "mod", .str "ek"), (Sum.inr "if", .str "eee")]
def planAt (i : Nat) : List (Key × V) := (bins.take i).foldl (fun kv w => putK kv (Sum.inr w) (.str "ee")) plan0
theorem plan_len : ∀ i < 11, (planAt i).length < 1000 := by decide +kernel
theorem plan_bin : ∀ w ∈ bins, valV (planAt 10) (Sum.inr w) = some (.str "ee") := by decide +kernel
theorem plan_un : ∀ w ∈ uns, valV (planAt 10) (Sum.inr w) = some (.str "e") := by decide +kernel
theorem plan_if : valV (planAt 10) (Sum.inr "if") = some (.str "eee") := by decide +kernel
def spPlans (_ : PySem.W.Frag) : Sp := fun vs H Q _ => vs = [] ∧ ∀ p H', Same H H' → H p = none → H' p = some (.dK (planAt 10)) → Q (.ref p) H'
theorem ok_plans {f fd} (F : Fun M.K "_law_plans" "_law_plans" s__law_plans f fd) (b : Bl M) : FnG M.prog M.w M.K M.mg M.base CX0 1 f fd [] (spPlans M.K) := by
  refine fn_ok F sc__law_plans (fun vs H Q E h => by rw [h.1]; rfl) (fun H vs Q E h => ?_)
  obtain ⟨rfl, k⟩ := h
  tm_at "go"
  refine e_disp (fun X h => pps_cons (pe_re h) (pe_re h) (pps_cons (pe_re h) (pe_re h) (pps_cons (pe_re h) (pe_re h) (pps_cons (pe_re h) (pe_re h) (pps_cons (pe_re h) (pe_re h) (pps_cons (pe_re h) (pe_re h) pps_nil)))))) rfl rfl (by intro e; cases e) (by decide) ?_
  intro p hp
  simp only [tPairs]
  tm_at "go"
  refine ⟨upd_same, plan0, rfl, by decide, ?_⟩
  rw [show mergeK [] plan0 = planAt 0 by decide +kernel]
  have s1 : Same H (upd (upd H p (.dK [])) p (.dK (planAt 0))) := same_mut (same_new hp) hp
  have g1 : (upd (upd H p (.dK [])) p (.dK (planAt 0))) p = _ := upd_same
  generalize upd (upd H p (.dK [])) p (.dK (planAt 0)) = H1 at *
  tm_at "go"
  refine s_forT ?_
  refine e_tupD ?_
  tm_at "go"
  refine tupend (ds := bins.map .str) (dtStrs bins) (Nat.le_of_ble_eq_true rfl) fun v H2 s2 hv => ?_
  obtain ⟨a, xs, rfl, hxs, hns⟩ := hv.tupE
  have hle := hns.len
  rw [List.length_map] at hle
  refine ⟨a, xs, rfl, hxs, fun i σ1 H' => ∃ v1, σ1 = [some (.ref p), v1] ∧ Same H H' ∧ Tp H2 H' ∧ H' p = some (.dK (planAt i)), ⟨_, rfl, s1.trans s2, Tp.refl _, s2 _ _ g1⟩, ?_, ?_, ?_⟩
  · rintro i σ' H' _ ⟨v1, rfl, s, t, g⟩
    exact t.sqt hxs
  · rintro i x σ' H' hx ⟨v1, rfl, s, t, g⟩
    have hi : i < 10 := by
      have := (List.getElem?_eq_some_iff.mp hx).1
      rw [hle] at this
      exact this
    obtain ⟨d, hd, hx'⟩ := hns.getV hx
    rw [List.getElem?_map] at hd
    obtain ⟨w, hw, rfl⟩ := Option.map_eq_some_iff.mp hd
    cases hx'
    refine g_name (by tm_at "at") ?_
    refine b_one (s_dput ?_)
    tm_at "go"
    refine ⟨p, _, rfl, DPut.k (k := Sum.inr w) g (Nat.lt_trans (plan_len i (by omega)) (by decide)), ?_⟩
    have e : putK (planAt i) (Sum.inr w) (.str "ee") = planAt (i + 1) := by
      obtain ⟨z1, z2⟩ := List.getElem?_eq_some_iff.mp hw
      unfold planAt
      rw [List.take_succ_eq_append_getElem z1, z2, List.foldl_append]
      rfl
    rw [e]
    have ku := kp_upd (o' := .dK (planAt (i + 1))) g (fun _ e => nomatch e) (fun _ _ e => nomatch e)
    exact ⟨_, rfl, same_mut s hp, t.trans ku.t, upd_same⟩
  · rintro σ' H' ⟨v1, rfl, s, t, g⟩
    rw [hle] at g
    tm_at "go"
    exact k p H' s hp g
end K

namespace K
open PySem L2 G
variable {M : Md}
def preForm (n : Nat) : List PyData → Prop := fun ds => ∃ (rs : List Row) (deep : Int), ds = [cellsD rs, .int deep] ∧ RowsIn rs ∧ deep ≤ n
def rForm : List PyData → PyData → Prop := fun ds d => ∃ (rs : List Row) (deep : Int) (e : Ex), ds = [cellsD rs, .int deep] ∧ d = e.d ∧ Fit rs e ∧ e.dep ≤ deep.toNat
def wordsL : List Str := ["+", "-", "*", "least", "most", "=", "<", "<=", "and", "or", "not", "neg", "div", "mod", "if", "at", "at", "+"]
def tabs (rs : List Row) : List Str := (rs.filter fun r => decide (0 < r.2.1)).map nameOf
def gTab : PyData → Option PyData
  | .tuple (n :: .int s :: _) => if 0 < s then some n else none
  | _ => none
theorem gTab_all (rs : List Row) : (rs.map rowD).filterMap gTab = (tabs rs).map .str := by
  induction rs with
  | nil => rfl
  | cons r rs ih =>
    unfold tabs at *
    rw [List.map_cons, List.filterMap_cons, List.filter_cons]
    have e : gTab (rowD r) = if 0 < ((r.2.1 : Nat) : Int) then some (PyData.str r.1) else none := rfl
    rw [e]
    by_cases h : 0 < r.2.1
    · rw [if_pos (by omega), if_pos (by simpa using h), List.map_cons, List.map_cons, ← ih]; rfl
    · rw [if_neg (by omega), if_neg (by simpa using h), ← ih]
theorem tabs_mem {rs : List Row} {s : Str} (h : s ∈ tabs rs) : ∃ r ∈ rs, r.1 = s ∧ 0 < r.2.1 := by
  obtain ⟨r, hr, rfl⟩ := List.mem_map.mp h
  obtain ⟨h1, h2⟩ := List.mem_filter.mp hr
  exact ⟨r, h1, rfl, by simpa using h2⟩
theorem rowD_inj {r r' : Row} (h : rowD r = rowD r') : r = r' := by
  obtain ⟨a, b, c, d, e, f, g⟩ := r
  obtain ⟨a', b', c', d', e', f', g'⟩ := r'
  unfold rowD at h
  simp only [PyData.tuple.injEq, List.cons.injEq, PyData.str.injEq, PyData.int.injEq, PyData.bool.injEq] at h
  obtain ⟨rfl, h2, rfl, rfl, rfl, rfl, rfl, _⟩ := h
  have : b = b' := by omega
  rw [this]
theorem cellsD_inj {rs rs' : List Row} (h : cellsD rs = cellsD rs') : rs = rs' := by
  unfold cellsD at h
  rw [PyData.tuple.injEq] at h
  induction rs generalizing rs' with
  | nil =>
    cases rs' with
    | nil => rfl
    | cons => cases h
  | cons r rs ih =>
    cases rs' with
    | nil => cases h
    | cons r' rs' =>
      rw [List.map_cons, List.map_cons, List.cons.injEq] at h
      rw [rowD_inj h.1, ih h.2]
theorem inS (w : Str) (l : List Str) : inV (.str w) (l.map .str) = decide (w ∈ l) := by
  unfold inV
  rw [Bool.eq_iff_iff, List.any_eq_true, decide_eq_true_iff]
  constructor
  · rintro ⟨y, hy, h⟩
    obtain ⟨z, hz, rfl⟩ := List.mem_map.mp hy
    have : z = w := by simpa [eqV] using h
    rw [← this]; exact hz
  · intro h
    exact ⟨.str w, List.mem_map.mpr ⟨w, h, rfl⟩, by simp [eqV]⟩
theorem flatS (l : List Str) : (l.map V.str).all flatV = true := by simp [flatV]
theorem dtStrs_eq {K : PySem.W.Frag} {H : Hp} : ∀ {ws : List Str} {xs : List V}, DtAll K H xs (ws.map .str) → xs = ws.map .str
  | [], _, h => by cases h; rfl
  | w :: ws, _, h => by
    cases h with
    | cons h1 h2 =>
      cases h1
      rw [dtStrs_eq h2, List.map_cons]
theorem ro_inST {c : Cd} {H : Hp} {Q : VK} {y : V} {w : Str} {ws : List Str} (hx : Dt c.K H y (.tuple (ws.map .str))) (q : Q (.bl (decide (w ∈ ws))) H) : RQ c .In (.str w) y H Q := by
  obtain ⟨a, xs, rfl, ht, hd⟩ := hx.tupE
  obtain rfl := dtStrs_eq hd
  refine rq_of (r := rIn c.K false) (fun X h => by rw [← h.K]; exact op_in_seq) ⟨a, _, rfl, .inr ht, rfl, flatS ws, ?_⟩
  show Q (.bl (inV (.str w) (ws.map .str))) H
  rw [inS]
  exact q
theorem words_all : ∀ w ∈ wordsL, w = "at" ∨ w ∈ kks ∨ w ∈ bins ∨ w ∈ uns ∨ w = "if" := by decide +kernel
abbrev dcForm (M : Md) (m : Nat) : Prop := Dc M "_law_formula" ["_law_feed_here", "_law_rows_here", "_law_deep"] (m + 3) (spD (preForm m) rForm M.K)
set_option maxHeartbeats 2000000 in
theorem ok_form (n : Nat) {f fd} (F : Fun M.K "_law_formula" "_law_formula" s__law_formula f fd) (b : Bl M) (dd : Dc M "_law_draw" ["_law_feed_here", "_law_many"] 1 (spD preDraw rDraw M.K)) (dl : Dc M "_law_leaf" ["_law_feed_here", "_law_rows_here"] 2 (spD preLeaf rLeaf M.K)) (dp : Dc M "_law_plans" [] 1 (spPlans M.K)) (rec : ∀ m, n = m + 1 → dcForm M m) :
    FnG M.prog M.w M.K M.mg M.base CX0 (n + 3) f fd ["_law_feed_here", "_law_rows_here", "_law_deep"] (spD (preForm n) rForm M.K) := by
  refine fn_ok F sc__law_formula (spD_len (n := 2) (by rintro ds ⟨_, _, rfl, _⟩; rfl)) (fun H vs Q E h => ?_)
  obtain ⟨fp, cl, rest, ds, rfl, hf, hds, ⟨rs, deep, rfl, ri, hdeep⟩, k⟩ := h
  obtain _ | ⟨hc, hds⟩ := hds
  obtain _ | ⟨hdp, hds⟩ := hds
  cases hds
  cases hdp
  rename_i vr
  refine b_cut (fun σ1 H' => 1 ≤ deep ∧ Kp fp H H' ∧ Feed M.K H' fp cl ∧ σ1 = [some (.ref fp), some vr, some (.int deep), none, none, none, none, none]) ?_ ?_
  · tm_at "go"
    refine ifd (fun c1 => ?_) (fun c1 => ?_)
    · refine ift ?_
      tm_at "go"
      refine e_callD dl ?_
      tm_at "go"
      refine ⟨fp, cl, _, _, rfl, hf, by tm_at "dts", ⟨rs, rfl, ri⟩, ?_⟩
      rintro d v H1 ⟨rs', e, e1, rfl, fit, dep⟩ k1 f1 hv
      obtain rfl : rs = rs' := cellsD_inj (List.cons.inj e1).1
      exact k _ _ _ ⟨rs, deep, e, rfl, rfl, fit, by omega⟩ k1 f1 hv
    · tm_at "go"
      refine e_draw dd ?_
      tm_at "go"
      refine ⟨fp, cl, _, rfl, rfl, by decide, hf, fun r1 H1 r10 r11 k1 f1 => ?_⟩
      tm_at "go"
      refine ifd (fun c2 => ?_) (fun c2 => ?_)
      · tm_at "go"
        refine e_callD dl ?_
        tm_at "go"
        refine ⟨fp, cl, _, _, rfl, f1, by tm_at "dts", ⟨rs, rfl, ri⟩, ?_⟩
        rintro d v H2 ⟨rs', e, e1, rfl, fit, dep⟩ k2 f2 hv
        obtain rfl : rs = rs' := cellsD_inj (List.cons.inj e1).1
        exact k _ _ _ ⟨rs, deep, e, rfl, rfl, fit, by omega⟩ (k1.trans k2) f2 hv
      · tm_at "go"
        exact ⟨by omega, k1, f1, rfl⟩
  rintro _ H1 ⟨hd1, k1, f1, rfl⟩
  obtain ⟨m, rfl⟩ : ∃ m, n = m + 1 := ⟨n - 1, by omega⟩
  have dr := rec m rfl
  have prim : preForm m [cellsD rs, .int (deep - 1)] := ⟨rs, deep - 1, rfl, ri, by omega⟩
  tm_at "go"
  refine e_lstD ?_
  tm_at "go"
  refine ⟨(Nat.le_of_ble_eq_true rfl), fun l2 H2 s2 n2 g2 => ?_⟩
  have nl2 : l2 ≠ fp := ne_feed f1 (Same.refl _) n2
  tm_at "go"
  refine s_expr ?_
  refine e_ext ?_
  tm_at "go"
  refine ⟨l2, _, rfl, g2, ?_⟩
  refine e_lstD ?_
  tm_at "go"
  refine ⟨(Nat.le_of_ble_eq_true rfl), fun l3 H3 s3 n3 g3 => ?_⟩
  refine ⟨l3, _, _, rfl, s3 _ _ g2, g3, (Nat.le_of_ble_eq_true rfl), ?_⟩
  have s4 : Same H1 (upd H3 l2 (.lst (wordsL.map .str))) := same_mut (s2.trans s3) n2
  have g4 : (upd H3 l2 (.lst (wordsL.map .str))) l2 = _ := upd_same
  show RB _ _ _ _ (upd H3 l2 (.lst (wordsL.map .str)))
  generalize upd H3 l2 (.lst (wordsL.map .str)) = H4 at *
  refine b_cut (fun σ1 H' => ∃ (w : Str) (l6 : Addr) (us : List V), w ∈ wordsL ∧ Kp fp H1 H' ∧ Feed M.K H' fp cl ∧ H' l6 = some (.lst us) ∧ DtAll M.K H' us ((tabs rs).map .str) ∧ l6 ≠ fp ∧ σ1 = [some (.ref fp), some vr, some (.int deep), some (.ref l2), some (.str w), some (.ref l6), none, none]) ?_ ?_
  · tm_at "go"
    refine e_draw dd ?_
    tm_at "go"
    refine ⟨fp, cl, _, rfl, rfl, by decide, f1.same s4, fun r5 H5 r50 r51 k5 f5 => ?_⟩
    have g5 := k5.k _ _ nl2 g4
    refine rx_pick (ds := wordsL.map .str) (.of g5) (dtStrs wordsL) r50 r51 fun v d hd hv => ?_
    rw [List.getElem?_map] at hd
    obtain ⟨w, hw, rfl⟩ := Option.map_eq_some_iff.mp hd
    cases hv
    refine e_lc (own := [("_law_own", 6)]) (Blk.of (N := N__law_formula) (sc := defScope s__law_formula) rfl rfl (by decide +kernel)) ?_
    refine lcT_F gTab ?_
    tm_at "go"
    refine ⟨rs.map rowD, hc.mono (k1.t.trans ((tp_same s4).trans k5.t)), by rw [List.length_map]; exact Nat.le_trans ri.len (show 10 ≤ 1000 by decide), fun d x H' hd s hx => ?_, fun l6 us H6 s6 n6 g6 h6 => ?_⟩
    · obtain ⟨r, hr, rfl⟩ := List.mem_map.mp hd
      refine g_name (by tm_at "at") ⟨rfl, rfl, ts_one ?_⟩
      tm_at "go"
      refine ⟨Same.refl _, ifd (fun c1 => ?_) (fun c1 => ?_)⟩
      · tm_at "go"
        exact ⟨Same.refl _, _, by show (if _ then _ else _) = _; rw [if_pos c1], .str _⟩
      · show (if _ then _ else _) = _
        rw [if_neg c1]
    rw [gTab_all] at h6
    exact ⟨w, l6, us, List.mem_of_getElem? hw, (kp_same s4).trans (k5.trans (kp_same s6)), f5.same s6, g6, h6, ne_feed f5 (Same.refl _) n6, rfl⟩
  rintro _ H5 ⟨w, l6, us, hw, k5, f5, g6, h6, nl6, rfl⟩
  have k15 := k1.trans k5
  tm_at "go"
  refine ifd (fun c1 => ?_) (fun c1 => ?_)
  · subst c1
    refine b_cut (fun σ1 H' => 0 < (tabs rs).length ∧ Same H5 H' ∧ σ1 = [some (.ref fp), some vr, some (.int deep), some (.ref l2), some (.str "at"), some (.ref l6), none, none]) ?_ ?_
    · tm_at "go"
      refine e_lstD ?_
      tm_at "go"
      refine ⟨(Nat.le_of_ble_eq_true rfl), fun q0 H7 s7 n7 g7 => ?_⟩
      refine ro_eqNil (n := 1) (s7 _ _ g6) (h6.mono (tp_same s7)) (fun d hd => ?_) (by decide) g7 ?_
      · obtain ⟨s, hs, rfl⟩ := List.mem_map.mp hd
        obtain ⟨r, hr, rfl, _⟩ := tabs_mem hs
        exact shp_str (ri.nm r hr)
      refine ⟨_, rfl, ifb (fun e => ?_) (fun e => ?_)⟩
      · tm_at "go"
        refine e_callD dl ?_
        tm_at "go"
        refine ⟨fp, cl, _, _, rfl, f5.same s7, .cons (hc.mono (k15.t.trans (tp_same s7))) .nil, ⟨rs, rfl, ri⟩, ?_⟩
        rintro d v H8 ⟨rs', e, e1, rfl, fit, dep⟩ k8 f8 hv
        obtain rfl : rs = rs' := cellsD_inj (List.cons.inj e1).1
        exact k _ _ _ ⟨rs, deep, e, rfl, rfl, fit, by omega⟩ (k15.trans ((kp_same s7).trans k8)) f8 hv
      · tm_at "go"
        refine ⟨?_, s7, rfl⟩
        cases hpl : tabs rs with
        | nil => rw [hpl] at e; cases e
        | cons => exact Nat.succ_pos _
    rintro _ H7 ⟨hp, s7, rfl⟩
    tm_at "go"
    refine e_tupD ?_
    tm_at "go"
    refine rx_pick (ds := (tabs rs).map .str) (.of (s7 _ _ g6)) (h6.mono (tp_same s7)) (by decide) (by rw [List.length_map]; omega) fun v d hd hv => ?_
    rw [List.getElem?_map] at hd
    obtain ⟨tn, htn, rfl⟩ := Option.map_eq_some_iff.mp hd
    cases hv
    tm_at "go"
    refine e_callD dr ?_ (Nat.le_refl _)
    tm_at "go"
    refine ⟨fp, cl, _, _, rfl, f5.same s7, .cons (hc.mono (k15.t.trans (tp_same s7))) (.cons (.int _) .nil), prim, ?_⟩
    rintro d v H8 ⟨rs', deep', e, e1, rfl, fit, dep⟩ k8 f8 hv
    obtain rfl : rs = rs' := cellsD_inj (List.cons.inj e1).1
    obtain rfl : deep - 1 = deep' := PyData.int.inj (List.cons.inj (List.cons.inj e1).2).1
    tm_at "go"
    refine tupend (ds := [.str "at", .str tn, e.d]) (.cons (.str _) (.cons (.str _) (.cons hv .nil))) (Nat.le_of_ble_eq_true rfl) fun v9 H9 s9 h9 => ?_
    exact k _ _ _ ⟨rs, deep, .at tn e, rfl, rfl, ⟨tabs_mem (List.mem_of_getElem? htn), fit⟩, by show e.dep + 1 ≤ _; omega⟩ (k15.trans ((kp_same s7).trans (k8.trans (kp_same s9)))) (f8.same s9) h9
  tm_at "go"
  refine e_tupD ?_
  tm_at "go"
  refine tupend (ds := kks.map .str) (dtStrs kks) (Nat.le_of_ble_eq_true rfl) fun v6 H6 s6 hv6 => ?_
  refine ro_inST hv6 ?_
  refine ⟨_, rfl, ifd (fun c2 => ?_) (fun c2 => ?_)⟩
  · tm_at "go"
    refine e_tupD ?_
    tm_at "go"
    refine e_callD dr ?_ (Nat.le_refl _)
    tm_at "go"
    refine ⟨fp, cl, _, _, rfl, f5.same s6, .cons (hc.mono (k15.t.trans (tp_same s6))) (.cons (.int _) .nil), prim, ?_⟩
    rintro d v H8 ⟨rs', deep', e, e1, rfl, fit, dep⟩ k8 f8 hv
    obtain rfl : rs = rs' := cellsD_inj (List.cons.inj e1).1
    obtain rfl : deep - 1 = deep' := PyData.int.inj (List.cons.inj (List.cons.inj e1).2).1
    tm_at "go"
    refine e_draw dd ?_
    tm_at "go"
    refine ⟨fp, cl, _, rfl, rfl, by decide, f8, fun r9 H9 r90 r91 k9 f9 => ?_⟩
    tm_at "go"
    refine tupend (ds := [.str w, e.d, .int (1 + r9)]) (.cons (.str _) (.cons (hv.mono k9.t) (.cons (.int _) .nil))) (Nat.le_of_ble_eq_true rfl) fun v10 H10 s10 h10 => ?_
    exact k _ _ _ ⟨rs, deep, .kk w e (1 + r9), rfl, rfl, ⟨c2, fit, by omega⟩, by show e.dep + 1 ≤ _; omega⟩ (k15.trans ((kp_same s6).trans (k8.trans (k9.trans (kp_same s10))))) (f9.same s10) h10
  tm_at "go"
  refine e_tupD ?_
  tm_at "go"
  refine tupend (ds := [.str w]) (by tm_at "dts") (Nat.le_of_ble_eq_true rfl) fun v7 H7 s7 hv7 => ?_
  tm_at "go"
  have s57 := s6.trans s7
  refine e_lc (own := [("_law_way", 7)]) (Blk.of (N := N__law_formula) (sc := defScope s__law_formula) rfl rfl (by decide +kernel)) ?_
  obtain ⟨pl, hpl, hps, hend⟩ : ∃ pl : Str, valV (planAt 10) (Sum.inr w) = some (.str pl) ∧ pl.cps.size ≤ 1000 ∧ ∀ es : List Ex, es.length = pl.cps.size → (∀ e ∈ es, Fit rs e ∧ e.dep ≤ (deep - 1).toNat) → ∃ e : Ex, e.d = .tuple (.str w :: es.map Ex.d) ∧ Fit rs e ∧ e.dep ≤ deep.toNat := by
    have ex0 : ∀ es : List Ex, es.length = 1 → ∃ a, es = [a] := fun es h => by
      match es, h with
      | [a], _ => exact ⟨a, rfl⟩
    have ex1 : ∀ es : List Ex, es.length = 2 → ∃ a b, es = [a, b] := fun es h => by
      match es, h with
      | [a, b], _ => exact ⟨a, b, rfl⟩
    have ex2 : ∀ es : List Ex, es.length = 3 → ∃ a b c, es = [a, b, c] := fun es h => by
      match es, h with
      | [a, b, c], _ => exact ⟨a, b, c, rfl⟩
    rcases words_all w hw with h | h | h | h | h
    · exact absurd h c1
    · exact absurd h c2
    · refine ⟨"ee", plan_bin w h, by decide, fun es hl he => ?_⟩
      obtain ⟨a, b, rfl⟩ := ex1 es hl
      have ha := he a (by simp)
      have hb := he b (by simp)
      exact ⟨.bin w a b, rfl, ⟨h, ha.1, hb.1⟩, by show max a.dep b.dep + 1 ≤ _; omega⟩
    · refine ⟨"e", plan_un w h, by decide, fun es hl he => ?_⟩
      obtain ⟨a, rfl⟩ := ex0 es hl
      have ha := he a (by simp)
      exact ⟨.un w a, rfl, ⟨h, ha.1⟩, by show a.dep + 1 ≤ _; omega⟩
    · subst h
      refine ⟨"eee", plan_if, by decide, fun es hl he => ?_⟩
      obtain ⟨a, b, d, rfl⟩ := ex2 es hl
      have ha := he a (by simp)
      have hb := he b (by simp)
      have hd := he d (by simp)
      exact ⟨.ite a b d, rfl, ⟨ha.1, hb.1, hd.1⟩, by show max a.dep (max b.dep d.dep) + 1 ≤ _; omega⟩
  refine lc_S ?_
  refine e_dgetK ?_
  refine e_call0 dp ?_
  refine ⟨rfl, fun pd H8 s8 n8 g8 => ?_⟩
  tm_at "go"
  refine ⟨pd, _, Sum.inr w, _, rfl, g8, rfl, hpl, ?_⟩
  refine ⟨pl, rfl, hps, fun D hD => ?_⟩
  have f8 := f5.same (s57.trans s8)
  have nD : D ≠ fp := ne_feed f8 (Same.refl _) hD
  refine ⟨fun i acc H' => ∃ es : List Ex, acc.length ≤ i ∧ es.length = i ∧ Kp fp H H' ∧ Kp fp H7 H' ∧ Feed M.K H' fp cl ∧ H' D = some (.lst acc) ∧ DtAll M.K H' acc (es.map Ex.d) ∧ ∀ e ∈ es, Fit rs e ∧ e.dep ≤ (deep - 1).toNat, ?_, ?_, ?_, ?_⟩
  · have kH8 : Kp fp H _ := k15.trans (kp_same (s57.trans s8))
    exact ⟨[], Nat.le_refl _, rfl, kp_mut kH8 (kp_none kH8 hD nD), kp_mut (kp_same s8) (same_none s8 hD), f8.upd nD (ne_cl f8 (Same.refl _) hD), upd_same, .nil, fun _ h => nomatch h⟩
  · rintro i acc H' ⟨es, h, _⟩
    exact h
  · rintro i ch acc H9 hi ⟨es, hl, hle, kH, k7, f9, g9, h9, he⟩
    refine g_name (by tm_at "at") ⟨rfl, ts_nil (ift ?_)⟩
    tm_at "go"
    refine e_callD dr ?_ (Nat.le_refl _)
    tm_at "go"
    refine ⟨fp, cl, _, _, rfl, f9, .cons (hc.mono kH.t) (.cons (.int _) .nil), prim, ?_⟩
    rintro d v H10 ⟨rs', deep', e, e1, rfl, fit, dep⟩ k10 f10 hv
    obtain rfl : rs = rs' := cellsD_inj (List.cons.inj e1).1
    obtain rfl : deep - 1 = deep' := PyData.int.inj (List.cons.inj (List.cons.inj e1).2).1
    have g10 := k10.k _ _ nD g9
    have kH8 : Kp fp H _ := k15.trans (kp_same (s57.trans s8))
    have ku := kp_upd (o' := .lst (acc ++ [v])) g10 (fun _ e => nomatch e) (fun _ _ e => nomatch e)
    refine ⟨g10, es ++ [e], by rw [List.length_append]; exact Nat.succ_le_succ hl, by rw [List.length_append, hle]; rfl, kp_mut (kH.trans k10) (kp_none kH8 hD nD), kp_mut (k7.trans k10) (same_none s8 hD), f10.upd nD (ne_cl f8 (Same.refl _) hD), upd_same, ?_, ?_⟩
    · rw [List.map_append]
      exact (h9.mono (k10.t.trans ku.t)).app (.cons (hv.mono ku.t) .nil)
    · intro e' he'
      rcases List.mem_append.mp he' with he' | he'
      · exact he e' he'
      · rw [List.mem_singleton.mp he']
        exact ⟨fit, dep⟩
  · rintro acc H9 ⟨es, hl, hle, kH, k7, f9, g9, h9, he⟩
    obtain ⟨e, hed, fit, dep⟩ := hend es hle he
    tm_at "go"
    refine rc_tupL (.of g9) h9 fun v10 H10 s10 h10 => ?_
    refine ro_catT (hv7.mono (k7.t.trans (tp_same s10))) h10 (by rw [List.length_map, hle]; exact Nat.le_trans (Nat.add_le_add_left hps 1) (by decide)) fun v11 H11 s11 h11 => ?_
    exact k _ _ _ ⟨rs, deep, e, rfl, hed.symm, fit, dep⟩ (kH.trans (kp_same (s10.trans s11))) (f9.same (s10.trans s11)) h11
end K

namespace K
open PySem L2 G
variable {M : Md}
inductive Tg where
  | nm (s : Str) | at (t : Str) (e : Ex)
def Tg.d : Tg → PyData
  | .nm s => .str s
  | .at t e => .tuple [.str t, e.d]
def FitT (rs : List Row) : Tg → Prop
  | .nm s => ∃ r ∈ rs, r.1 = s ∧ r.2.1 = 0
  | .at t e => (∃ r ∈ rs, r.1 = t ∧ 0 < r.2.1) ∧ Fit rs e ∧ e.dep ≤ 2
structure Rl where
  name : Str
  guard : Ex
  as : List (Tg × Ex)
def asD (p : Tg × Ex) : PyData := .tuple [p.1.d, p.2.d]
def Rl.d (r : Rl) : PyData := .tuple [.str r.name, r.guard.d, .tuple (r.as.map asD)]
structure FitR (rs : List Row) (r : Rl) : Prop where
  nm : PyData.strOk r.name = true
  guard : Fit rs r.guard ∧ r.guard.dep ≤ 4
  len : r.as.length ≤ 10
  ne : r.as ≠ []
  as : ∀ p ∈ r.as, FitT rs p.1 ∧ Fit rs p.2 ∧ p.2.dep ≤ 2
def preGoal : List PyData → Prop := fun ds => ∃ (rs : List Row), ds = [cellsD rs] ∧ RowsIn rs ∧ 0 < rs.length
def rGoal : List PyData → PyData → Prop := fun ds d => ∃ (rs : List Row) (t : Tg), ds = [cellsD rs] ∧ d = t.d ∧ FitT rs t
theorem ok_goal {f fd} (F : Fun M.K "_law_goal" "_law_goal" s__law_goal f fd) (b : Bl M) (dd : Dc M "_law_draw" ["_law_feed_here", "_law_many"] 1 (spD preDraw rDraw M.K)) (df : dcForm M 1) :
    FnG M.prog M.w M.K M.mg M.base CX0 5 f fd ["_law_feed_here", "_law_rows_here"] (spD preGoal rGoal M.K) := by
  refine fn_ok F sc__law_goal (spD_len (n := 1) (by rintro ds ⟨_, rfl, _⟩; rfl)) (fun H vs Q E h => ?_)
  obtain ⟨fp, cl, rest, ds, rfl, hf, hds, ⟨rs, rfl, ri, hpos⟩, k⟩ := h
  obtain _ | ⟨hc, hds⟩ := hds
  cases hds
  tm_at "go"
  refine e_draw dd ?_
  tm_at "go"
  refine rc_lenT hc ?_
  have hl := ri.len
  refine ⟨fp, cl, _, rfl, rfl, by rw [List.length_map]; omega, hf, fun r1 H1 r10 r11 k1 f1 => ?_⟩
  rw [List.length_map] at r11
  refine rx_pickT (hc.mono k1.t) r10 (by rw [List.length_map]; exact r11) fun v d hd hv => ?_
  rw [List.getElem?_map] at hd
  obtain ⟨r, hr, rfl⟩ := Option.map_eq_some_iff.mp hd
  have hmem := List.mem_of_getElem? hr
  tm_at "go"
  refine ifd (fun c1 => ?_) (fun c1 => ?_)
  · tm_at "go"
    exact k _ _ _ ⟨rs, .nm r.1, rfl, rfl, r, hmem, rfl, by omega⟩ k1 f1 (.str _)
  · refine e_tupD ?_
    tm_at "go"
    refine e_callD df ?_
    tm_at "go"
    refine ⟨fp, cl, _, _, rfl, f1, by tm_at "dts", ⟨rs, 1, rfl, ri, by decide⟩, ?_⟩
    rintro d v2 H2 ⟨rs', deep', e, e1, rfl, fit, dep⟩ k2 f2 hv2
    obtain rfl : rs = rs' := cellsD_inj (List.cons.inj e1).1
    obtain rfl : 1 = deep' := PyData.int.inj (List.cons.inj (List.cons.inj e1).2).1
    tm_at "go"
    refine tupend (ds := [.str r.1, e.d]) (.cons (.str _) (.cons hv2 .nil)) (Nat.le_of_ble_eq_true rfl) fun v9 H9 s9 h9 => ?_
    exact k _ _ _ ⟨rs, .at r.1 e, rfl, rfl, ⟨r, hmem, rfl, by omega⟩, fit, Nat.le_trans dep (by decide)⟩ (k1.trans (k2.trans (kp_same s9))) (f2.same s9) h9
def preRule : List PyData → Prop := fun ds => ∃ (rs : List Row) (nm : Str), ds = [cellsD rs, .str nm] ∧ RowsIn rs ∧ 0 < rs.length ∧ PyData.strOk nm = true
def rRule : List PyData → PyData → Prop := fun ds d => ∃ (rs : List Row) (nm : Str) (r : Rl), ds = [cellsD rs, .str nm] ∧ d = r.d ∧ FitR rs r
theorem ok_rule {f fd} (F : Fun M.K "_law_rule" "_law_rule" s__law_rule f fd) (b : Bl M) (dd : Dc M "_law_draw" ["_law_feed_here", "_law_many"] 1 (spD preDraw rDraw M.K)) (df : dcForm M 2) (dg : Dc M "_law_goal" ["_law_feed_here", "_law_rows_here"] 5 (spD preGoal rGoal M.K)) :
    FnG M.prog M.w M.K M.mg M.base CX0 6 f fd ["_law_feed_here", "_law_rows_here", "_law_name"] (spD preRule rRule M.K) := by
  refine fn_ok F sc__law_rule (spD_len (n := 2) (by rintro ds ⟨_, _, rfl, _⟩; rfl)) (fun H vs Q E h => ?_)
  obtain ⟨fp, cl, rest, ds, rfl, hf, hds, ⟨rs, nm, rfl, ri, hpos, hnm⟩, k⟩ := h
  obtain _ | ⟨hc, hds⟩ := hds
  obtain _ | ⟨hn, hds⟩ := hds
  cases hds
  cases hn
  rename_i vr
  refine b_cut (fun σ1 H' => ∃ (g : Ex) (vg : V), Fit rs g ∧ g.dep ≤ 2 ∧ Dt M.K H' vg g.d ∧ Kp fp H H' ∧ Feed M.K H' fp cl ∧ σ1 = [some (.ref fp), some vr, some (.str nm), some vg, none, none]) ?_ ?_
  · tm_at "go"
    refine e_draw dd ?_
    tm_at "go"
    refine ⟨fp, cl, _, rfl, rfl, by decide, hf, fun r1 H1 r10 r11 k1 f1 => ?_⟩
    tm_at "go"
    refine ifd (fun c1 => ?_) (fun c1 => ?_)
    · tm_at "go"
      exact ⟨.int 1, _, ⟨by decide, by decide⟩, Nat.zero_le _, .int 1, k1, f1, rfl⟩
    · refine e_callD df ?_
      tm_at "go"
      refine ⟨fp, cl, _, _, rfl, f1, by tm_at "dts", ⟨rs, 2, rfl, ri, by decide⟩, ?_⟩
      rintro d v2 H2 ⟨rs', deep', e, e1, rfl, fit, dep⟩ k2 f2 hv2
      obtain rfl : rs = rs' := cellsD_inj (List.cons.inj e1).1
      obtain rfl : 2 = deep' := PyData.int.inj (List.cons.inj (List.cons.inj e1).2).1
      exact ⟨e, v2, fit, dep, hv2, k1.trans k2, f2, rfl⟩
  rintro _ H1 ⟨g, vg, gfit, gdep, hg, k1, f1, rfl⟩
  refine b_cut (fun σ1 H' => ∃ (l : Addr) (us : List V) (as : List (Tg × Ex)), (∀ p ∈ as, FitT rs p.1 ∧ Fit rs p.2 ∧ p.2.dep ≤ 2) ∧ as ≠ [] ∧ as.length ≤ 10 ∧ H' l = some (.lst us) ∧ DtAll M.K H' us (as.map asD) ∧ Kp fp H1 H' ∧ Feed M.K H' fp cl ∧ σ1 = [some (.ref fp), some vr, some (.str nm), some vg, some (.ref l), none]) ?_ ?_
  · refine s_setLc (own := [("_law_k", 5)]) (by tm_at "at") (Blk.of (N := N__law_rule) (sc := defScope s__law_rule) rfl rfl (by decide +kernel)) ?_
    refine lc_R1 b.range ?_
    tm_at "go"
    refine e_draw dd ?_
    tm_at "go"
    refine ⟨fp, cl, _, rfl, rfl, by decide, f1, fun r2 H2 r20 r21 k2 f2 => ?_⟩
    tm_at "go"
    refine ⟨by omega, fun D hD => ?_⟩
    have nD : D ≠ fp := ne_feed f2 (Same.refl _) hD
    have nC : D ≠ cl := ne_cl f2 (Same.refl _) hD
    refine ⟨fun i acc H' => ∃ as : List (Tg × Ex), acc.length ≤ i ∧ as.length = i ∧ Kp fp H1 H' ∧ Feed M.K H' fp cl ∧ H' D = some (.lst acc) ∧ DtAll M.K H' acc (as.map asD) ∧ ∀ p ∈ as, FitT rs p.1 ∧ Fit rs p.2 ∧ p.2.dep ≤ 2, ?_, ?_, ?_, ?_⟩
    · exact ⟨[], Nat.le_refl _, rfl, kp_mut k2 (kp_none k2 hD nD), f2.upd nD nC, upd_same, .nil, fun _ h => nomatch h⟩
    · rintro i acc H' ⟨as, h, _⟩
      exact h
    · rintro i acc H9 hi ⟨as, hl, hle, kH, f9, g9, h9, he⟩
      refine g_name (by tm_at "at") ⟨rfl, ts_nil (ift ?_)⟩
      refine e_tupD ?_
      refine a_cons ?_
      refine e_callD dg ?_
      tm_at "go"
      refine ⟨fp, cl, _, _, rfl, f9, .cons (hc.mono (k1.t.trans kH.t)) .nil, ⟨rs, rfl, ri, hpos⟩, ?_⟩
      rintro d va H10 ⟨rs', t, e1, rfl, fitt⟩ k10 f10 hva
      obtain rfl : rs = rs' := cellsD_inj (List.cons.inj e1).1
      tm_at "go"
      refine e_callD df ?_
      tm_at "go"
      refine ⟨fp, cl, _, _, rfl, f10, .cons (hc.mono (k1.t.trans (kH.t.trans k10.t))) (.cons (.int _) .nil), ⟨rs, 2, rfl, ri, by decide⟩, ?_⟩
      rintro d v2 H11 ⟨rs', deep', e, e1, rfl, fit, dep⟩ k11 f11 hv2
      obtain rfl : rs = rs' := cellsD_inj (List.cons.inj e1).1
      obtain rfl : 2 = deep' := PyData.int.inj (List.cons.inj (List.cons.inj e1).2).1
      tm_at "go"
      refine tupend (ds := [t.d, e.d]) (.cons (hva.mono k11.t) (.cons hv2 .nil)) (Nat.le_of_ble_eq_true rfl) fun v9 H12 s12 h12 => ?_
      have k912 := k10.trans (k11.trans (kp_same (m := fp) s12))
      have g12 := k912.k _ _ nD g9
      have ku := kp_upd (o' := .lst (acc ++ [v9])) g12 (fun _ e => nomatch e) (fun _ _ e => nomatch e)
      refine ⟨g12, as ++ [(t, e)], by rw [List.length_append]; exact Nat.succ_le_succ hl, by rw [List.length_append, hle]; rfl, kp_mut (kH.trans k912) (kp_none k2 hD nD), (f11.same s12).upd nD nC, upd_same, ?_, ?_⟩
      · rw [List.map_append]
        exact (h9.mono (k912.t.trans ku.t)).app (.cons (h12.mono ku.t) .nil)
      · intro e' he'
        rcases List.mem_append.mp he' with he' | he'
        · exact he e' he'
        · rw [List.mem_singleton.mp he']
          exact ⟨fitt, fit, dep⟩
    · rintro acc H9 ⟨as, hl, hle, kH, f9, g9, h9, he⟩
      exact ⟨D, acc, as, he, by intro e; rw [e] at hle; simp at hle; omega, by omega, g9, h9, kH, f9, rfl⟩
  rintro _ H2 ⟨l, us, as, has, hne, hle, g2, h2, k2, f2, rfl⟩
  tm_at "go"
  refine e_tupD ?_
  tm_at "go"
  refine rc_tupL (.of g2) h2 fun v3 H3 s3 h3 => ?_
  tm_at "go"
  refine tupend (ds := [.str nm, g.d, .tuple (as.map asD)]) (.cons (.str _) (.cons (hg.mono (k2.t.trans (tp_same s3))) (.cons h3 .nil))) (Nat.le_of_ble_eq_true rfl) fun v9 H9 s9 h9 => ?_
  exact k _ _ _ ⟨rs, nm, ⟨nm, g, as⟩, rfl, rfl, hnm, ⟨gfit, Nat.le_trans gdep (by decide)⟩, hle, hne, has⟩ (k1.trans (k2.trans (kp_same (s3.trans s9)))) (f2.same (s3.trans s9)) h9
end K

namespace K
open PySem L2 G
variable {M : Md}
def rRule2 : List PyData → PyData → Prop := fun ds d => ∃ (rs : List Row) (nm : Str) (r : Rl), ds = [cellsD rs, .str nm] ∧ d = r.d ∧ FitR rs r ∧ r.as.length ≤ 2 ∧ r.guard.dep ≤ 2
theorem ok_rule2 {f fd} (F : Fun M.K "_law_rule" "_law_rule" s__law_rule f fd) (b : Bl M) (dd : Dc M "_law_draw" ["_law_feed_here", "_law_many"] 1 (spD preDraw rDraw M.K)) (df : dcForm M 2) (dg : Dc M "_law_goal" ["_law_feed_here", "_law_rows_here"] 5 (spD preGoal rGoal M.K)) :
    FnG M.prog M.w M.K M.mg M.base CX0 6 f fd ["_law_feed_here", "_law_rows_here", "_law_name"] (spD preRule rRule2 M.K) := by
  refine fn_ok F sc__law_rule (spD_len (n := 2) (by rintro ds ⟨_, _, rfl, _⟩; rfl)) (fun H vs Q E h => ?_)
  obtain ⟨fp, cl, rest, ds, rfl, hf, hds, ⟨rs, nm, rfl, ri, hpos, hnm⟩, k⟩ := h
  obtain _ | ⟨hc, hds⟩ := hds
  obtain _ | ⟨hn, hds⟩ := hds
  cases hds
  cases hn
  rename_i vr
  refine b_cut (fun σ1 H' => ∃ (g : Ex) (vg : V), Fit rs g ∧ g.dep ≤ 2 ∧ Dt M.K H' vg g.d ∧ Kp fp H H' ∧ Feed M.K H' fp cl ∧ σ1 = [some (.ref fp), some vr, some (.str nm), some vg, none, none]) ?_ ?_
  · tm_at "go"
    refine e_draw dd ?_
    tm_at "go"
    refine ⟨fp, cl, _, rfl, rfl, by decide, hf, fun r1 H1 r10 r11 k1 f1 => ?_⟩
    tm_at "go"
    refine ifd (fun c1 => ?_) (fun c1 => ?_)
    · tm_at "go"
      exact ⟨.int 1, _, ⟨by decide, by decide⟩, Nat.zero_le _, .int 1, k1, f1, rfl⟩
    · refine e_callD df ?_
      tm_at "go"
      refine ⟨fp, cl, _, _, rfl, f1, by tm_at "dts", ⟨rs, 2, rfl, ri, by decide⟩, ?_⟩
      rintro d v2 H2 ⟨rs', deep', e, e1, rfl, fit, dep⟩ k2 f2 hv2
      obtain rfl : rs = rs' := cellsD_inj (List.cons.inj e1).1
      obtain rfl : 2 = deep' := PyData.int.inj (List.cons.inj (List.cons.inj e1).2).1
      exact ⟨e, v2, fit, dep, hv2, k1.trans k2, f2, rfl⟩
  rintro _ H1 ⟨g, vg, gfit, gdep, hg, k1, f1, rfl⟩
  refine b_cut (fun σ1 H' => ∃ (l : Addr) (us : List V) (as : List (Tg × Ex)), (∀ p ∈ as, FitT rs p.1 ∧ Fit rs p.2 ∧ p.2.dep ≤ 2) ∧ as ≠ [] ∧ as.length ≤ 2 ∧ H' l = some (.lst us) ∧ DtAll M.K H' us (as.map asD) ∧ Kp fp H1 H' ∧ Feed M.K H' fp cl ∧ σ1 = [some (.ref fp), some vr, some (.str nm), some vg, some (.ref l), none]) ?_ ?_
  · refine s_setLc (own := [("_law_k", 5)]) (by tm_at "at") (Blk.of (N := N__law_rule) (sc := defScope s__law_rule) rfl rfl (by decide +kernel)) ?_
    refine lc_R1 b.range ?_
    tm_at "go"
    refine e_draw dd ?_
    tm_at "go"
    refine ⟨fp, cl, _, rfl, rfl, by decide, f1, fun r2 H2 r20 r21 k2 f2 => ?_⟩
    tm_at "go"
    refine ⟨by omega, fun D hD => ?_⟩
    have nD : D ≠ fp := ne_feed f2 (Same.refl _) hD
    have nC : D ≠ cl := ne_cl f2 (Same.refl _) hD
    refine ⟨fun i acc H' => ∃ as : List (Tg × Ex), acc.length ≤ i ∧ as.length = i ∧ Kp fp H1 H' ∧ Feed M.K H' fp cl ∧ H' D = some (.lst acc) ∧ DtAll M.K H' acc (as.map asD) ∧ ∀ p ∈ as, FitT rs p.1 ∧ Fit rs p.2 ∧ p.2.dep ≤ 2, ?_, ?_, ?_, ?_⟩
    · exact ⟨[], Nat.le_refl _, rfl, kp_mut k2 (kp_none k2 hD nD), f2.upd nD nC, upd_same, .nil, fun _ h => nomatch h⟩
    · rintro i acc H' ⟨as, h, _⟩
      exact h
    · rintro i acc H9 hi ⟨as, hl, hle, kH, f9, g9, h9, he⟩
      refine g_name (by tm_at "at") ⟨rfl, ts_nil (ift ?_)⟩
      refine e_tupD ?_
      refine a_cons ?_
      refine e_callD dg ?_
      tm_at "go"
      refine ⟨fp, cl, _, _, rfl, f9, .cons (hc.mono (k1.t.trans kH.t)) .nil, ⟨rs, rfl, ri, hpos⟩, ?_⟩
      rintro d va H10 ⟨rs', t, e1, rfl, fitt⟩ k10 f10 hva
      obtain rfl : rs = rs' := cellsD_inj (List.cons.inj e1).1
      tm_at "go"
      refine e_callD df ?_
      tm_at "go"
      refine ⟨fp, cl, _, _, rfl, f10, .cons (hc.mono (k1.t.trans (kH.t.trans k10.t))) (.cons (.int _) .nil), ⟨rs, 2, rfl, ri, by decide⟩, ?_⟩
      rintro d v2 H11 ⟨rs', deep', e, e1, rfl, fit, dep⟩ k11 f11 hv2
      obtain rfl : rs = rs' := cellsD_inj (List.cons.inj e1).1
      obtain rfl : 2 = deep' := PyData.int.inj (List.cons.inj (List.cons.inj e1).2).1
      tm_at "go"
      refine tupend (ds := [t.d, e.d]) (.cons (hva.mono k11.t) (.cons hv2 .nil)) (Nat.le_of_ble_eq_true rfl) fun v9 H12 s12 h12 => ?_
      have k912 := k10.trans (k11.trans (kp_same (m := fp) s12))
      have g12 := k912.k _ _ nD g9
      have ku := kp_upd (o' := .lst (acc ++ [v9])) g12 (fun _ e => nomatch e) (fun _ _ e => nomatch e)
      refine ⟨g12, as ++ [(t, e)], by rw [List.length_append]; exact Nat.succ_le_succ hl, by rw [List.length_append, hle]; rfl, kp_mut (kH.trans k912) (kp_none k2 hD nD), (f11.same s12).upd nD nC, upd_same, ?_, ?_⟩
      · rw [List.map_append]
        exact (h9.mono (k912.t.trans ku.t)).app (.cons (h12.mono ku.t) .nil)
      · intro e' he'
        rcases List.mem_append.mp he' with he' | he'
        · exact he e' he'
        · rw [List.mem_singleton.mp he']
          exact ⟨fitt, fit, dep⟩
    · rintro acc H9 ⟨as, hl, hle, kH, f9, g9, h9, he⟩
      exact ⟨D, acc, as, he, by intro e; rw [e] at hle; simp at hle; omega, by omega, g9, h9, kH, f9, rfl⟩
  rintro _ H2 ⟨l, us, as, has, hne, hle2, g2, h2, k2, f2, rfl⟩
  tm_at "go"
  refine e_tupD ?_
  tm_at "go"
  refine rc_tupL (.of g2) h2 fun v3 H3 s3 h3 => ?_
  tm_at "go"
  refine tupend (ds := [.str nm, g.d, .tuple (as.map asD)]) (.cons (.str _) (.cons (hg.mono (k2.t.trans (tp_same s3))) (.cons h3 .nil))) (Nat.le_of_ble_eq_true rfl) fun v9 H9 s9 h9 => ?_
  exact k _ _ _ ⟨rs, nm, ⟨nm, g, as⟩, rfl, rfl, ⟨hnm, ⟨gfit, Nat.le_trans gdep (by decide)⟩, Nat.le_trans hle2 (by decide), hne, has⟩, hle2, gdep⟩ (k1.trans (k2.trans (kp_same (s3.trans s9)))) (f2.same (s3.trans s9)) h9
end K

namespace K
open PySem L2 G
variable {M : Md}
/-! ### the meaning of expressions -/
def gt (st : St1) (j : Int) : Int := st.getD j.toNat 0
def b2 (p : Prop) [Decidable p] : Int := if p then 1 else 0
def un1 (op : Str) (v : Int) : Int := if op = "not" then b2 (v = 0) else -v
def cmp2 (op : Str) (a b : Int) : Bool := if op = "=" then decide (a = b) else if op = "<" then decide (a < b) else decide (a ≤ b)
def bin2 (op : Str) (a b : Int) : Int := if op = "+" then a + b else if op = "-" then a - b else if op = "*" then a * b else if op = "div" then a / b else if op = "mod" then a % b else
  if op = "least" then (if b < a then b else a) else if op = "most" then (if b > a then b else a) else if cmp2 op a b = true then 1 else 0
def ix (rs : List Row) (s : Str) : Int := (fIdx rs s none 0).getD 0
abbrev Res := Option Int × List Int
def thn1 (r : Res) (g : Int → Res) : Res := match r.1 with
  | none => (none, r.2)
  | some v => ((g v).1, r.2 ++ (g v).2)
def keyed (rs : List Row) (t : Str) (r : Res) : Res := match r.1 with
  | none => (none, r.2)
  | some v => (fIdx rs t (some v) 0, r.2)
def isLazy (op : Str) : Bool := decide (op = "and") || decide (op = "or")
def ev (rs : List Row) (st : St1) : Ex → Res
  | .int i => (some i, [])
  | .nm s => (some (gt st (ix rs s)), [ix rs s])
  | .at t e => thn1 (keyed rs t (ev rs st e)) fun j => (some (gt st j), [j])
  | .un op e => thn1 (ev rs st e) fun v => (some (un1 op v), [])
  | .bin op a b => if isLazy op = true then thn1 (ev rs st a) fun v => if decide (v ≠ 0) = decide (op = "or") then (some (b2 (v ≠ 0)), []) else thn1 (ev rs st b) fun w => (some (b2 (w ≠ 0)), [])
    else thn1 (ev rs st a) fun v => thn1 (ev rs st b) fun w => (some (bin2 op v w), [])
  | .kk op e n => thn1 (ev rs st e) fun v => (some (bin2 op v n), [])
  | .ite a b e => thn1 (ev rs st a) fun v => if v ≠ 0 then ev rs st b else ev rs st e
def resD (r : Res) : PyData := .tuple [optD r.1, .tuple (r.2.map .int)]
structure StOk (rs : List Row) (st : St1) : Prop where
  len : st.length = total rs
  val : ∀ v ∈ st, -10 ≤ v ∧ v ≤ 10
  tot : total rs ≤ 10
  nd : (rs.map nameOf).Nodup
  ri : RowsIn rs
  rng : ∀ (i : Nat) (r : Rng), (rg rs)[i]? = some r → r.1 ≤ gt st i ∧ gt st i ≤ r.2
theorem fIdx_in : ∀ {rs : List Row} {s : Str} {key : Option Int} {b j : Int}, fIdx rs s key b = some j → b ≤ j ∧ j < b + total rs
  | [], _, _, _, _, h => by cases h
  | r :: rs, s, key, b, j, h => by
    have e : total (r :: rs) = width r + total rs := by simp [total]
    have w1 : 1 ≤ width r := Nat.le_max_left _ _
    have w2 : r.2.1 ≤ width r := Nat.le_max_right _ _
    unfold fIdx at h
    split at h
    · cases key with
      | none =>
        rw [hit] at h
        split at h
        · cases h; omega
        · cases h
      | some k =>
        rw [hit] at h
        split at h
        · cases h; omega
        · cases h
    · have := fIdx_in h
      omega
theorem fIdx_plain : ∀ {rs : List Row} {s : Str} (b : Int), (rs.map nameOf).Nodup → (∃ r ∈ rs, r.1 = s ∧ r.2.1 = 0) → ∃ j, fIdx rs s none b = some j
  | [], _, _, _, h => by obtain ⟨r, hr, _⟩ := h; cases hr
  | r :: rs, s, b, nd, h => by
    rw [List.map_cons, List.nodup_cons] at nd
    unfold fIdx
    by_cases e : r.1 = s
    · rw [if_pos e]
      obtain ⟨r', hr', e', z'⟩ := h
      rcases List.mem_cons.mp hr' with rfl | hm
      · refine ⟨b, ?_⟩
        rw [hit]
        rw [if_pos (by omega)]
      · exact absurd (List.mem_map.mpr ⟨r', hm, show nameOf r' = nameOf r from e'.trans e.symm⟩) nd.1
    · rw [if_neg e]
      refine fIdx_plain _ nd.2 ?_
      obtain ⟨r', hr', e', z'⟩ := h
      rcases List.mem_cons.mp hr' with rfl | hm
      · exact absurd e' e
      · exact ⟨r', hm, e', z'⟩
theorem ix_ok {rs : List Row} {s : Str} (nd : (rs.map nameOf).Nodup) (h : ∃ r ∈ rs, r.1 = s ∧ r.2.1 = 0) : fIdx rs s none 0 = some (ix rs s) ∧ 0 ≤ ix rs s ∧ ix rs s < total rs := by
  obtain ⟨j, hj⟩ := fIdx_plain 0 nd h
  have e : ix rs s = j := by unfold ix; rw [hj]; rfl
  have := fIdx_in hj
  rw [e]
  exact ⟨hj, by omega, by omega⟩
theorem gt_at {rs : List Row} {st : St1} (S : StOk rs st) {j : Int} (h0 : 0 ≤ j) (h1 : j < total rs) : atI (st.map PyData.int) j = some (.int (gt st j)) := by
  have hl := S.len
  have hlt : j.toNat < st.length := by omega
  refine pl_at (j := j.toNat) (by omega) ?_
  rw [List.getElem?_map, List.getElem?_eq_getElem hlt]
  unfold gt
  rw [List.getD_eq_getElem?_getD, List.getElem?_eq_getElem hlt]
  rfl
theorem gt_val {rs : List Row} {st : St1} (S : StOk rs st) (j : Int) : -10 ≤ gt st j ∧ gt st j ≤ 10 := by
  unfold gt
  rw [List.getD_eq_getElem?_getD]
  cases e : st[j.toNat]? with
  | none => exact ⟨by decide, by decide⟩
  | some v => exact S.val v (List.mem_of_getElem? e)
theorem thn1_some {r : Res} {g : Int → Res} {w : Int} (h : (thn1 r g).1 = some w) : ∃ v, r.1 = some v ∧ (g v).1 = some w := by
  unfold thn1 at h
  cases e : r.1 with
  | none => rw [e] at h; cases h
  | some v => rw [e] at h; exact ⟨v, rfl, h⟩
def Bd : Nat → Nat
  | 0 => 1000000
  | n + 1 => Bd n * Bd n
theorem Bd_ge : ∀ n, 1000000 ≤ Bd n
  | 0 => Nat.le_refl _
  | n + 1 => Nat.le_trans (Bd_ge n) (Nat.le_mul_of_pos_left _ (Nat.lt_of_lt_of_le (by decide) (Bd_ge n)))
theorem Bd_two (n : Nat) : 2 * Bd n ≤ Bd (n + 1) := Nat.mul_le_mul_right _ (Nat.le_trans (by decide) (Bd_ge n))
theorem Bd_up (n : Nat) : Bd n ≤ Bd (n + 1) := by have := Bd_two n; omega
theorem un1_b {op : Str} {v : Int} {n : Nat} (h : v.natAbs ≤ Bd n) : (un1 op v).natAbs ≤ Bd (n + 1) := by
  have h1 := Bd_up n
  have h2 := Bd_ge n
  unfold un1 b2
  split
  · split <;> simp <;> omega
  · rw [Int.natAbs_neg]; omega
theorem bin2_b {op : Str} {a b : Int} {n : Nat} (ha : a.natAbs ≤ Bd n) (hb : b.natAbs ≤ Bd n) (hd : op = "div" ∨ op = "mod" → 1 ≤ b) : (bin2 op a b).natAbs ≤ Bd (n + 1) := by
  have h1 := Bd_two n
  have h2 := Bd_ge n
  unfold bin2
  split
  · omega
  split
  · omega
  split
  · rw [Int.natAbs_mul]; exact Nat.mul_le_mul ha hb
  split
  · rename_i h
    have hb1 := hd (.inl h)
    have : (a / b).natAbs ≤ a.natAbs := Int.natAbs_ediv_le_natAbs a b
    omega
  split
  · rename_i h
    have hb1 := hd (.inr h)
    have q1 := Int.emod_nonneg a (show b ≠ 0 by omega)
    have q2 := Int.emod_lt_of_pos a (show 0 < b by omega)
    omega
  split
  · split <;> omega
  split
  · split <;> omega
  split <;> simp <;> omega
theorem thn1_len {r : Res} {g : Int → Res} {a b : Nat} (h : r.2.length ≤ a) (h2 : ∀ v, r.1 = some v → (g v).2.length ≤ b) : (thn1 r g).2.length ≤ a + b := by
  unfold thn1
  cases e : r.1 with
  | none => simp; omega
  | some v => have := h2 v e; simp; omega
theorem kind_bin {op : Str} (h : op ∈ bins) : op ≠ "div" ∧ op ≠ "mod" := by
  have : ∀ op ∈ bins, op ≠ "div" ∧ op ≠ "mod" := by decide +kernel
  exact this op h
theorem b2_b (p : Prop) [Decidable p] (n : Nat) : (b2 p).natAbs ≤ Bd n := by
  have := Bd_ge n
  unfold b2
  split <;> simp <;> omega
theorem Bd_mono {m n : Nat} (h : m ≤ n) : Bd m ≤ Bd n := by
  induction h with
  | refl => exact Nat.le_refl _
  | step _ ih => exact Nat.le_trans ih (Bd_up _)
theorem evB {rs : List Row} {st : St1} (S : StOk rs st) : ∀ (e : Ex) (n : Nat) (v : Int), e.dep ≤ n → Fit rs e → (ev rs st e).1 = some v → v.natAbs ≤ Bd n
  | .int i, n, v, _, hf, h => by
    have h2 := Bd_ge n
    unfold ev at h
    cases h
    unfold Fit at hf
    omega
  | .nm s, n, v, _, hf, h => by
    have h2 := Bd_ge n
    unfold ev at h
    cases h
    have := gt_val S (ix rs s)
    omega
  | .at t e, n, v, hn, hf, h => by
    have h2 := Bd_ge n
    unfold ev at h
    obtain ⟨j, _, h3⟩ := thn1_some h
    cases h3
    have := gt_val S j
    omega
  | .un op e, n, v, hn, hf, h => by
    unfold Ex.dep at hn
    obtain ⟨m, rfl⟩ : ∃ m, n = m + 1 := ⟨n - 1, by omega⟩
    unfold ev at h
    obtain ⟨w, h3, h4⟩ := thn1_some h
    cases h4
    exact un1_b (evB S e m w (by omega) hf.2 h3)
  | .bin op a b, n, v, hn, hf, h => by
    unfold Ex.dep at hn
    obtain ⟨m, rfl⟩ : ∃ m, n = m + 1 := ⟨n - 1, by omega⟩
    unfold ev at h
    split at h
    · obtain ⟨w, h3, h4⟩ := thn1_some h
      split at h4
      · cases h4; exact b2_b _ _
      · obtain ⟨w2, h5, h6⟩ := thn1_some h4
        cases h6; exact b2_b _ _
    · obtain ⟨w, h3, h4⟩ := thn1_some h
      obtain ⟨w2, h5, h6⟩ := thn1_some h4
      cases h6
      exact bin2_b (evB S a m w (by omega) hf.2.1 h3) (evB S b m w2 (by omega) hf.2.2 h5) (fun z => z.elim (fun z => absurd z (kind_bin hf.1).1) (fun z => absurd z (kind_bin hf.1).2))
  | .kk op e k, n, v, hn, hf, h => by
    unfold Ex.dep at hn
    obtain ⟨m, rfl⟩ : ∃ m, n = m + 1 := ⟨n - 1, by omega⟩
    unfold ev at h
    obtain ⟨w, h3, h4⟩ := thn1_some h
    cases h4
    have h2 := Bd_ge m
    have h5 := hf.2.2
    exact bin2_b (evB S e m w (by omega) hf.2.1 h3) (by omega) (fun _ => h5.1)
  | .ite a b e, n, v, hn, hf, h => by
    unfold Ex.dep at hn
    obtain ⟨m, rfl⟩ : ∃ m, n = m + 1 := ⟨n - 1, by omega⟩
    unfold ev at h
    obtain ⟨w, h3, h4⟩ := thn1_some h
    have h2 := Bd_up m
    split at h4
    · exact Nat.le_trans (evB S b m v (by omega) hf.2.1 h4) h2
    · exact Nat.le_trans (evB S e m v (by omega) hf.2.2 h4) h2
theorem keyed_snd (rs : List Row) (t : Str) (r : Res) : (keyed rs t r).2 = r.2 := by
  unfold keyed
  split <;> rfl
theorem evL {rs : List Row} {st : St1} : ∀ (e : Ex) (n : Nat), e.dep ≤ n → (ev rs st e).2.length ≤ 2 ^ (n + 1)
  | .int i, n, _ => by unfold ev; exact Nat.zero_le _
  | .nm s, n, _ => by unfold ev; exact Nat.pos_of_ne_zero (by simp)
  | .at t e, n, hn => by
    unfold Ex.dep at hn
    obtain ⟨m, rfl⟩ : ∃ m, n = m + 1 := ⟨n - 1, by omega⟩
    have h1 := evL (rs := rs) (st := st) e m (by omega)
    have h2 : 0 < 2 ^ (m + 1) := Nat.pos_of_ne_zero (by simp)
    unfold ev
    rw [Nat.pow_succ, Nat.mul_two]
    exact thn1_len (by rw [keyed_snd]; exact h1) (fun v _ => h2)
  | .un op e, n, hn => by
    unfold Ex.dep at hn
    obtain ⟨m, rfl⟩ : ∃ m, n = m + 1 := ⟨n - 1, by omega⟩
    have h1 := evL (rs := rs) (st := st) e m (by omega)
    unfold ev
    rw [Nat.pow_succ, Nat.mul_two]
    exact thn1_len h1 (fun v _ => Nat.zero_le _)
  | .bin op a b, n, hn => by
    unfold Ex.dep at hn
    obtain ⟨m, rfl⟩ : ∃ m, n = m + 1 := ⟨n - 1, by omega⟩
    have h1 := evL (rs := rs) (st := st) a m (by omega)
    have h2 := evL (rs := rs) (st := st) b m (by omega)
    unfold ev
    rw [Nat.pow_succ, Nat.mul_two]
    split
    · refine thn1_len h1 fun v _ => ?_
      split
      · exact Nat.zero_le _
      · exact thn1_len (b := 0) h2 fun _ _ => Nat.le_refl _
    · refine thn1_len h1 fun v _ => ?_
      exact thn1_len (b := 0) h2 fun _ _ => Nat.le_refl _
  | .kk op e k, n, hn => by
    unfold Ex.dep at hn
    obtain ⟨m, rfl⟩ : ∃ m, n = m + 1 := ⟨n - 1, by omega⟩
    have h1 := evL (rs := rs) (st := st) e m (by omega)
    unfold ev
    rw [Nat.pow_succ, Nat.mul_two]
    exact thn1_len h1 (fun v _ => Nat.zero_le _)
  | .ite a b e, n, hn => by
    unfold Ex.dep at hn
    obtain ⟨m, rfl⟩ : ∃ m, n = m + 1 := ⟨n - 1, by omega⟩
    have h1 := evL (rs := rs) (st := st) a m (by omega)
    have h2 := evL (rs := rs) (st := st) b m (by omega)
    have h3 := evL (rs := rs) (st := st) e m (by omega)
    unfold ev
    rw [Nat.pow_succ, Nat.mul_two]
    refine thn1_len h1 fun v _ => ?_
    split
    · exact h2
    · exact h3
end K

namespace K
open PySem L2 G
variable {M : Md}
theorem dib {p : Prop} [Decidable p] : (if decide p = true then (1 : Int) else 0) = b2 p := by
  unfold b2
  by_cases h : p
  · rw [if_pos (decide_eq_true h), if_pos h]
  · rw [if_neg (by simp [h]), if_neg h]
def rIndex : List PyData → PyData → Prop := fun ds d => ∃ (rs : List Row) (s : Str) (j : Int), ds = [cellsD rs, .str s, .none] ∧ fIdx rs s none 0 = some j ∧ d = .int j
theorem ok_index {f fd} (F : Fun M.K "cell_index" "cell_index" s_cell_index f fd) (b : Bl M) (df : Dc M "found_index" ["cells", "name", "key"] 2 (spF rFound M.K)) : FnG M.prog M.w M.K M.mg M.base CX0 3 f fd ["cells", "name", "key"] (spF rIndex M.K) := by
  refine fn_ok F sc_cell_index (fun vs H Q E h => ?_) (fun H vs Q E h => ?_)
  · obtain ⟨ds, d, h, ⟨rs, s, j, rfl, _⟩, _⟩ := h
    exact h.len
  obtain ⟨ds, d, h, ⟨rs, s, j, rfl, hj, rfl⟩, k⟩ := h
  obtain _ | ⟨hc, h⟩ := h
  obtain _ | ⟨hs, h⟩ := h
  obtain _ | ⟨hn, h⟩ := h
  cases h
  cases hs
  cases hn
  tm_at "go"
  refine e_callF df ?_
  tm_at "go"
  refine ⟨_, _, .cons hc (.cons (.str _) (.cons .non .nil)), ⟨rs, s, none, rfl, rfl⟩, fun v H1 s1 hv => ?_⟩
  rw [hj] at hv
  cases hv
  tm_at "go"
  exact k _ _ s1 (.int _)
def isIntD : PyData → Bool
  | .int _ => true
  | _ => false
def plainD : PyData → Prop
  | .int _ | .str _ | .tuple _ => True
  | _ => False
theorem rc_isiD {c : Cd} {H : Hp} {Q : VK} {v : V} {x : PyData} (hp : plainD x) (hx : Dt c.K H v x) (q : Q (.bl (isIntD x)) H) : RC c (.builtin "isinstance") [v, .ty "int"] H Q := by
  cases x with
  | int i =>
    cases hx
    exact rc_isi (.base (.int i)) rfl q
  | str s =>
    cases hx
    exact rc_isi (.base (.str s)) rfl q
  | tuple ds =>
    obtain ⟨a, xs, rfl, ht, _⟩ := hx.tupE
    exact rc_isi (ty_tup ht) rfl q
  | none => exact hp.elim
  | bool => exact hp.elim
  | list => exact hp.elim
  | dict => exact hp.elim
def rOne : List PyData → PyData → Prop := fun ds d => ∃ (op : Str) (v : Int), ds = [.str op, .int v] ∧ d = .int (un1 op v)
theorem ok_one {f fd} (F : Fun M.K "_of_one" "_of_one" s__of_one f fd) (b : Bl M) : FnG M.prog M.w M.K M.mg M.base CX0 1 f fd ["op", "value"] (spF rOne M.K) := by
  refine fn_ok F sc__of_one (fun vs H Q E h => ?_) (fun H vs Q E h => ?_)
  · obtain ⟨ds, d, h, ⟨op, v, rfl, _⟩, _⟩ := h
    exact h.len
  obtain ⟨ds, d, h, ⟨op, v, rfl, rfl⟩, k⟩ := h
  obtain _ | ⟨h1, h⟩ := h
  obtain _ | ⟨h2, h⟩ := h
  cases h
  cases h1
  cases h2
  tm_at "go"
  refine ifd (fun c1 => ?_) (fun c1 => ?_)
  · tm_at "go"
    refine k _ _ (Same.refl _) ?_
    rw [un1, if_pos c1, dib]
    exact .int _
  · tm_at "go"
    refine k _ _ (Same.refl _) ?_
    rw [un1, if_neg c1]
    exact .int _
def rCmp : List PyData → PyData → Prop := fun ds d => ∃ (op : Str) (a b : Int), ds = [.str op, .int a, .int b] ∧ d = .bool (cmp2 op a b)
theorem ok_cmp {f fd} (F : Fun M.K "_compared" "_compared" s__compared f fd) (b : Bl M) : FnG M.prog M.w M.K M.mg M.base CX0 1 f fd ["op", "one", "other"] (spF rCmp M.K) := by
  refine fn_ok F sc__compared (fun vs H Q E h => ?_) (fun H vs Q E h => ?_)
  · obtain ⟨ds, d, h, ⟨op, v, w, rfl, _⟩, _⟩ := h
    exact h.len
  obtain ⟨ds, d, h, ⟨op, v, w, rfl, rfl⟩, k⟩ := h
  obtain _ | ⟨h1, h⟩ := h
  obtain _ | ⟨h2, h⟩ := h
  obtain _ | ⟨h3, h⟩ := h
  cases h
  cases h1
  cases h2
  cases h3
  tm_at "go"
  refine ifd (fun c1 => ?_) (fun c1 => ?_)
  · tm_at "go"
    refine k _ _ (Same.refl _) ?_
    rw [cmp2, if_pos c1]
    exact .bl _
  · tm_at "go"
    refine ifd (fun c2 => ?_) (fun c2 => ?_)
    · tm_at "go"
      refine k _ _ (Same.refl _) ?_
      rw [cmp2, if_neg c1, if_pos c2]
      exact .bl _
    · tm_at "go"
      refine k _ _ (Same.refl _) ?_
      rw [cmp2, if_neg c1, if_neg c2]
      exact .bl _
theorem ro_mulW {c : Cd} {H : Hp} {Q : VK} {i j : Int} (hc : CMulW i j) (q : Q (.int (i * j)) H) : RO c .Mult (.int i) (.int j) H Q := ro_of (fun _ _ => op_mulW) ⟨i, j, rfl, rfl, hc, q⟩
def rTwo : List PyData → PyData → Prop := fun ds d => ∃ (op : Str) (a b : Int), ds = [.str op, .int a, .int b] ∧ (a.natAbs < 2 ^ 400 ∧ b.natAbs < 2 ^ 400) ∧ (op = "div" ∨ op = "mod" → 1 ≤ b ∧ b < 1000) ∧ d = .int (bin2 op a b)
set_option maxHeartbeats 1000000 in
theorem ok_two {f fd} (F : Fun M.K "value_of_two" "value_of_two" s_value_of_two f fd) (b : Bl M) (dc : Dc M "_compared" ["op", "one", "other"] 1 (spF rCmp M.K)) : FnG M.prog M.w M.K M.mg M.base CX0 2 f fd ["op", "one", "other"] (spF rTwo M.K) := by
  refine fn_ok F sc_value_of_two (fun vs H Q E h => ?_) (fun H vs Q E h => ?_)
  · obtain ⟨ds, d, h, ⟨op, v, w, rfl, _⟩, _⟩ := h
    exact h.len
  obtain ⟨ds, d, h, ⟨op, x, y, rfl, hb, hdm, rfl⟩, k⟩ := h
  obtain _ | ⟨h1, h⟩ := h
  obtain _ | ⟨h2, h⟩ := h
  obtain _ | ⟨h3, h⟩ := h
  cases h
  cases h1
  cases h2
  cases h3
  tm_at "go"
  refine ifd (fun c1 => ?_) (fun c1 => ?_)
  · tm_at "go"
    refine k _ _ (Same.refl _) ?_
    rw [bin2, if_pos c1]
    exact .int _
  tm_at "go"
  refine ifd (fun c2 => ?_) (fun c2 => ?_)
  · tm_at "go"
    refine k _ _ (Same.refl _) ?_
    rw [bin2, if_neg c1, if_pos c2]
    exact .int _
  tm_at "go"
  refine ifd (fun c3 => ?_) (fun c3 => ?_)
  · tm_at "go"
    refine ro_mulW (wide_mul hb.1 hb.2 (by decide) (by decide) (by decide)) ?_
    refine k _ _ (Same.refl _) ?_
    rw [bin2, if_neg c1, if_neg c2, if_pos c3]
    exact .int _
  tm_at "go"
  refine ifd (fun c4 => ?_) (fun c4 => ?_)
  · tm_at "go"
    have := hdm (.inl c4)
    refine ro_div (by omega) (by omega) ?_
    refine k _ _ (Same.refl _) ?_
    rw [bin2, if_neg c1, if_neg c2, if_neg c3, if_pos c4]
    exact .int _
  tm_at "go"
  refine ifd (fun c5 => ?_) (fun c5 => ?_)
  · tm_at "go"
    have := hdm (.inr c5)
    refine ro_mod (by omega) ?_
    refine k _ _ (Same.refl _) ?_
    rw [bin2, if_neg c1, if_neg c2, if_neg c3, if_neg c4, if_pos c5]
    exact .int _
  tm_at "go"
  refine ifd (fun c6 => ?_) (fun c6 => ?_)
  · tm_at "go"
    refine k _ _ (Same.refl _) ?_
    rw [bin2, if_neg c1, if_neg c2, if_neg c3, if_neg c4, if_neg c5, if_pos c6]
    exact .int _
  tm_at "go"
  refine ifd (fun c7 => ?_) (fun c7 => ?_)
  · tm_at "go"
    refine k _ _ (Same.refl _) ?_
    rw [bin2, if_neg c1, if_neg c2, if_neg c3, if_neg c4, if_neg c5, if_neg c6, if_pos c7]
    exact .int _
  tm_at "go"
  refine e_callF dc ?_
  tm_at "go"
  refine ⟨_, _, .cons (.str _) (.cons (.int _) (.cons (.int _) .nil)), ⟨op, x, y, rfl, rfl⟩, fun v H1 s1 hv => ?_⟩
  cases hv
  tm_at "go"
  refine k _ _ s1 ?_
  rw [bin2, if_neg c1, if_neg c2, if_neg c3, if_neg c4, if_neg c5, if_neg c6, if_neg c7]
  exact .int _
end K

namespace K
open PySem L2 G
variable {M : Md}
/-- what evaluated is given, and what it answers, to the depth n -/
structure EvIn (rs : List Row) (st : St1) (e : Ex) (n : Nat) : Prop where
  S : StOk rs st
  fit : Fit rs e
  dep : e.dep ≤ n
  n4 : n ≤ 4
def rEv (n : Nat) : List PyData → PyData → Prop := fun ds d => ∃ (rs : List Row) (st : St1) (e : Ex), ds = [cellsD rs, stD st, e.d] ∧ EvIn rs st e n ∧ d = resD (ev rs st e)
abbrev dcEv (M : Md) (n : Nat) : Prop := Dc M "evaluated" ["cells", "state", "expression"] (2 * n + 4) (spF (rEv n) M.K)
def rKey (n : Nat) : List PyData → PyData → Prop := fun ds d => ∃ (rs : List Row) (st : St1) (t : Str) (e : Ex), ds = [cellsD rs, stD st, .str t, e.d] ∧ EvIn rs st e n ∧ d = resD (keyed rs t (ev rs st e))
theorem Ex.plain (e : Ex) : plainD e.d := by cases e <;> trivial
theorem optN {K : PySem.W.Frag} {H : Hp} {v : V} {o : Option Int} (h : Dt K H v (optD o)) : (o = none ∧ v = .non) ∨ ∃ i, o = some i ∧ v = .int i := by
  cases o with
  | none => cases h; exact .inl ⟨rfl, rfl⟩
  | some i => cases h; exact .inr ⟨i, rfl, rfl⟩
theorem ok_keyed (n : Nat) {f fd} (F : Fun M.K "keyed_index" "keyed_index" s_keyed_index f fd) (b : Bl M) (df : Dc M "found_index" ["cells", "name", "key"] 2 (spF rFound M.K)) (de : dcEv M n) : FnG M.prog M.w M.K M.mg M.base CX0 (2 * n + 5) f fd ["cells", "state", "table", "key"] (spF (rKey n) M.K) := by
  refine fn_ok F sc_keyed_index (fun vs H Q E h => ?_) (fun H vs Q E h => ?_)
  · obtain ⟨ds, d, h, ⟨rs, st, t, e, rfl, _⟩, _⟩ := h
    exact h.len
  obtain ⟨ds, d, h, ⟨rs, st, t, e, rfl, hi, rfl⟩, k⟩ := h
  obtain _ | ⟨hc, h⟩ := h
  obtain _ | ⟨hst, h⟩ := h
  obtain _ | ⟨ht, h⟩ := h
  obtain _ | ⟨he, h⟩ := h
  cases h
  cases ht
  refine b_cons (s_asg ?_)
  refine e_callF de ?_ (Nat.le_refl _)
  tm_at "go"
  refine ⟨_, _, .cons hc (.cons hst (.cons he .nil)), ⟨rs, st, e, rfl, hi, rfl⟩, fun v H1 s1 hv => ?_⟩
  refine g_unp2 (by tm_at "at") (by tm_at "at") hv fun v1 v2 h1 h2 => ?_
  rcases optN h1 with ⟨eo, rfl⟩ | ⟨i, eo, rfl⟩
  · tm_at "go"
    refine e_tupD ?_
    tm_at "go"
    refine tupend (ds := [.none, .tuple ((ev rs st e).2.map .int)]) (.cons .non (.cons h2 .nil)) (Nat.le_of_ble_eq_true rfl) fun v9 H9 s9 h9 => ?_
    refine k _ _ (s1.trans s9) ?_
    unfold keyed resD
    rw [eo]
    exact h9
  · tm_at "go"
    refine e_tupD ?_
    tm_at "go"
    refine e_callF df ?_
    tm_at "go"
    refine ⟨_, _, .cons (hc.mono (tp_same s1)) (.cons (.str _) (.cons (.int _) .nil)), ⟨rs, t, some i, rfl, rfl⟩, fun v3 H3 s3 hv3 => ?_⟩
    tm_at "go"
    refine tupend (ds := [optD (fIdx rs t (some i) 0), .tuple ((ev rs st e).2.map .int)]) (.cons hv3 (.cons (h2.mono (tp_same s3)) .nil)) (Nat.le_of_ble_eq_true rfl) fun v9 H9 s9 h9 => ?_
    refine k _ _ (s1.trans (s3.trans s9)) ?_
    unfold keyed resD
    rw [eo]
    exact h9
end K

namespace K
open PySem L2 G
variable {M : Md}
def lazyE : Ex → Prop
  | .bin op _ _ => isLazy op = true
  | .ite _ _ _ => True
  | _ => False
def rLazy (n : Nat) : List PyData → PyData → Prop := fun ds d => ∃ (rs : List Row) (st : St1) (e : Ex), ds = [cellsD rs, stD st, e.d] ∧ lazyE e ∧ EvIn rs st e (n + 1) ∧ d = resD (ev rs st e)
theorem thn1_none {r : Res} {g : Int → Res} (h : r.1 = none) : thn1 r g = (none, r.2) := by
  unfold thn1
  rw [h]
theorem thn1_val {r : Res} {g : Int → Res} {v : Int} (h : r.1 = some v) : thn1 r g = ((g v).1, r.2 ++ (g v).2) := by
  unfold thn1
  rw [h]
theorem thn1_map {r : Res} {f : Int → Int} : thn1 r (fun w => (some (f w), [])) = (r.1.map f, r.2) := by
  unfold thn1
  cases r.1 with
  | none => rfl
  | some w => simp
theorem nb2 (v : Int) : (!decide (v = 0)) = decide (v ≠ 0) := by simp
theorem intb {p : Bool} : (if p = true then (1 : Int) else 0) = b2 (p = true) := rfl
theorem b2e {p q : Prop} [Decidable p] [Decidable q] (h : p ↔ q) : b2 p = b2 q := by
  unfold b2
  by_cases hp : p
  · rw [if_pos hp, if_pos (h.mp hp)]
  · rw [if_neg hp, if_neg (fun z => hp (h.mpr z))]
theorem lenLooks {rs : List Row} {st : St1} {e : Ex} {n : Nat} (h : e.dep ≤ n) (h4 : n ≤ 4) : ((ev rs st e).2.map PyData.int).length ≤ 32 := by
  rw [List.length_map]
  exact Nat.le_trans (evL e n h) (Nat.pow_le_pow_right (n := 2) (by decide) (show n + 1 ≤ 5 by omega))
set_option maxHeartbeats 2000000 in
theorem ok_lazy (n : Nat) {f fd} (F : Fun M.K "_lazy_value" "_lazy_value" s__lazy_value f fd) (b : Bl M) (de : dcEv M n) : FnG M.prog M.w M.K M.mg M.base CX0 (2 * n + 5) f fd ["cells", "state", "expression"] (spF (rLazy n) M.K) := by
  refine fn_ok F sc__lazy_value (fun vs H Q E h => ?_) (fun H vs Q E h => ?_)
  · obtain ⟨ds, d, h, ⟨rs, st, e, rfl, _⟩, _⟩ := h
    exact h.len
  obtain ⟨ds, d, h, ⟨rs, st, e, rfl, hl, hi, rfl⟩, k⟩ := h
  obtain _ | ⟨hc, h⟩ := h
  obtain _ | ⟨hst, h⟩ := h
  obtain _ | ⟨he, h⟩ := h
  cases h
  obtain ⟨S, fit, dep, n4⟩ := hi
  cases e with
  | int => exact hl.elim
  | nm => exact hl.elim
  | «at» => exact hl.elim
  | un => exact hl.elim
  | kk => exact hl.elim
  | bin op ea eb =>
    unfold Ex.d at he
    unfold Fit at fit
    unfold Ex.dep at dep
    have hlz : isLazy op = true := hl
    have hop : op ≠ "if" := by
      rintro rfl
      exact absurd (show isLazy "if" = true from hl) (by decide)
    tm_at "go"
    refine s_asg ?_
    refine e_callF de ?_ (Nat.le_refl _)
    tm_at "go"
    refine rx_tup he (d := ea.d) rfl fun va hva => ?_
    tm_at "go"
    refine ⟨_, _, .cons hc (.cons hst (.cons hva .nil)), ⟨rs, st, ea, rfl, ⟨S, fit.2.1, by omega, by omega⟩, rfl⟩, fun v H1 s1 hv => ?_⟩
    refine g_unp2 (by tm_at "at") (by tm_at "at") hv fun v1 v2 h1 h2 => ?_
    rcases optN h1 with ⟨eo, rfl⟩ | ⟨i, eo, rfl⟩
    · tm_at "go"
      refine e_tupD ?_
      tm_at "go"
      refine tupend (ds := [.none, .tuple ((ev rs st ea).2.map .int)]) (.cons .non (.cons h2 .nil)) (Nat.le_of_ble_eq_true rfl) fun v9 H9 s9 h9 => ?_
      refine k _ _ (s1.trans s9) ?_
      have e1 : ev rs st (.bin op ea eb) = (none, (ev rs st ea).2) := by
        rw [ev, if_pos hlz, thn1_none eo]
      rw [e1]
      exact h9
    · tm_at "go"
      refine ifd (fun c1 => absurd c1 hop) (fun c1 => ?_)
      tm_at "go"
      rw [nb2]
      refine ifd (fun c2 => ?_) (fun c2 => ?_)
      · tm_at "go"
        refine e_tupD ?_
        tm_at "go"
        refine tupend (ds := [.int (b2 (i ≠ 0)), .tuple ((ev rs st ea).2.map .int)]) (.cons (by rw [intb, b2e (q := i ≠ 0) (by simp)]; exact .int _) (.cons h2 .nil)) (Nat.le_of_ble_eq_true rfl) fun v9 H9 s9 h9 => ?_
        refine k _ _ (s1.trans s9) ?_
        have e1 : ev rs st (.bin op ea eb) = (some (b2 (i ≠ 0)), (ev rs st ea).2 ++ []) := by
          rw [ev, if_pos hlz, thn1_val eo, if_pos c2]
        rw [e1, List.append_nil]
        exact h9
      · tm_at "go"
        refine s_asg ?_
        refine e_callF de ?_ (Nat.le_refl _)
        tm_at "go"
        refine rx_tup (he.mono (tp_same s1)) (d := eb.d) rfl fun vb hvb => ?_
        tm_at "go"
        refine ⟨_, _, .cons (hc.mono (tp_same s1)) (.cons (hst.mono (tp_same s1)) (.cons hvb .nil)), ⟨rs, st, eb, rfl, ⟨S, fit.2.2, by omega, by omega⟩, rfl⟩, fun v H2 s2 hv => ?_⟩
        refine g_unp2 (by tm_at "at") (by tm_at "at") hv fun v3 v4 h3 h4 => ?_
        have e1 : ev rs st (.bin op ea eb) = ((ev rs st eb).1.map (fun w => b2 (w ≠ 0)), (ev rs st ea).2 ++ (ev rs st eb).2) := by
          rw [ev, if_pos hlz, thn1_val eo, if_neg c2, thn1_map]
        refine b_one (s_ret (e_tupD ?_))
        refine a_cons (e_if (t_cmp ?_))
        rcases optN h3 with ⟨eo2, rfl⟩ | ⟨i2, eo2, rfl⟩
        · tm_at "go"
          refine ro_catT (h2.mono (tp_same s2)) h4 (by have := lenLooks (rs := rs) (st := st) (e := ea) (n := n) (by omega) (by omega); have := lenLooks (rs := rs) (st := st) (e := eb) (n := n) (by omega) (by omega); omega) fun v8 H8 s8 h8 => ?_
          tm_at "go"
          refine tupend (ds := [.none, .tuple ((ev rs st ea).2.map .int ++ (ev rs st eb).2.map .int)]) (.cons .non (.cons h8 .nil)) (Nat.le_of_ble_eq_true rfl) fun v9 H9 s9 h9 => ?_
          refine k _ _ (s1.trans (s2.trans (s8.trans s9))) ?_
          rw [e1, eo2, resD, List.map_append]
          exact h9
        · tm_at "go"
          refine ro_catT (h2.mono (tp_same s2)) h4 (by have := lenLooks (rs := rs) (st := st) (e := ea) (n := n) (by omega) (by omega); have := lenLooks (rs := rs) (st := st) (e := eb) (n := n) (by omega) (by omega); omega) fun v8 H8 s8 h8 => ?_
          tm_at "go"
          refine tupend (ds := [.int (b2 (i2 ≠ 0)), .tuple ((ev rs st ea).2.map .int ++ (ev rs st eb).2.map .int)]) (.cons (by rw [intb, b2e (q := i2 ≠ 0) (by simp)]; exact .int _) (.cons h8 .nil)) (Nat.le_of_ble_eq_true rfl) fun v9 H9 s9 h9 => ?_
          refine k _ _ (s1.trans (s2.trans (s8.trans s9))) ?_
          rw [e1, eo2, resD, List.map_append]
          exact h9
  | ite ea eb ed =>
    unfold Ex.d at he
    unfold Fit at fit
    unfold Ex.dep at dep
    tm_at "go"
    refine s_asg ?_
    refine e_callF de ?_ (Nat.le_refl _)
    tm_at "go"
    refine rx_tup he (d := ea.d) rfl fun va hva => ?_
    tm_at "go"
    refine ⟨_, _, .cons hc (.cons hst (.cons hva .nil)), ⟨rs, st, ea, rfl, ⟨S, fit.1, by omega, by omega⟩, rfl⟩, fun v H1 s1 hv => ?_⟩
    refine g_unp2 (by tm_at "at") (by tm_at "at") hv fun v1 v2 h1 h2 => ?_
    rcases optN h1 with ⟨eo, rfl⟩ | ⟨i, eo, rfl⟩
    · tm_at "go"
      refine e_tupD ?_
      tm_at "go"
      refine tupend (ds := [.none, .tuple ((ev rs st ea).2.map .int)]) (.cons .non (.cons h2 .nil)) (Nat.le_of_ble_eq_true rfl) fun v9 H9 s9 h9 => ?_
      refine k _ _ (s1.trans s9) ?_
      have e1 : ev rs st (.ite ea eb ed) = (none, (ev rs st ea).2) := by rw [ev, thn1_none eo]
      rw [e1]
      exact h9
    · tm_at "go"
      refine s_asg ?_
      refine e_callF de ?_ (Nat.le_refl _)
      tm_at "go"
      refine t_val ?_
      tm_at "go"
      rw [nb2]
      refine ifd (fun c2 => ?_) (fun c2 => ?_)
      · tm_at "go"
        refine rx_tup (he.mono (tp_same s1)) (d := eb.d) rfl fun vb hvb => ?_
        tm_at "go"
        refine ⟨_, _, .cons (hc.mono (tp_same s1)) (.cons (hst.mono (tp_same s1)) (.cons hvb .nil)), ⟨rs, st, eb, rfl, ⟨S, fit.2.1, by omega, by omega⟩, rfl⟩, fun v H2 s2 hv => ?_⟩
        refine g_unp2 (by tm_at "at") (by tm_at "at") hv fun v3 v4 h3 h4 => ?_
        have e1 : ev rs st (.ite ea eb ed) = ((ev rs st eb).1, (ev rs st ea).2 ++ (ev rs st eb).2) := by rw [ev, thn1_val eo, if_pos c2]
        tm_at "go"
        refine e_tupD ?_
        tm_at "go"
        refine ro_catT (h2.mono (tp_same s2)) h4 (by have := lenLooks (rs := rs) (st := st) (e := ea) (n := n) (by omega) (by omega); have := lenLooks (rs := rs) (st := st) (e := eb) (n := n) (by omega) (by omega); omega) fun v8 H8 s8 h8 => ?_
        tm_at "go"
        refine tupend (ds := [optD (ev rs st eb).1, .tuple ((ev rs st ea).2.map .int ++ (ev rs st eb).2.map .int)]) (.cons (h3.mono (tp_same s8)) (.cons h8 .nil)) (Nat.le_of_ble_eq_true rfl) fun v9 H9 s9 h9 => ?_
        refine k _ _ (s1.trans (s2.trans (s8.trans s9))) ?_
        rw [e1, resD, List.map_append]
        exact h9
      · tm_at "go"
        refine rx_tup (he.mono (tp_same s1)) (d := ed.d) rfl fun vb hvb => ?_
        tm_at "go"
        refine ⟨_, _, .cons (hc.mono (tp_same s1)) (.cons (hst.mono (tp_same s1)) (.cons hvb .nil)), ⟨rs, st, ed, rfl, ⟨S, fit.2.2, by omega, by omega⟩, rfl⟩, fun v H2 s2 hv => ?_⟩
        refine g_unp2 (by tm_at "at") (by tm_at "at") hv fun v3 v4 h3 h4 => ?_
        have e1 : ev rs st (.ite ea eb ed) = ((ev rs st ed).1, (ev rs st ea).2 ++ (ev rs st ed).2) := by rw [ev, thn1_val eo, if_neg c2]
        tm_at "go"
        refine e_tupD ?_
        tm_at "go"
        refine ro_catT (h2.mono (tp_same s2)) h4 (by have := lenLooks (rs := rs) (st := st) (e := ea) (n := n) (by omega) (by omega); have := lenLooks (rs := rs) (st := st) (e := ed) (n := n) (by omega) (by omega); omega) fun v8 H8 s8 h8 => ?_
        tm_at "go"
        refine tupend (ds := [optD (ev rs st ed).1, .tuple ((ev rs st ea).2.map .int ++ (ev rs st ed).2.map .int)]) (.cons (h3.mono (tp_same s8)) (.cons h8 .nil)) (Nat.le_of_ble_eq_true rfl) fun v9 H9 s9 h9 => ?_
        refine k _ _ (s1.trans (s2.trans (s8.trans s9))) ?_
        rw [e1, resD, List.map_append]
        exact h9
end K

namespace K
open PySem L2 G
variable {M : Md}
def fullE : Ex → Prop
  | .bin op _ _ => isLazy op = false
  | .un _ _ => True
  | .kk _ _ _ => True
  | _ => False
def pts : Ex → List Ex
  | .bin _ a b => [a, b]
  | .un _ e => [e]
  | .kk _ e n => [e, .int n]
  | _ => []
def opOf : Ex → Str
  | .bin op _ _ => op
  | .un op _ => op
  | .kk op _ _ => op
  | _ => ""
theorem full_d {e : Ex} (h : fullE e) : e.d = .tuple (.str (opOf e) :: (pts e).map Ex.d) := by
  cases e with
  | bin => rfl
  | un => rfl
  | kk => rfl
  | int => exact h.elim
  | nm => exact h.elim
  | «at» => exact h.elim
  | ite => exact h.elim
abbrev Ress := Option (List Int) × List Int
def evs (rs : List Row) (st : St1) : List Ex → Ress
  | [] => (some [], [])
  | p :: ps => match (ev rs st p).1 with
    | none => (none, (ev rs st p).2)
    | some v => ((evs rs st ps).1.map (v :: ·), (ev rs st p).2 ++ (evs rs st ps).2)
def fullR (op : Str) (r : Ress) : Res := match r.1 with
  | none => (none, r.2)
  | some [] => (none, r.2)
  | some [v] => (some (un1 op v), r.2)
  | some (v :: w :: _) => (some (bin2 op v w), r.2)
theorem evs_none {rs : List Row} {st : St1} {p : Ex} {ps : List Ex} (h : (ev rs st p).1 = none) : evs rs st (p :: ps) = (none, (ev rs st p).2) := by
  rw [evs, h]
theorem evs_some {rs : List Row} {st : St1} {p : Ex} {ps : List Ex} {v : Int} (h : (ev rs st p).1 = some v) : evs rs st (p :: ps) = ((evs rs st ps).1.map (v :: ·), (ev rs st p).2 ++ (evs rs st ps).2) := by
  rw [evs, h]
theorem two_full (rs : List Row) (st : St1) (op : Str) (a b : Ex) : thn1 (ev rs st a) (fun v => thn1 (ev rs st b) fun w => (some (bin2 op v w), [])) = fullR op (evs rs st [a, b]) := by
  cases ea : (ev rs st a).1 with
  | none => rw [thn1_none ea, evs_none ea]; rfl
  | some v =>
    rw [thn1_val ea, evs_some ea]
    cases eb : (ev rs st b).1 with
    | none => rw [thn1_none eb, evs_none eb]; rfl
    | some w => rw [thn1_val eb, evs_some eb]; rfl
theorem ev_full {rs : List Row} {st : St1} {e : Ex} (h : fullE e) : ev rs st e = fullR (opOf e) (evs rs st (pts e)) := by
  cases e with
  | bin op a b =>
    have hf : isLazy op = false := h
    rw [ev, if_neg (by rw [hf]; decide), two_full]
    rfl
  | un op a =>
    rw [ev]
    show _ = fullR op (evs rs st [a])
    cases ea : (ev rs st a).1 with
    | none => rw [thn1_none ea, evs_none ea]; rfl
    | some v => rw [thn1_val ea, evs_some ea]; rfl
  | kk op a n =>
    rw [ev]
    show _ = fullR op (evs rs st [a, .int n])
    rw [← two_full]
    cases ea : (ev rs st a).1 with
    | none => rw [thn1_none ea, thn1_none ea]
    | some v => rw [thn1_val ea, thn1_val ea]; rfl
  | int => exact h.elim
  | nm => exact h.elim
  | «at» => exact h.elim
  | ite => exact h.elim
theorem cut1 {α : Type} (x : α) (l : List α) (h : l.length = 1 ∨ l.length = 2) : cutD (x :: l) (some 1) none = l := by
  match l, h with
  | [a], _ => rfl
  | [a, b], _ => rfl
theorem pts_len {e : Ex} (h : fullE e) : (pts e).length = 1 ∨ (pts e).length = 2 := by
  cases e with
  | bin => exact .inr rfl
  | un => exact .inl rfl
  | kk => exact .inr rfl
  | int => exact h.elim
  | nm => exact h.elim
  | «at» => exact h.elim
  | ite => exact h.elim
def rFull (n : Nat) : List PyData → PyData → Prop := fun ds d => ∃ (rs : List Row) (st : St1) (e : Ex), ds = [cellsD rs, stD st, e.d] ∧ fullE e ∧ EvIn rs st e (n + 1) ∧ d = resD (ev rs st e)
theorem pts_in {rs : List Row} {st : St1} {e : Ex} {n : Nat} (h : EvIn rs st e (n + 1)) : ∀ p ∈ pts e, EvIn rs st p n := by
  obtain ⟨S, fit, dep, n4⟩ := h
  have h4 : n ≤ 4 := by omega
  cases e with
  | bin op a b =>
    unfold Fit at fit
    unfold Ex.dep at dep
    intro p hp
    rcases List.mem_cons.mp hp with rfl | hp
    · exact ⟨S, fit.2.1, by omega, h4⟩
    rcases List.mem_cons.mp hp with rfl | hp
    · exact ⟨S, fit.2.2, by omega, h4⟩
    cases hp
  | un op a =>
    unfold Fit at fit
    unfold Ex.dep at dep
    intro p hp
    rcases List.mem_cons.mp hp with rfl | hp
    · exact ⟨S, fit.2, by omega, h4⟩
    cases hp
  | kk op a k =>
    unfold Fit at fit
    unfold Ex.dep at dep
    intro p hp
    rcases List.mem_cons.mp hp with rfl | hp
    · exact ⟨S, fit.2.1, by omega, h4⟩
    rcases List.mem_cons.mp hp with rfl | hp
    · exact ⟨S, by unfold Fit; omega, Nat.zero_le _, h4⟩
    cases hp
  | int => exact fun _ h => nomatch h
  | nm => exact fun _ h => nomatch h
  | «at» => exact fun _ h => nomatch h
  | ite => exact fun _ h => nomatch h
theorem evs_bd {rs : List Row} {st : St1} {n : Nat} : ∀ {ps : List Ex} {vs : List Int}, (∀ p ∈ ps, EvIn rs st p n) → (evs rs st ps).1 = some vs → (∀ v ∈ vs, v.natAbs ≤ Bd n) ∧ vs.length = ps.length
  | [], vs, _, h => by
    rw [evs] at h
    cases h
    exact ⟨(fun _ h => nomatch h), rfl⟩
  | p :: ps, vs, hp, h => by
    have h1 := hp p (List.mem_cons_self ..)
    cases e : (ev rs st p).1 with
    | none => rw [evs_none e] at h; cases h
    | some v =>
      rw [evs_some e] at h
      obtain ⟨ws, hw, rfl⟩ := Option.map_eq_some_iff.mp h
      obtain ⟨h2, h3⟩ := evs_bd (fun q hq => hp q (List.mem_cons_of_mem _ hq)) hw
      refine ⟨fun w hw => ?_, by rw [List.length_cons, List.length_cons, h3]⟩
      rcases List.mem_cons.mp hw with rfl | hw
      · exact evB h1.S p n _ h1.dep h1.fit e
      · exact h2 w hw
set_option maxHeartbeats 2000000 in
theorem ok_full (n : Nat) {f fd} (F : Fun M.K "_full_value" "_full_value" s__full_value f fd) (b : Bl M) (de : dcEv M n) (d1 : Dc M "_of_one" ["op", "value"] 1 (spF rOne M.K)) (d2 : Dc M "value_of_two" ["op", "one", "other"] 2 (spF rTwo M.K)) : FnG M.prog M.w M.K M.mg M.base CX0 (2 * n + 5) f fd ["cells", "state", "expression"] (spF (rFull n) M.K) := by
  refine fn_ok F sc__full_value (fun vs H Q E h => ?_) (fun H vs Q E h => ?_)
  · obtain ⟨ds, d, h, ⟨rs, st, e, rfl, _⟩, _⟩ := h
    exact h.len
  obtain ⟨ds, d, h, ⟨rs, st, e, rfl, hl, hi, rfl⟩, k⟩ := h
  obtain _ | ⟨hc, h⟩ := h
  obtain _ | ⟨hst, h⟩ := h
  obtain _ | ⟨he, h⟩ := h
  cases h
  rename_i vc vst ve
  rw [full_d hl] at he
  have hpi := pts_in hi
  have hpl := pts_len hl
  have n3 : n ≤ 3 := by have := hi.n4; omega
  tm_at "go"
  refine e_lstD ?_
  tm_at "go"
  refine ⟨by decide, fun l H1 s1 n1 g1 => ?_⟩
  tm_at "go"
  refine e_tupD ?_
  tm_at "go"
  refine tupend (ds := []) .nil (Nat.le_of_ble_eq_true rfl) fun vk0 H2 s2 h2 => ?_
  tm_at "go"
  refine s_forT ?_
  tm_at "go"
  refine rsl_tup (he.mono (tp_same (s1.trans s2))) fun vp H3 s3 hvp => ?_
  rw [cut1 _ _ (by rw [List.length_map]; exact hpl)] at hvp
  obtain ⟨a, xs, rfl, hxs, hns⟩ := hvp.tupE
  have hle := hns.len
  rw [List.length_map] at hle
  have s13 := s1.trans (s2.trans s3)
  refine ⟨a, xs, rfl, hxs, fun i σ1 H' => ∃ (vs lk : List Int) (vlk : V) (v5 v6 v7 : Option V), σ1 = [some vc, some vst, some ve, some (.ref l), some vlk, v5, v6, v7] ∧ Same H H' ∧ Tp H3 H' ∧ H' l = some (.lst (vs.map V.int)) ∧ Dt M.K H' vlk (.tuple (lk.map .int)) ∧
    evs rs st (pts e) = ((evs rs st ((pts e).drop i)).1.map (vs ++ ·), lk ++ (evs rs st ((pts e).drop i)).2) ∧ vs.length ≤ i ∧ lk.length ≤ 32 * i, ⟨[], [], vk0, _, _, _, rfl, s13, Tp.refl _, (s2.trans s3) _ _ g1, h2.mono (tp_same s3), ?_, Nat.le_refl _, Nat.le_refl _⟩, ?_, ?_, ?_⟩
  · simp
  · rintro i σ' H' _ ⟨vs, lk, vlk, v5, v6, v7, rfl, s, t, _⟩
    exact t.sqt hxs
  · rintro i x σ' H4 hx ⟨vs, lk, vlk, v5, v6, v7, rfl, s4, t4, g4, hlk, hev, lv, llk⟩
    obtain ⟨d, hd, hx'⟩ := hns.getV hx
    rw [List.getElem?_map] at hd
    obtain ⟨p, hp, rfl⟩ := Option.map_eq_some_iff.mp hd
    have hpin := hpi p (List.mem_of_getElem? hp)
    have ed : (pts e).drop i = p :: (pts e).drop (i + 1) := by
      obtain ⟨h1, h2⟩ := List.getElem?_eq_some_iff.mp hp
      rw [← h2]; exact List.drop_eq_getElem_cons h1
    have hi2 : i < 2 := by
      have := (List.getElem?_eq_some_iff.mp hx).1
      omega
    rw [ed] at hev
    refine g_name (by tm_at "at") ?_
    refine b_cons (s_asg ?_)
    refine e_callF de ?_ (Nat.le_refl _)
    tm_at "go"
    refine ⟨_, _, .cons (hc.mono (tp_same s4)) (.cons (hst.mono (tp_same s4)) (.cons (hx'.mono t4) .nil)), ⟨rs, st, p, rfl, hpin, rfl⟩, fun v H5 s5 hv => ?_⟩
    refine g_unp2 (by tm_at "at") (by tm_at "at") hv fun v1 v2 h1 h2 => ?_
    have llp := lenLooks (rs := rs) (st := st) (e := p) hpin.dep hpin.n4
    tm_at "go"
    refine ro_catT (hlk.mono (tp_same s5)) h2 (by rw [List.length_map (as := lk)]; omega) fun v8 H8 s8 h8 => ?_
    rw [List.length_map] at llp
    rcases optN h1 with ⟨eo, rfl⟩ | ⟨w, eo, rfl⟩
    · tm_at "go"
      refine e_tupD ?_
      tm_at "go"
      refine tupend (ds := [.none, .tuple (lk.map .int ++ (ev rs st p).2.map .int)]) (.cons .non (.cons h8 .nil)) (Nat.le_of_ble_eq_true rfl) fun v9 H9 s9 h9 => ?_
      refine k _ _ (s4.trans (s5.trans (s8.trans s9))) ?_
      rw [ev_full hl, hev, evs_none eo, resD]
      show Dt _ _ _ (.tuple [.none, .tuple ((lk ++ (ev rs st p).2).map .int)])
      rw [List.map_append]
      exact h9
    · tm_at "go"
      refine s_expr ?_
      refine e_app ?_
      tm_at "go"
      have g8 := (s5.trans s8) _ _ g4
      have ku := kp_upd (o' := .lst (vs.map V.int ++ [.int w])) g8 (fun _ e => nomatch e) (fun _ _ e => nomatch e)
      refine ⟨l, _, rfl, g8, ?_⟩
      tm_at "go"
      refine ⟨_, g8, by rw [List.length_map]; omega, ?_⟩
      refine ⟨vs ++ [w], lk ++ (ev rs st p).2, v8, _, _, _, rfl, same_mut (s4.trans (s5.trans s8)) n1, t4.trans ((tp_same (s5.trans s8)).trans ku.t), ?_, ?_, ?_, ?_, ?_⟩
      · rw [List.map_append]; exact upd_same
      · rw [List.map_append]; exact h8.mono ku.t
      · rw [hev, evs_some eo]
        simp [Function.comp_def]
      · rw [List.length_append]; exact Nat.succ_le_succ lv
      · rw [List.length_append]; omega
  · rintro σ' H4 ⟨vs, lk, vlk, v5, v6, v7, rfl, s4, t4, g4, hlk, hev, lv, llk⟩
    rw [List.drop_eq_nil_of_le (by omega), evs] at hev
    have hev' : evs rs st (pts e) = (some vs, lk) := by rw [hev]; simp
    obtain ⟨hbd, hlen⟩ := evs_bd hpi (vs := vs) (by rw [hev'])
    have hB : Bd n < 2 ^ 400 := Nat.lt_of_le_of_lt (Bd_mono n3) (by decide)
    have hres : ev rs st e = fullR (opOf e) (some vs, lk) := by rw [ev_full hl, hev']
    tm_at "go"
    refine rc_lenL (.of g4) ?_
    tm_at "go"
    match vs, hlen with
    | [], h0 => exact absurd h0 (by simp; omega)
    | [v], h0 =>
      refine ifT rfl ?_
      tm_at "go"
      refine e_tupD ?_
      tm_at "go"
      refine e_callF d1 ?_
      tm_at "go"
      refine rx_str (he.mono (tp_same s4)) (n := opOf e) (pl_at (j := 0) rfl rfl) ?_
      tm_at "go"
      refine rx_list (.of g4) (v := .int v) (by rfl) ?_
      tm_at "go"
      refine ⟨_, _, .cons (.str _) (.cons (.int _) .nil), ⟨opOf e, v, rfl, rfl⟩, fun v3 H5 s5 hv3 => ?_⟩
      tm_at "go"
      refine tupend (ds := [.int (un1 (opOf e) v), .tuple (lk.map .int)]) (.cons hv3 (.cons (hlk.mono (tp_same s5)) .nil)) (Nat.le_of_ble_eq_true rfl) fun v9 H9 s9 h9 => ?_
      refine k _ _ (s4.trans (s5.trans s9)) ?_
      rw [hres]
      exact h9
    | [v, w], h0 =>
      refine ifF (by simp) ?_
      tm_at "go"
      refine e_tupD ?_
      tm_at "go"
      refine e_callF d2 ?_
      tm_at "go"
      refine rx_str (he.mono (tp_same s4)) (n := opOf e) (pl_at (j := 0) rfl rfl) ?_
      tm_at "go"
      refine rx_list (.of g4) (v := .int v) (by rfl) ?_
      tm_at "go"
      refine rx_list (.of g4) (v := .int w) (by rfl) ?_
      tm_at "go"
      have hv := Nat.lt_of_le_of_lt (hbd v (by simp)) hB
      have hw := Nat.lt_of_le_of_lt (hbd w (by simp)) hB
      have hdm : opOf e = "div" ∨ opOf e = "mod" → 1 ≤ w ∧ w < 1000 := by
        intro hop
        obtain ⟨_, fit, _, _⟩ := hi
        cases e with
        | bin op a b =>
          have := kind_bin fit.1
          exact hop.elim (fun z => absurd z this.1) (fun z => absurd z this.2)
        | un op a => exact absurd h0 (by show ¬ (2 = 1); decide)
        | kk op a kn =>
          have hk := fit.2.2
          have h2 : evs rs st [a, .int kn] = (some [v, w], lk) := hev'
          cases ea : (ev rs st a).1 with
          | none => rw [evs_none ea] at h2; cases (Prod.mk.inj h2).1
          | some x =>
            rw [evs_some ea] at h2
            have h3 := (Prod.mk.inj h2).1
            have h4 : (evs rs st [.int kn]).1 = some [kn] := rfl
            rw [h4] at h3
            simp at h3
            omega
        | int => exact hl.elim
        | nm => exact hl.elim
        | «at» => exact hl.elim
        | ite => exact hl.elim
      refine ⟨_, _, .cons (.str _) (.cons (.int _) (.cons (.int _) .nil)), ⟨opOf e, v, w, rfl, ⟨hv, hw⟩, hdm, rfl⟩, fun v3 H5 s5 hv3 => ?_⟩
      tm_at "go"
      refine tupend (ds := [.int (bin2 (opOf e) v w), .tuple (lk.map .int)]) (.cons hv3 (.cons (hlk.mono (tp_same s5)) .nil)) (Nat.le_of_ble_eq_true rfl) fun v9 H9 s9 h9 => ?_
      refine k _ _ (s4.trans (s5.trans s9)) ?_
      rw [hres]
      exact h9
    | _ :: _ :: _ :: _, h0 => exact absurd h0 (by simp; omega)
end K

namespace K
open PySem L2 G
variable {M : Md}
def lazyW : List Str := ["and", "or", "if"]
structure Lz (M : Md) : Prop where
  ex : ∃ aL, M.mg "LAZY" = some (.ref aL) ∧ ∀ H, SqT M.K H aL (lazyW.map V.str)
abbrev dcIx (M : Md) : Prop := DcV M "cell_index" ["cells", "name", "key"] [.non] 3 (spF rIndex M.K)
theorem thn1_keyed {rs : List Row} {st : St1} {t : Str} {e : Ex} : ev rs st (.at t e) = thn1 (keyed rs t (ev rs st e)) fun j => (some (gt st j), [j]) := by rw [ev]
theorem keyed_in {rs : List Row} {st : St1} {t : Str} {e : Ex} {j : Int} (h : (keyed rs t (ev rs st e)).1 = some j) : 0 ≤ j ∧ j < total rs := by
  unfold keyed at h
  split at h
  · cases h
  · have := fIdx_in h
    omega
theorem bins_at : ∀ op ∈ bins, op ≠ "at" ∧ (op ∈ lazyW → isLazy op = true) ∧ (op ∉ lazyW → isLazy op = false) := by decide +kernel
theorem uns_at : ∀ op ∈ uns, op ≠ "at" ∧ op ∉ lazyW := by decide +kernel
theorem kks_at : ∀ op ∈ kks, op ≠ "at" ∧ op ∉ lazyW := by decide +kernel
set_option maxHeartbeats 2000000 in
theorem ok_ev (n : Nat) {f fd} (F : Fun M.K "evaluated" "evaluated" s_evaluated f fd) (b : Bl M) (lz : Lz M) (dx : dcIx M)
    (rec : ∀ m, n = m + 1 → Dc M "keyed_index" ["cells", "state", "table", "key"] (2 * m + 5) (spF (rKey m) M.K) ∧ Dc M "_lazy_value" ["cells", "state", "expression"] (2 * m + 5) (spF (rLazy m) M.K) ∧ Dc M "_full_value" ["cells", "state", "expression"] (2 * m + 5) (spF (rFull m) M.K)) :
    FnG M.prog M.w M.K M.mg M.base CX0 (2 * n + 4) f fd ["cells", "state", "expression"] (spF (rEv n) M.K) := by
  refine fn_ok F sc_evaluated (fun vs H Q E h => ?_) (fun H vs Q E h => ?_)
  · obtain ⟨ds, d, h, ⟨rs, st, e, rfl, _⟩, _⟩ := h
    exact h.len
  obtain ⟨ds, d, h, ⟨rs, st, e, rfl, hi, rfl⟩, k⟩ := h
  obtain _ | ⟨hc, h⟩ := h
  obtain _ | ⟨hst, h⟩ := h
  obtain _ | ⟨he, h⟩ := h
  cases h
  rename_i vc vst ve
  have S := hi.S
  refine b_cut (fun σ1 H' => isIntD e.d = false ∧ Same H H' ∧ σ1 = [some vc, some vst, some ve, none, none]) ?_ ?_
  · tm_at "go"
    refine t_val ?_
    tm_at "go"
    refine rc_isiD e.plain he ?_
    have s1 := Same.refl H
    refine ⟨_, rfl, ifb (fun c1 => ?_) (fun c1 => ?_)⟩
    · tm_at "go"
      refine e_tupD ?_
      tm_at "go"
      refine e_tupD ?_
      tm_at "go"
      refine tupend (ds := []) .nil (Nat.le_of_ble_eq_true rfl) fun v2 H2 s2 h2 => ?_
      tm_at "go"
      refine tupend (ds := [e.d, .tuple []]) (.cons (he.mono (tp_same (s1.trans s2))) (.cons h2 .nil)) (Nat.le_of_ble_eq_true rfl) fun v9 H9 s9 h9 => ?_
      refine k _ _ (s1.trans (s2.trans s9)) ?_
      cases e with
      | int i => exact h9
      | nm => cases c1
      | «at» => cases c1
      | un => cases c1
      | bin => cases c1
      | kk => cases c1
      | ite => cases c1
    · tm_at "go"
      exact ⟨c1, s1, rfl⟩
  rintro _ H1 ⟨ci, s1, rfl⟩
  have he1 := he.mono (tp_same s1)
  cases e with
  | int => cases ci
  | nm s =>
    cases he1
    tm_at "go"
    refine t_val ?_
    tm_at "go"
    refine rc_isi (.base (.str s)) rfl ?_
    refine ⟨true, rfl, ift ?_⟩
    obtain ⟨hx, x0, x1⟩ := ix_ok S.nd hi.fit
    tm_at "go"
    refine e_callV dx ?_
    tm_at "go"
    refine ⟨_, _, .cons (hc.mono (tp_same s1)) (.cons (.str _) (.cons .non .nil)), ⟨rs, s, ix rs s, rfl, hx, rfl⟩, fun v H2 s2 hv => ?_⟩
    cases hv
    tm_at "go"
    refine e_tupD ?_
    tm_at "go"
    refine rx_int (hst.mono (tp_same (s1.trans s2))) (gt_at S x0 x1) ?_
    tm_at "go"
    refine e_tupD ?_
    tm_at "go"
    refine tupend (ds := [.int (ix rs s)]) (by tm_at "dts") (Nat.le_of_ble_eq_true rfl) fun v3 H3 s3 h3 => ?_
    tm_at "go"
    refine tupend (ds := [.int (gt st (ix rs s)), .tuple [.int (ix rs s)]]) (.cons (.int _) (.cons h3 .nil)) (Nat.le_of_ble_eq_true rfl) fun v9 H9 s9 h9 => ?_
    refine k _ _ (s1.trans (s2.trans (s3.trans s9))) ?_
    rw [ev]
    exact h9
  | «at» t e =>
    obtain ⟨m, rfl⟩ : ∃ m, n = m + 1 := ⟨n - 1, by have := hi.dep; unfold Ex.dep at this; omega⟩
    obtain ⟨dk, dl, df⟩ := rec m rfl
    have hi' : EvIn rs st e m := ⟨S, hi.fit.2, by have := hi.dep; unfold Ex.dep at this; omega, by have := hi.n4; omega⟩
    obtain ⟨ae, xe, rfl, hte, hde⟩ := he1.tupE
    tm_at "go"
    refine t_val ?_
    tm_at "go"
    refine rc_isi (ty_tup hte) rfl ?_
    refine ⟨false, rfl, iff0 ?_⟩
    tm_at "go"
    refine s_asg ?_
    refine e_callF dk ?_ (by show 2 * m + 5 ≤ 2 * (m + 1) + 3; omega)
    tm_at "go"
    refine rx_tup he1 (d := e.d) rfl fun v2 h2 => ?_
    tm_at "go"
    refine ⟨_, _, .cons (hc.mono (tp_same s1)) (.cons (hst.mono (tp_same s1)) (.cons (.str _) (.cons h2 .nil))), ⟨rs, st, t, e, rfl, hi', rfl⟩, fun v H2 s2 hv => ?_⟩
    refine g_unp2 (by tm_at "at") (by tm_at "at") hv fun v3 v4 h3 h4 => ?_
    rcases optN h3 with ⟨eo, rfl⟩ | ⟨j, eo, rfl⟩
    · tm_at "go"
      refine e_tupD ?_
      tm_at "go"
      refine tupend (ds := [.none, .tuple ((keyed rs t (ev rs st e)).2.map .int)]) (.cons .non (.cons h4 .nil)) (Nat.le_of_ble_eq_true rfl) fun v9 H9 s9 h9 => ?_
      refine k _ _ (s1.trans (s2.trans s9)) ?_
      rw [thn1_keyed, thn1_none eo]
      exact h9
    · obtain ⟨j0, j1⟩ := keyed_in eo
      tm_at "go"
      refine e_tupD ?_
      tm_at "go"
      refine rx_int (hst.mono (tp_same (s1.trans s2))) (gt_at S j0 j1) ?_
      tm_at "go"
      refine e_tupD ?_
      tm_at "go"
      refine tupend (ds := [.int j]) (by tm_at "dts") (Nat.le_of_ble_eq_true rfl) fun v5 H5 s5 h5 => ?_
      refine ro_catT (h4.mono (tp_same s5)) h5 (by have := lenLooks (rs := rs) (st := st) (e := e) hi'.dep hi'.n4; rw [keyed_snd, List.length_singleton]; omega) fun v8 H8 s8 h8 => ?_
      tm_at "go"
      refine tupend (ds := [.int (gt st j), .tuple ((keyed rs t (ev rs st e)).2.map .int ++ [.int j])]) (.cons (.int _) (.cons h8 .nil)) (Nat.le_of_ble_eq_true rfl) fun v9 H9 s9 h9 => ?_
      refine k _ _ (s1.trans (s2.trans (s5.trans (s8.trans s9)))) ?_
      rw [thn1_keyed, thn1_val eo, resD, List.map_append]
      exact h9
  | ite ea eb ed =>
    obtain ⟨m, rfl⟩ : ∃ m, n = m + 1 := ⟨n - 1, by have := hi.dep; unfold Ex.dep at this; omega⟩
    obtain ⟨dk, dl, df⟩ := rec m rfl
    obtain ⟨aL, hL, hS⟩ := lz.ex
    obtain ⟨ae, xe, rfl, hte, hde⟩ := he1.tupE
    tm_at "go"
    refine t_val ?_
    tm_at "go"
    refine rc_isi (ty_tup hte) rfl ?_
    refine ⟨false, rfl, iff0 ?_⟩
    tm_at "go"
    refine e_glob (v := .ref aL) hL rfl ?_
    refine ro_inST (ws := lazyW) (.tup (hS _) (dtStrs lazyW)) ?_
    refine ⟨_, rfl, ifT (by decide +kernel) ?_⟩
    tm_at "go"
    refine e_callF dl ?_ (by show 2 * m + 5 ≤ 2 * (m + 1) + 3; omega)
    tm_at "go"
    exact ⟨_, _, .cons (hc.mono (tp_same s1)) (.cons (hst.mono (tp_same s1)) (.cons he1 .nil)), ⟨rs, st, _, rfl, trivial, hi, rfl⟩, fun v H2 s2 hv => k _ _ (s1.trans s2) hv⟩
  | bin op ea eb =>
    obtain ⟨m, rfl⟩ : ∃ m, n = m + 1 := ⟨n - 1, by have := hi.dep; unfold Ex.dep at this; omega⟩
    obtain ⟨dk, dl, df⟩ := rec m rfl
    obtain ⟨aL, hL, hS⟩ := lz.ex
    obtain ⟨ae, xe, rfl, hte, hde⟩ := he1.tupE
    have hop := bins_at op hi.fit.1
    tm_at "go"
    refine t_val ?_
    tm_at "go"
    refine rc_isi (ty_tup hte) rfl ?_
    refine ⟨false, rfl, iff0 ?_⟩
    tm_at "go"
    refine ifd (fun c => absurd c hop.1) (fun _ => ?_)
    tm_at "go"
    refine e_glob (v := .ref aL) hL rfl ?_
    refine ro_inST (ws := lazyW) (.tup (hS _) (dtStrs lazyW)) ?_
    refine ⟨_, rfl, ifd (fun c2 => ?_) (fun c2 => ?_)⟩
    · tm_at "go"
      refine e_callF dl ?_ (by show 2 * m + 5 ≤ 2 * (m + 1) + 3; omega)
      tm_at "go"
      exact ⟨_, _, .cons (hc.mono (tp_same s1)) (.cons (hst.mono (tp_same s1)) (.cons he1 .nil)), ⟨rs, st, _, rfl, hop.2.1 c2, hi, rfl⟩, fun v H2 s2 hv => k _ _ (s1.trans s2) hv⟩
    · tm_at "go"
      refine e_callF df ?_ (by show 2 * m + 5 ≤ 2 * (m + 1) + 3; omega)
      tm_at "go"
      exact ⟨_, _, .cons (hc.mono (tp_same s1)) (.cons (hst.mono (tp_same s1)) (.cons he1 .nil)), ⟨rs, st, _, rfl, hop.2.2 c2, hi, rfl⟩, fun v H2 s2 hv => k _ _ (s1.trans s2) hv⟩
  | un op ea =>
    obtain ⟨m, rfl⟩ : ∃ m, n = m + 1 := ⟨n - 1, by have := hi.dep; unfold Ex.dep at this; omega⟩
    obtain ⟨dk, dl, df⟩ := rec m rfl
    obtain ⟨aL, hL, hS⟩ := lz.ex
    obtain ⟨ae, xe, rfl, hte, hde⟩ := he1.tupE
    have hop := uns_at op hi.fit.1
    tm_at "go"
    refine t_val ?_
    tm_at "go"
    refine rc_isi (ty_tup hte) rfl ?_
    refine ⟨false, rfl, iff0 ?_⟩
    tm_at "go"
    refine ifd (fun c => absurd c hop.1) (fun _ => ?_)
    tm_at "go"
    refine e_glob (v := .ref aL) hL rfl ?_
    refine ro_inST (ws := lazyW) (.tup (hS _) (dtStrs lazyW)) ?_
    refine ⟨_, rfl, ifd (fun c2 => absurd c2 hop.2) (fun c2 => ?_)⟩
    · tm_at "go"
      refine e_callF df ?_ (by show 2 * m + 5 ≤ 2 * (m + 1) + 3; omega)
      tm_at "go"
      exact ⟨_, _, .cons (hc.mono (tp_same s1)) (.cons (hst.mono (tp_same s1)) (.cons he1 .nil)), ⟨rs, st, _, rfl, trivial, hi, rfl⟩, fun v H2 s2 hv => k _ _ (s1.trans s2) hv⟩
  | kk op ea kn =>
    obtain ⟨m, rfl⟩ : ∃ m, n = m + 1 := ⟨n - 1, by have := hi.dep; unfold Ex.dep at this; omega⟩
    obtain ⟨dk, dl, df⟩ := rec m rfl
    obtain ⟨aL, hL, hS⟩ := lz.ex
    obtain ⟨ae, xe, rfl, hte, hde⟩ := he1.tupE
    have hop := kks_at op hi.fit.1
    tm_at "go"
    refine t_val ?_
    tm_at "go"
    refine rc_isi (ty_tup hte) rfl ?_
    refine ⟨false, rfl, iff0 ?_⟩
    tm_at "go"
    refine ifd (fun c => absurd c hop.1) (fun _ => ?_)
    tm_at "go"
    refine e_glob (v := .ref aL) hL rfl ?_
    refine ro_inST (ws := lazyW) (.tup (hS _) (dtStrs lazyW)) ?_
    refine ⟨_, rfl, ifd (fun c2 => absurd c2 hop.2) (fun c2 => ?_)⟩
    · tm_at "go"
      refine e_callF df ?_ (by show 2 * m + 5 ≤ 2 * (m + 1) + 3; omega)
      tm_at "go"
      exact ⟨_, _, .cons (hc.mono (tp_same s1)) (.cons (hst.mono (tp_same s1)) (.cons he1 .nil)), ⟨rs, st, _, rfl, trivial, hi, rfl⟩, fun v H2 s2 hv => k _ _ (s1.trans s2) hv⟩
end K

namespace K
open PySem L2 G
variable {M : Md}
def rVal (n : Nat) : List PyData → PyData → Prop := fun ds d => ∃ (rs : List Row) (st : St1) (e : Ex), ds = [cellsD rs, stD st, e.d] ∧ EvIn rs st e n ∧ d = optD (ev rs st e).1
theorem ok_value (n : Nat) {f fd} (F : Fun M.K "value_in" "value_in" s_value_in f fd) (b : Bl M) (de : dcEv M n) : FnG M.prog M.w M.K M.mg M.base CX0 (2 * n + 5) f fd ["cells", "state", "expression"] (spF (rVal n) M.K) := by
  refine fn_ok F sc_value_in (fun vs H Q E h => ?_) (fun H vs Q E h => ?_)
  · obtain ⟨ds, d, h, ⟨rs, st, e, rfl, _⟩, _⟩ := h
    exact h.len
  obtain ⟨ds, d, h, ⟨rs, st, e, rfl, hi, rfl⟩, k⟩ := h
  obtain _ | ⟨hc, h⟩ := h
  obtain _ | ⟨hst, h⟩ := h
  obtain _ | ⟨he, h⟩ := h
  cases h
  refine b_cons (s_asg ?_)
  refine e_callF de ?_ (Nat.le_refl _)
  tm_at "go"
  refine ⟨_, _, .cons hc (.cons hst (.cons he .nil)), ⟨rs, st, e, rfl, hi, rfl⟩, fun v H1 s1 hv => ?_⟩
  refine g_unp2 (by tm_at "at") (by tm_at "at") hv fun v1 v2 h1 h2 => ?_
  tm_at "go"
  exact k _ _ s1 h1
def firsts (lk : List Int) : List Int := lk.foldl (fun seen j => if j ∈ seen then seen else seen ++ [j]) []
def lookD (st : St1) (j : Int) : PyData := .tuple [.int j, .int (gt st j)]
def looksD (st : St1) (lk : List Int) : PyData := .tuple ((firsts lk).map (lookD st))
theorem firsts_snoc {lk : List Int} {i : Nat} {j : Int} (h : lk[i]? = some j) : firsts (lk.take (i + 1)) = if j ∈ firsts (lk.take i) then firsts (lk.take i) else firsts (lk.take i) ++ [j] := by
  obtain ⟨h1, rfl⟩ := List.getElem?_eq_some_iff.mp h
  rw [List.take_succ_eq_append_getElem h1, firsts, List.foldl_append]
  rfl
theorem firsts_len (lk : List Int) : (firsts lk).length ≤ lk.length := by
  have : ∀ (l seen : List Int), (l.foldl (fun seen j => if j ∈ seen then seen else seen ++ [j]) seen).length ≤ seen.length + l.length := by
    intro l
    induction l with
    | nil => intro seen; exact Nat.le_refl _
    | cons j l ih =>
      intro seen
      have h := ih (if j ∈ seen then seen else seen ++ [j])
      rw [List.foldl_cons, List.length_cons]
      split at h
      · rename_i hj; rw [if_pos hj]; omega
      · rename_i hj; rw [if_neg hj]; rw [List.length_append, List.length_singleton] at h; omega
  have h := this lk []
  simpa [firsts] using h
theorem firsts_mem {lk : List Int} {j : Int} : j ∈ firsts lk ↔ j ∈ lk := by
  have : ∀ (l seen : List Int), j ∈ (l.foldl (fun seen j => if j ∈ seen then seen else seen ++ [j]) seen) ↔ j ∈ seen ∨ j ∈ l := by
    intro l
    induction l with
    | nil => intro seen; simp
    | cons x l ih =>
      intro seen
      rw [List.foldl_cons, ih, List.mem_cons]
      split
      · rename_i hx
        constructor
        · rintro (h | h)
          · exact .inl h
          · exact .inr (.inr h)
        · rintro (h | rfl | h)
          · exact .inl h
          · exact .inl hx
          · exact .inr h
      · rw [List.mem_append, List.mem_singleton, or_assoc]
  rw [firsts, this]
  simp
theorem firsts_nodup (lk : List Int) : (firsts lk).Nodup := by
  have : ∀ (l seen : List Int), seen.Nodup → (l.foldl (fun seen j => if j ∈ seen then seen else seen ++ [j]) seen).Nodup := by
    intro l
    induction l with
    | nil => intro seen h; exact h
    | cons x l ih =>
      intro seen h
      rw [List.foldl_cons]
      refine ih _ ?_
      split
      · exact h
      · rename_i hx
        rw [List.nodup_append]
        refine ⟨h, by simp, ?_⟩
        intro a ha b hb
        rw [List.mem_singleton.mp hb]
        rintro rfl
        exact hx ha
  exact this lk [] List.nodup_nil
theorem inI (j : Int) (l : List Int) : inV (.int j) (l.map .int) = decide (j ∈ l) := by
  unfold inV
  rw [Bool.eq_iff_iff, List.any_eq_true, decide_eq_true_iff]
  constructor
  · rintro ⟨y, hy, h⟩
    obtain ⟨z, hz, rfl⟩ := List.mem_map.mp hy
    have : z = j := by simpa [eqV] using h
    rw [← this]; exact hz
  · intro h
    exact ⟨.int j, List.mem_map.mpr ⟨j, h, rfl⟩, by simp [eqV]⟩
theorem ro_notInI {c : Cd} {H : Hp} {Q : VK} {l : Addr} {j : Int} {js : List Int} (hl : H l = some (.lst (js.map V.int))) (q : Q (.bl (!decide (j ∈ js))) H) : RQ c .NotIn (.int j) (.ref l) H Q := by
  refine rq_of (r := rIn c.K true) (fun X h => by rw [← h.K]; exact op_notIn_seq) ⟨l, _, rfl, .inl (.of hl), rfl, by simp [flatV], ?_⟩
  show Q (.bl (!inV (.int j) (js.map .int))) H
  rw [inI]
  exact q
def rFirst : List PyData → PyData → Prop := fun ds d => ∃ (rs : List Row) (st : St1) (lk : List Int), ds = [stD st, .tuple (lk.map .int)] ∧ StOk rs st ∧ (∀ j ∈ lk, 0 ≤ j ∧ j < total rs) ∧ lk.length ≤ 900 ∧ d = looksD st lk
theorem ok_first {f fd} (F : Fun M.K "first_looks" "first_looks" s_first_looks f fd) (b : Bl M) : FnG M.prog M.w M.K M.mg M.base CX0 1 f fd ["state", "looks"] (spZ rFirst M.K) := by
  refine fn_ok F sc_first_looks (fun vs H Q E h => ?_) (fun H vs Q E h => ?_)
  · obtain ⟨ds, d, h, ⟨rs, st, lk, rfl, _⟩, _⟩ := h
    exact h.len
  obtain ⟨ds, d, h, ⟨rs, st, lk, rfl, S, hin, hll, rfl⟩, k⟩ := h
  obtain _ | ⟨hst, h⟩ := h
  obtain _ | ⟨hlk, h⟩ := h
  cases h
  rename_i vst vlk
  obtain ⟨a, xs, rfl, hxs, hns⟩ := hlk.tupE
  have hle := hns.len
  rw [List.length_map] at hle
  tm_at "go"
  refine e_lstD ?_
  tm_at "go"
  refine ⟨by decide, fun l H1 s1 n1 g1 => ?_⟩
  tm_at "go"
  refine s_forT ?_
  tm_at "go"
  refine ⟨a, xs, rfl, (tp_same s1).sqt hxs, fun i σ1 H' => ∃ (v3 : Option V), σ1 = [some vst, some (.ref a), some (.ref l), v3] ∧ Same H H' ∧ H' l = some (.lst ((firsts (lk.take i)).map V.int)), ⟨_, rfl, s1, g1⟩, ?_, ?_, ?_⟩
  · rintro i σ' H' _ ⟨v3, rfl, s, _⟩
    exact (tp_same s).sqt hxs
  · rintro i x σ' H2 hx ⟨v3, rfl, s2, g2⟩
    obtain ⟨d, hd, hx'⟩ := hns.getV hx
    rw [List.getElem?_map] at hd
    obtain ⟨j, hj, rfl⟩ := Option.map_eq_some_iff.mp hd
    cases hx'
    refine g_name (by tm_at "at") ?_
    tm_at "go"
    refine ro_notInI g2 ?_
    refine ⟨_, rfl, ifnd (fun c1 => ?_) (fun c1 => ?_)⟩
    · refine b_one (s_expr ?_)
      refine e_app ?_
      tm_at "go"
      refine ⟨l, _, rfl, g2, ?_⟩
      tm_at "go"
      refine ⟨_, g2, by rw [List.length_map]; have := firsts_len (lk.take i); have : (lk.take i).length ≤ lk.length := by rw [List.length_take]; omega
                        omega, ?_⟩
      refine ⟨_, rfl, same_mut s2 n1, ?_⟩
      rw [firsts_snoc hj, if_neg c1, List.map_append]
      exact upd_same
    · tm_at "go"
      refine ⟨s2, ?_⟩
      rw [firsts_snoc hj, if_pos c1]
      exact g2
  · rintro σ' H2 ⟨v3, rfl, s2, g2⟩
    rw [hle, List.take_length] at g2
    tm_at "go"
    refine e_lc (own := [("index", 3)]) (Blk.of (N := N_first_looks) (sc := defScope s_first_looks) rfl rfl (by decide +kernel)) ?_
    refine lcL_F (fun d => match d with | .int j => some (lookD st j) | _ => none) ?_
    tm_at "go"
    refine ⟨l, _, (firsts lk).map .int, rfl, .of g2, dtInts _, by rw [List.length_map]; have := firsts_len lk; omega, fun d x H' hd s hx => ?_, fun l6 us H6 s6 n6 g6 h6 => ?_⟩
    · obtain ⟨j, hj, rfl⟩ := List.mem_map.mp hd
      cases hx
      obtain ⟨j0, j1⟩ := hin j (firsts_mem.mp hj)
      refine g_name (by tm_at "at") ⟨rfl, rfl, ts_nil ⟨Same.refl _, ift ?_⟩⟩
      refine e_tupD ?_
      tm_at "go"
      refine rx_int (hst.mono (tp_same (s2.trans s))) (gt_at S j0 j1) ?_
      tm_at "go"
      refine tupend (ds := [.int j, .int (gt st j)]) (by tm_at "dts") (Nat.le_of_ble_eq_true rfl) fun vp H7 s7 hp => ?_
      exact ⟨s7, _, rfl, hp⟩
    rw [List.filterMap_map] at h6
    have e6 : (firsts lk).filterMap ((fun d => match d with | PyData.int j => some (lookD st j) | _ => none) ∘ PyData.int) = (firsts lk).map (lookD st) := by
      rw [← List.filterMap_eq_map]
      rfl
    rw [e6] at h6
    tm_at "go"
    refine rc_tupF (.of g6) h6 fun v7 H7 s7 h7 z7 => ?_
    exact k _ _ (s2.trans (s6.trans s7)) h7 z7
theorem ev_in {rs : List Row} {st : St1} (S : StOk rs st) : ∀ (e : Ex), Fit rs e → ∀ j ∈ (ev rs st e).2, 0 ≤ j ∧ j < total rs := by
  have th : ∀ (r : Res) (g : Int → Res), (∀ j ∈ r.2, 0 ≤ j ∧ j < total rs) → (∀ v, r.1 = some v → ∀ j ∈ (g v).2, 0 ≤ j ∧ j < total rs) → ∀ j ∈ (thn1 r g).2, 0 ≤ j ∧ j < total rs := by
    intro r g h1 h2 j hj
    cases e : r.1 with
    | none => rw [thn1_none e] at hj; exact h1 j hj
    | some v =>
      rw [thn1_val e] at hj
      rcases List.mem_append.mp hj with hj | hj
      · exact h1 j hj
      · exact h2 v e j hj
  intro e
  induction e with
  | int => intro _ j hj; rw [ev] at hj; cases hj
  | nm s =>
    intro hf j hj
    rw [ev] at hj
    rw [List.mem_singleton.mp hj]
    exact (ix_ok S.nd hf).2
  | «at» t e ih =>
    intro hf j hj
    rw [thn1_keyed] at hj
    refine th _ _ (by rw [keyed_snd]; exact ih hf.2) (fun v hv j hj => ?_) j hj
    rw [List.mem_singleton.mp hj]
    exact keyed_in hv
  | un op e ih =>
    intro hf j hj
    rw [ev] at hj
    exact th _ _ (ih hf.2) (fun v hv j hj => by cases hj) j hj
  | bin op a b iha ihb =>
    intro hf j hj
    rw [ev] at hj
    split at hj
    · refine th _ _ (iha hf.2.1) (fun v hv j hj => ?_) j hj
      split at hj
      · cases hj
      · exact th _ _ (ihb hf.2.2) (fun v hv j hj => by cases hj) j hj
    · refine th _ _ (iha hf.2.1) (fun v hv j hj => ?_) j hj
      exact th _ _ (ihb hf.2.2) (fun v hv j hj => by cases hj) j hj
  | kk op e n ih =>
    intro hf j hj
    rw [ev] at hj
    exact th _ _ (ih hf.2.1) (fun v hv j hj => by cases hj) j hj
  | ite a b d iha ihb ihd =>
    intro hf j hj
    rw [ev] at hj
    refine th _ _ (iha hf.1) (fun v hv j hj => ?_) j hj
    split at hj
    · exact ihb hf.2.1 j hj
    · exact ihd hf.2.2 j hj
def rLooked (n : Nat) : List PyData → PyData → Prop := fun ds d => ∃ (rs : List Row) (st : St1) (e : Ex), ds = [cellsD rs, stD st, e.d] ∧ EvIn rs st e n ∧ d = looksD st (ev rs st e).2
theorem ok_looked (n : Nat) {f fd} (F : Fun M.K "looked_at" "looked_at" s_looked_at f fd) (b : Bl M) (de : dcEv M n) (dfl : Dc M "first_looks" ["state", "looks"] 1 (spZ rFirst M.K)) : FnG M.prog M.w M.K M.mg M.base CX0 (2 * n + 5) f fd ["cells", "state", "expression"] (spZ (rLooked n) M.K) := by
  refine fn_ok F sc_looked_at (fun vs H Q E h => ?_) (fun H vs Q E h => ?_)
  · obtain ⟨ds, d, h, ⟨rs, st, e, rfl, _⟩, _⟩ := h
    exact h.len
  obtain ⟨ds, d, h, ⟨rs, st, e, rfl, hi, rfl⟩, k⟩ := h
  obtain _ | ⟨hc, h⟩ := h
  obtain _ | ⟨hst, h⟩ := h
  obtain _ | ⟨he, h⟩ := h
  cases h
  refine b_cons (s_asg ?_)
  refine e_callF de ?_ (Nat.le_refl _)
  tm_at "go"
  refine ⟨_, _, .cons hc (.cons hst (.cons he .nil)), ⟨rs, st, e, rfl, hi, rfl⟩, fun v H1 s1 hv => ?_⟩
  refine g_unp2 (by tm_at "at") (by tm_at "at") hv fun v1 v2 h1 h2 => ?_
  have ll1 := lenLooks (rs := rs) (st := st) (e := e) hi.dep hi.n4
  rw [List.length_map] at ll1
  tm_at "go"
  refine e_callZ dfl ?_
  tm_at "go"
  exact ⟨_, _, .cons (hst.mono (tp_same s1)) (.cons h2 .nil), ⟨rs, st, _, rfl, hi.S, ev_in hi.S e hi.fit, by omega, rfl⟩, fun v H2 s2 hv z => k _ _ (s1.trans s2) hv z⟩
end K

namespace K
open PySem L2 G
variable {M : Md}
def Tg.str : Tg → Bool
  | .nm _ => true
  | .at _ _ => false
def tgt (rs : List Row) (st : St1) : Tg → Res
  | .nm s => (fIdx rs s none 0, [])
  | .at t e => keyed rs t (ev rs st e)
structure TgIn (rs : List Row) (st : St1) (t : Tg) : Prop where
  S : StOk rs st
  fit : FitT rs t
def rTgt : List PyData → PyData → Prop := fun ds d => ∃ (rs : List Row) (st : St1) (t : Tg), ds = [cellsD rs, stD st, t.d] ∧ TgIn rs st t ∧ d = resD (tgt rs st t)
theorem ok_tgt {f fd} (F : Fun M.K "_target_index" "_target_index" s__target_index f fd) (b : Bl M) (df : Dc M "found_index" ["cells", "name", "key"] 2 (spF rFound M.K)) (dk : Dc M "keyed_index" ["cells", "state", "table", "key"] 9 (spF (rKey 2) M.K)) :
    FnG M.prog M.w M.K M.mg M.base CX0 10 f fd ["cells", "state", "target"] (spF rTgt M.K) := by
  refine fn_ok F sc__target_index (fun vs H Q E h => ?_) (fun H vs Q E h => ?_)
  · obtain ⟨ds, d, h, ⟨rs, st, e, rfl, _⟩, _⟩ := h
    exact h.len
  obtain ⟨ds, d, h, ⟨rs, st, t, rfl, hi, rfl⟩, k⟩ := h
  obtain _ | ⟨hc, h⟩ := h
  obtain _ | ⟨hst, h⟩ := h
  obtain _ | ⟨he, h⟩ := h
  cases h
  cases t with
  | nm s =>
    cases he
    tm_at "go"
    refine t_val ?_
    tm_at "go"
    refine rc_isi (.base (.str s)) rfl ?_
    refine ⟨true, rfl, ift ?_⟩
    tm_at "go"
    refine e_tupD ?_
    tm_at "go"
    refine e_callF df ?_
    tm_at "go"
    refine ⟨_, _, .cons hc (.cons (.str _) (.cons .non .nil)), ⟨rs, s, none, rfl, rfl⟩, fun v H1 s1 hv => ?_⟩
    tm_at "go"
    refine e_tupD ?_
    tm_at "go"
    refine tupend (ds := []) .nil (Nat.le_of_ble_eq_true rfl) fun v2 H2 s2 h2 => ?_
    tm_at "go"
    refine tupend (ds := [optD (fIdx rs s none 0), .tuple []]) (.cons (hv.mono (tp_same s2)) (.cons h2 .nil)) (Nat.le_of_ble_eq_true rfl) fun v9 H9 s9 h9 => ?_
    exact k _ _ (s1.trans (s2.trans s9)) h9
  | «at» t e =>
    obtain ⟨ae, xe, rfl, hte, hde⟩ := he.tupE
    tm_at "go"
    refine t_val ?_
    tm_at "go"
    refine rc_isi (ty_tup hte) rfl ?_
    refine ⟨false, rfl, iff0 ?_⟩
    tm_at "go"
    refine e_callF dk ?_
    tm_at "go"
    refine rx_tup he (d := e.d) rfl fun v2 h2 => ?_
    tm_at "go"
    exact ⟨_, _, .cons hc (.cons hst (.cons (.str _) (.cons h2 .nil))), ⟨rs, st, t, e, rfl, ⟨hi.S, hi.fit.2.1, hi.fit.2.2, by decide⟩, rfl⟩, fun v H2 s2 hv => k _ _ s2 hv⟩
abbrev Ents := Option (List (Int × Int)) × List Int
def wo (rs : List Row) (st : St1) : List (Tg × Ex) → Ents
  | [] => (some [], [])
  | p :: ps => match (tgt rs st p.1).1 with
    | none => (none, (tgt rs st p.1).2)
    | some j => match (ev rs st p.2).1 with
      | none => (none, (tgt rs st p.1).2 ++ (ev rs st p.2).2)
      | some v => ((wo rs st ps).1.map ((j, v) :: ·), (tgt rs st p.1).2 ++ ((ev rs st p.2).2 ++ (wo rs st ps).2))
def work (rs : List Row) (st : St1) (r : Rl) : Ents := match (ev rs st r.guard).1 with
  | none => (none, (ev rs st r.guard).2)
  | some g => if g = 0 then (none, (ev rs st r.guard).2) else ((wo rs st r.as).1, (ev rs st r.guard).2 ++ (wo rs st r.as).2)
def entD (p : Int × Int) : PyData := .tuple [.int p.1, .int p.2]
/-- pairs of ints, each a tuple of ours -/
inductive PrAll (H : Hp) : List V → List (Int × Int) → Prop
  | nil : PrAll H [] []
  | cons {t : Addr} {i j : Int} {us : List V} {es : List (Int × Int)} : H t = some (.tup [.int i, .int j]) → PrAll H us es → PrAll H (.ref t :: us) ((i, j) :: es)
theorem PrAll.mono {H H' : Hp} (e : Tp H H') {us : List V} {es : List (Int × Int)} (h : PrAll H us es) : PrAll H' us es := by
  induction h with
  | nil => exact .nil
  | cons h1 _ ih => exact .cons (e.t _ _ h1) ih
theorem PrAll.app {H : Hp} {us vs : List V} {es fs : List (Int × Int)} (h : PrAll H us es) (k : PrAll H vs fs) : PrAll H (us ++ vs) (es ++ fs) := by
  induction h with
  | nil => exact k
  | cons h1 _ ih => exact .cons h1 ih
theorem PrAll.dt {K : PySem.W.Frag} {H : Hp} {us : List V} {es : List (Int × Int)} (h : PrAll H us es) : DtAll K H us (es.map entD) := by
  induction h with
  | nil => exact .nil
  | cons h1 _ ih => exact .cons (.tup (.of h1) (.cons (.int _) (.cons (.int _) .nil))) ih
/-- None or a new list of pairs -/
def EntV (K : PySem.W.Frag) (H0 H : Hp) : V → Option (List (Int × Int)) → Prop
  | v, none => v = .non
  | v, some es => ∃ l us, v = .ref l ∧ H0 l = none ∧ H l = some (.lst us) ∧ PrAll H us es
def spWork (K : PySem.W.Frag) : Sp := fun vs H Q _ => ∃ (rs : List Row) (st : St1) (r : Rl), DtAll K H vs [cellsD rs, r.d, stD st] ∧ StOk rs st ∧ FitR rs r ∧
  ∀ p v1 v2 H', Same H H' → SqT K H' p [v1, v2] → EntV K H H' v1 (work rs st r).1 → Dt K H' v2 (.tuple ((work rs st r).2.map .int)) → Q (.ref p) H'
theorem wo_j {rs : List Row} {st : St1} {p : Tg × Ex} {ps : List (Tg × Ex)} (h : (tgt rs st p.1).1 = none) : wo rs st (p :: ps) = (none, (tgt rs st p.1).2) := by rw [wo, h]
theorem wo_v {rs : List Row} {st : St1} {p : Tg × Ex} {ps : List (Tg × Ex)} {j : Int} (h : (tgt rs st p.1).1 = some j) (h2 : (ev rs st p.2).1 = none) : wo rs st (p :: ps) = (none, (tgt rs st p.1).2 ++ (ev rs st p.2).2) := by rw [wo, h]; simp only [h2]
theorem wo_s {rs : List Row} {st : St1} {p : Tg × Ex} {ps : List (Tg × Ex)} {j v : Int} (h : (tgt rs st p.1).1 = some j) (h2 : (ev rs st p.2).1 = some v) : wo rs st (p :: ps) = ((wo rs st ps).1.map ((j, v) :: ·), (tgt rs st p.1).2 ++ ((ev rs st p.2).2 ++ (wo rs st ps).2)) := by rw [wo, h]; simp only [h2]
theorem tgt_len {rs : List Row} {st : St1} {t : Tg} (h : FitT rs t) : (tgt rs st t).2.length ≤ 32 := by
  cases t with
  | nm => exact Nat.zero_le _
  | «at» t e =>
    unfold tgt
    rw [keyed_snd]
    have := lenLooks (rs := rs) (st := st) (e := e) (n := 2) h.2.2 (by decide)
    rwa [List.length_map] at this
set_option maxHeartbeats 2000000 in
theorem ok_work {f fd} (F : Fun M.K "_worked_out" "_worked_out" s__worked_out f fd) (b : Bl M) (de : dcEv M 2) (de4 : dcEv M 4) (dt : Dc M "_target_index" ["cells", "state", "target"] 10 (spF rTgt M.K)) :
    FnG M.prog M.w M.K M.mg M.base CX0 13 f fd ["cells", "rule", "state"] (spWork M.K) := by
  refine fn_ok F sc__worked_out (fun vs H Q E h => ?_) (fun H vs Q E h => ?_)
  · obtain ⟨rs, st, r, h, _⟩ := h
    exact h.len
  obtain ⟨rs, st, r, h, S, R, k⟩ := h
  obtain _ | ⟨hc, h⟩ := h
  obtain _ | ⟨hr, h⟩ := h
  obtain _ | ⟨hst, h⟩ := h
  cases h
  rename_i vc vr vst
  refine b_cons (s_asg (e_var (by tm_at "at") ?_))
  refine g_unp3 (by tm_at "at") (by tm_at "at") (by tm_at "at") hr fun v0 vg va h0 hg ha => ?_
  cases h0
  tm_at "go"
  refine s_asg ?_
  refine e_callF de4 ?_
  tm_at "go"
  refine ⟨_, _, .cons hc (.cons hst (.cons hg .nil)), ⟨rs, st, r.guard, rfl, ⟨S, R.guard.1, R.guard.2, by decide⟩, rfl⟩, fun v H1 s1 hv => ?_⟩
  refine g_unp2 (by tm_at "at") (by tm_at "at") hv fun v1 v2 h1 h2 => ?_
  have lg := lenLooks (rs := rs) (st := st) (e := r.guard) (n := 4) R.guard.2 (by decide)
  rw [List.length_map] at lg
  have ret : ∀ (Hx : Hp) (vx : V) (lk : List Int), Same H Hx → Dt M.K Hx vx (.tuple (lk.map .int)) → work rs st r = (none, lk) → ∀ v H', Same Hx H' → Dt M.K H' v (.tuple [.none, .tuple (lk.map .int)]) → Q v H' := by
    intro Hx vx lk sx hx hw v H' s' hv
    obtain ⟨p, xs, rfl, ht, hd⟩ := hv.tupE
    obtain _ | ⟨e1, hd⟩ := hd
    obtain _ | ⟨e2, hd⟩ := hd
    cases hd
    cases e1
    exact k p _ _ H' (sx.trans s') ht (by rw [hw]; rfl) (by rw [hw]; exact e2)
  tm_at "go"
  rcases optN h1 with ⟨eo, rfl⟩ | ⟨g, eo, rfl⟩
  · tm_at "go"
    refine e_tupD ?_
    tm_at "go"
    refine tupend (ds := [.none, .tuple ((ev rs st r.guard).2.map .int)]) (.cons .non (.cons h2 .nil)) (Nat.le_of_ble_eq_true rfl) fun v9 H9 s9 h9 => ?_
    exact ret H1 _ _ s1 h2 (by rw [work, eo]) v9 H9 s9 h9
  tm_at "go"
  refine ifd (fun c1 => ?_) (fun c1 => ?_)
  · tm_at "go"
    refine e_tupD ?_
    tm_at "go"
    refine tupend (ds := [.none, .tuple ((ev rs st r.guard).2.map .int)]) (.cons .non (.cons h2 .nil)) (Nat.le_of_ble_eq_true rfl) fun v9 H9 s9 h9 => ?_
    exact ret H1 _ _ s1 h2 (by rw [work, eo]; exact if_pos c1) v9 H9 s9 h9
  have hwork : work rs st r = ((wo rs st r.as).1, (ev rs st r.guard).2 ++ (wo rs st r.as).2) := by
    rw [work, eo]
    exact if_neg c1
  tm_at "go"
  refine e_lstD ?_
  tm_at "go"
  refine ⟨by decide, fun l H2 s2 n2 g2 => ?_⟩
  obtain ⟨a, xs, rfl, hxs, hns⟩ := ha.tupE
  have hle := hns.len
  rw [List.length_map] at hle
  have s12 := s1.trans s2
  have hlen := R.len
  tm_at "go"
  refine s_forT ?_
  tm_at "go"
  refine ⟨a, xs, rfl, (tp_same s12).sqt hxs, fun i σ1 H' => ∃ (es : List (Int × Int)) (us : List V) (lk : List Int) (vlk : V) (v6 v9 v10 v11 v12 : Option V), σ1 = [some vc, some vr, some vst, _, some vg, some (.ref a), v6, some vlk, some (.ref l), v9, v10, v11, v12] ∧ Same H H' ∧ H' l = some (.lst us) ∧ PrAll H' us es ∧ Dt M.K H' vlk (.tuple (lk.map .int)) ∧
    work rs st r = ((wo rs st (r.as.drop i)).1.map (es ++ ·), lk ++ (wo rs st (r.as.drop i)).2) ∧ es.length ≤ i ∧ lk.length ≤ 32 + 64 * i, ⟨[], [], (ev rs st r.guard).2, v2, _, _, _, _, _, rfl, s12, g2, .nil, h2.mono (tp_same s2), by rw [hwork]; simp, Nat.le_refl _, lg⟩, ?_, ?_, ?_⟩
  · rintro i σ' H' _ ⟨es, us, lk, vlk, v6, v9, v10, v11, v12, rfl, s, _⟩
    exact (tp_same s).sqt hxs
  · rintro i x σ' H3 hx ⟨es, us, lk, vlk, v6, v9, v10, v11, v12, rfl, s3, g3, h3, hlk, hw, les, llk⟩
    obtain ⟨d, hd, hx'⟩ := hns.getV hx
    rw [List.getElem?_map] at hd
    obtain ⟨p, hp, rfl⟩ := Option.map_eq_some_iff.mp hd
    have hpin := R.as p (List.mem_of_getElem? hp)
    have ed : r.as.drop i = p :: r.as.drop (i + 1) := by
      obtain ⟨h1, h2⟩ := List.getElem?_eq_some_iff.mp hp
      rw [← h2]; exact List.drop_eq_getElem_cons h1
    have hi10 : i < 10 := by
      have := (List.getElem?_eq_some_iff.mp hx).1
      omega
    rw [ed] at hw
    refine g_unp2 (by tm_at "at") (by tm_at "at") (hx'.mono (tp_same s3)) fun vt vp ht hpd => ?_
    refine b_cons (s_asg ?_)
    refine e_callF dt ?_
    tm_at "go"
    refine ⟨_, _, .cons (hc.mono (tp_same s3)) (.cons (hst.mono (tp_same s3)) (.cons ht .nil)), ⟨rs, st, p.1, rfl, ⟨S, hpin.1⟩, rfl⟩, fun v H4 s4 hv => ?_⟩
    refine g_unp2 (by tm_at "at") (by tm_at "at") hv fun v1 vm h1 hm => ?_
    have lt := tgt_len (rs := rs) (st := st) hpin.1
    tm_at "go"
    refine ro_catT (hlk.mono (tp_same s4)) hm (by rw [List.length_map, List.length_map]; omega) fun v8 H5 s5 h8 => ?_
    rcases optN h1 with ⟨eo1, rfl⟩ | ⟨j, eo1, rfl⟩
    · tm_at "go"
      refine e_tupD ?_
      tm_at "go"
      refine tupend (ds := [.none, .tuple (lk.map .int ++ (tgt rs st p.1).2.map .int)]) (.cons .non (.cons h8 .nil)) (Nat.le_of_ble_eq_true rfl) fun v9 H9 s9 h9 => ?_
      rw [← List.map_append] at h8 h9
      exact ret H5 _ _ (s3.trans (s4.trans s5)) h8 (by rw [hw, wo_j eo1]; rfl) v9 H9 s9 h9
    tm_at "go"
    refine s_asg ?_
    refine e_callF de ?_
    tm_at "go"
    refine ⟨_, _, .cons (hc.mono (tp_same (s3.trans (s4.trans s5)))) (.cons (hst.mono (tp_same (s3.trans (s4.trans s5)))) (.cons (hpd.mono (tp_same (s4.trans s5))) .nil)), ⟨rs, st, p.2, rfl, ⟨S, hpin.2.1, hpin.2.2, by decide⟩, rfl⟩, fun v H6 s6 hv => ?_⟩
    refine g_unp2 (by tm_at "at") (by tm_at "at") hv fun v3 vm2 h3' hm2 => ?_
    have le2 := lenLooks (rs := rs) (st := st) (e := p.2) (n := 2) hpin.2.2 (by decide)
    rw [List.length_map] at le2
    tm_at "go"
    refine ro_catT (h8.mono (tp_same s6)) hm2 (by rw [List.length_append, List.length_map, List.length_map, List.length_map]; omega) fun v10 H7 s7 h10 => ?_
    rcases optN h3' with ⟨eo2, rfl⟩ | ⟨w, eo2, rfl⟩
    · tm_at "go"
      refine e_tupD ?_
      tm_at "go"
      refine tupend (ds := [.none, .tuple (lk.map .int ++ (tgt rs st p.1).2.map .int ++ (ev rs st p.2).2.map .int)]) (.cons .non (.cons h10 .nil)) (Nat.le_of_ble_eq_true rfl) fun v9 H9 s9 h9 => ?_
      rw [← List.map_append, ← List.map_append] at h10 h9
      exact ret H7 _ _ (s3.trans (s4.trans (s5.trans (s6.trans s7)))) h10 (by rw [hw, wo_v eo1 eo2, List.append_assoc]; rfl) v9 H9 s9 h9
    tm_at "go"
    refine s_expr ?_
    refine e_app ?_
    tm_at "go"
    have s47 := s4.trans (s5.trans (s6.trans s7))
    refine ⟨l, _, rfl, s47 _ _ g3, ?_⟩
    refine e_tup ?_
    tm_at "go"
    refine ⟨Nat.le_trans (m := 1000) (Nat.le_of_ble_eq_true rfl) (by decide), fun p8 n8 => ?_⟩
    have s8 := same_new (o := .tup [.int j, .int w]) n8
    have h11 : (upd _ p8 (.tup [.int j, .int w])) p8 = _ := upd_same (H := H7)
    generalize upd H7 p8 (.tup [.int j, .int w]) = H8 at *
    have g8 := (s47.trans s8) _ _ g3
    have lus := (h3.dt (K := M.K)).len
    rw [List.length_map] at lus
    have ku := kp_upd (o' := .lst (us ++ [.ref p8])) g8 (fun _ e => nomatch e) (fun _ _ e => nomatch e)
    refine ⟨us, g8, by omega, ?_⟩
    refine ⟨es ++ [(j, w)], _, lk ++ ((tgt rs st p.1).2 ++ (ev rs st p.2).2), v10, _, _, _, _, _, rfl, same_mut (s3.trans (s47.trans s8)) (same_none s1 n2), upd_same, ?_, ?_, ?_, ?_, ?_⟩
    · exact (h3.mono ((tp_same (s47.trans s8)).trans ku.t)).app (.cons (ku.t.t _ _ h11) .nil)
    · rw [List.map_append, List.map_append, ← List.append_assoc]
      exact h10.mono ((tp_same s8).trans ku.t)
    · rw [hw, wo_s eo1 eo2]
      simp [Function.comp_def]
    · rw [List.length_append]; exact Nat.succ_le_succ les
    · rw [List.length_append, List.length_append]; omega
  · rintro σ' H3 ⟨es, us, lk, vlk, v6, v9, v10, v11, v12, rfl, s3, g3, h3, hlk, hw, les, llk⟩
    rw [List.drop_eq_nil_of_le (by omega), wo] at hw
    have hw' : work rs st r = (some es, lk) := by rw [hw]; simp
    tm_at "go"
    refine e_tup ?_
    tm_at "go"
    refine ⟨Nat.le_trans (m := 1000) (Nat.le_of_ble_eq_true rfl) (by decide), fun p hp => ?_⟩
    have sp := same_new (o := .tup [.ref l, vlk]) hp
    refine k p _ _ _ (s3.trans sp) (.of upd_same) (by rw [hw']; exact ⟨l, us, rfl, same_none s1 n2, sp _ _ g3, h3.mono (tp_same sp)⟩) (by rw [hw']; exact hlk.mono (tp_same sp))
end K

namespace K
open PySem PySem.Spec PyProof.Rows L2 G
variable {M : Md}
def tLenSetA (K : PySem.W.Frag) (ta : TE) : TE := fun σ H Q => ta σ H fun x H1 => ∃ (l : Addr) (ns : List Int), x = .ref l ∧ SqL K H1 l (ns.map V.int) ∧ ns.length ≤ 4000 ∧ Q (.int ((firsts ns).length : Nat)) H1
theorem met_firsts (ns : List Int) : firstMet (fun i => ns.getD i 0) ns.length = firsts ns := by
  have e : (List.range ns.length).map (fun i => ns.getD i 0) = ns := by
    apply List.ext_getElem
    · simp
    · intro i h1 h2
      simp [List.getD_eq_getElem?_getD, List.getElem?_eq_getElem h2]
  have e2 : (fun (seen : List Int) (j : Int) => if j ∈ seen then seen else seen ++ [j]) = step_dedup := by
    funext seen j
    unfold step_dedup
    by_cases h : j ∈ seen
    · rw [if_pos h, if_pos (by simpa [List.any_eq_true] using h)]
    · rw [if_neg h, if_neg (by simpa [List.any_eq_true] using h)]
  unfold firstMet firsts
  rw [e, e2]
theorem pe_lenSetA {X : Cx} {a : Expr} {ta : TE} {p p2 q pos : Pos} (hc : X.calm = true) (hg : Gl X "len") (hm : X.mg "len" = none) (hg2 : Gl X "set") (hm2 : X.mg "set" = none) (ha : PE X a ta)
    (na : starEach [a] X.env = (false, eval a X.env) :: starEach [] X.env := by rfl) : PE X (.Call (.Name "len" p) [.Call (.Name "set" p2) [a] [] q] [] pos) (tLenSetA X.K ta) := by
  constructor
  intro ps s0 σ H Q J w
  apply Call_ (ld_blt J hg hm boot_len _)
  apply PyProof.Rows.callWith_builtin1 (PyProof.Rows.args_cons _ rfl) rfl rfl
  apply Call_ (ld_blt J hg2 hm2 boot_set _)
  apply PyProof.Rows.callWith_type1 (PyProof.Rows.args_cons (thn (ha.run ps s0 σ H _ J w) _) na) na rfl
  rintro u t0 ⟨x, H1, J1, ru, l, ns, rfl, isL, few, k⟩
  cases ru
  apply PyProof.Rows.args_nil
  obtain ⟨ws, rw0, plain, _⟩ := J1.list isL
  have size : ws.toArray.size = ns.length := by rw [List.size_toArray, ← rw0.length, List.length_map]
  refine call_set_list (J1.ok.hd hc) plain.isList (by simpa using RZ.intsAre_vals rw0) (by rw [size]; unfold scanBound; omega) fun hp tk isS keep => ?_
  rw [size, met_firsts] at isS
  have few2 := firsts_len ns
  obtain ⟨ob, es, ep, tt, a1, a2, a3, -, -, -, a4, a5⟩ := isS
  apply PyProof.Rows.args_nil
  exact call_len_set a1 a2 a3 a4 (by rw [a5] <;> omega) ⟨.int (firsts ns).length, H1, (J1.kept (fun b o e => keep b o (Heap.lt_size e)  e)).tok _, ⟨_, by rw [a5]⟩, k⟩
theorem e_lenSet {c : Cd} {σ : L2.St} {H : Hp} {Q : VK} {a : Expr} {p p2 q pos : Pos} (b : Bl c.toMd) (w : RE c a σ H fun x H1 => ∃ (l : Addr) (ns : List Int), x = .ref l ∧ SqL c.K H1 l (ns.map V.int) ∧ ns.length ≤ 4000 ∧ Q (.int ((firsts ns).length : Nat)) H1)
    (hg : c.sc.names.lookup ("len" : Str) = some .globalImplicit := by rfl) (hg2 : c.sc.names.lookup ("set" : Str) = some .globalImplicit := by rfl) (na : ∀ env, starEach [a] env = (false, eval a env) :: starEach [] env := by intro _; rfl) : RE c (.Call (.Name "len" p) [.Call (.Name "set" p2) [a] [] q] [] pos) σ H Q :=
  re_of (t := tLenSetA c.K (RE c a)) (fun X h => by rw [← h.K]; exact pe_lenSetA h.calm (gl_of h hg) (by rw [h.mg]; exact b.len) (gl_of h hg2) (by rw [h.mg]; exact b.set) (pe_re h) (na _)) w
end K

local macro_rules | `(tactic| tm_at "s") => `(tactic| (refine gRE ?_; refine K.e_lenSet (by assumption) ?_))
namespace K
open PySem PySem.Spec PyProof.Rows L2 G
variable {M : Md}
def kf (H : Hp) : V → Int × Int
  | .ref t => match H t with
    | some (.tup [.int i, .int j]) => (i, j)
    | _ => (0, 0)
  | _ => (0, 0)
theorem PrAll.kf {H : Hp} {us : List V} {es : List (Int × Int)} (h : PrAll H us es) : es = us.map (K.kf H) ∧ ∀ x ∈ us, ∃ t, x = .ref t ∧ H t = some (.tup [.int (K.kf H x).1, .int (K.kf H x).2]) := by
  induction h with
  | nil => exact ⟨rfl, fun _ h => nomatch h⟩
  | @cons t i j us es h1 h2 ih =>
    have e : K.kf H (.ref t) = (i, j) := by
      show (match H t with | some (.tup [.int i, .int j]) => (i, j) | _ => (0, 0)) = _
      rw [h1]
    refine ⟨by rw [List.map_cons, e, ← ih.1], fun x hx => ?_⟩
    rcases List.mem_cons.mp hx with rfl | hx
    · exact ⟨t, rfl, by rw [e]; exact h1⟩
    · exact ih.2 x hx
theorem prAll_of {H : Hp} : ∀ {ys : List V}, (∀ x ∈ ys, ∃ t, x = .ref t ∧ H t = some (.tup [.int (kf H x).1, .int (kf H x).2])) → PrAll H ys (ys.map (kf H))
  | [], _ => .nil
  | y :: ys, h => by
    obtain ⟨t, rfl, ht⟩ := h y (List.mem_cons_self ..)
    exact .cons ht (prAll_of fun x hx => h x (List.mem_cons_of_mem _ hx))
def leB (a b : Int × Int) : Bool := !SrtO.lexB b a
def sortE (es : List (Int × Int)) : List (Int × Int) := es.mergeSort leB
theorem leB_iff {a b : Int × Int} : leB a b = true ↔ a.1 < b.1 ∨ (a.1 = b.1 ∧ a.2 ≤ b.2) := by
  unfold leB
  rw [Bool.not_eq_true', SrtO.lexB_no]
  omega
theorem sortE_pw (es : List (Int × Int)) : (sortE es).Pairwise fun a b => leB a b = true := by
  refine List.pairwise_mergeSort (fun a b c h1 h2 => ?_) (fun a b => ?_) es
  · rw [leB_iff] at *; omega
  · rw [Bool.or_eq_true, leB_iff, leB_iff]; omega
theorem sortE_perm (es : List (Int × Int)) : (sortE es).Perm es := List.mergeSort_perm es leB
theorem sortE_uniq {es fs : List (Int × Int)} (hp : fs.Perm es) (hs : fs.Pairwise fun a b => leB a b = true) : fs = sortE es := by
  refine List.Perm.eq_of_pairwise (le := fun a b => leB a b = true) (fun a b _ _ h1 h2 => ?_) hs (sortE_pw es) (hp.trans (sortE_perm es).symm)
  rw [leB_iff] at *
  exact Prod.ext (by omega) (by omega)
theorem rc_sortedP {c : Cd} {H : Hp} {Q : VK} {l : Addr} {us : List V} {es : List (Int × Int)} (hl : H l = some (.lst us)) (hp : PrAll H us es) (q : ∀ p ys H', Same H H' → H p = none → H' p = some (.lst ys) → PrAll H' ys (sortE es) → Q (.ref p) H') : RC c (.builtin "sorted") [.ref l] H Q := by
  obtain ⟨h1, h2⟩ := hp.kf
  refine rc_of (r := rSortedPO c.K) (fun X h => by rw [← h.K]; exact cr_sortedPO) ⟨l, us, kf H, rfl, .of hl, h2, fun ys p hs hb hn => ?_⟩
  have hm : ∀ x ∈ ys, x ∈ us := fun x hx => hb.perm.mem_iff.mp hx
  have e : ys.map (kf H) = sortE es := by
    refine sortE_uniq ?_ ?_
    · rw [h1]; exact hb.perm.map _
    · rw [List.pairwise_map]
      refine hs.imp fun {a b} h => ?_
      unfold leB
      rw [show SrtO.lexB (kf H b) (kf H a) = false from h]
      rfl
  refine q p ys _ (same_new hn) hn upd_same ?_
  rw [← e]
  exact (prAll_of fun x hx => h2 x (hm x hx)).mono (tp_same (same_new hn))
def inR (rs : List Row) (p : Int × Int) : Bool := match (rg rs)[p.1.toNat]? with
  | some r => decide (r.1 ≤ p.2) && decide (p.2 ≤ r.2)
  | none => false
def asg (rs : List Row) (st : St1) (r : Rl) : Option (List (Int × Int)) := match (work rs st r).1 with
  | none => none
  | some es => if (firsts (es.map (·.1))).length < es.length then none else if es.all (inR rs) then some (sortE es) else none
def asgD : Option (List (Int × Int)) → PyData
  | none => .none
  | some es => .tuple (es.map entD)
theorem tgt_in {rs : List Row} {st : St1} {t : Tg} {j : Int} (h : (tgt rs st t).1 = some j) : 0 ≤ j ∧ j < total rs := by
  cases t with
  | nm s => have := fIdx_in h; omega
  | «at» t e => exact keyed_in h
theorem wo_in {rs : List Row} {st : St1} : ∀ {as : List (Tg × Ex)} {es : List (Int × Int)}, (wo rs st as).1 = some es → (∀ p ∈ es, 0 ≤ p.1 ∧ p.1 < total rs) ∧ es.length = as.length
  | [], es, h => by
    rw [wo] at h
    cases h
    exact ⟨(fun _ h => nomatch h), rfl⟩
  | p :: ps, es, h => by
    cases e1 : (tgt rs st p.1).1 with
    | none => rw [wo_j e1] at h; cases h
    | some j =>
      cases e2 : (ev rs st p.2).1 with
      | none => rw [wo_v e1 e2] at h; cases h
      | some v =>
        rw [wo_s e1 e2] at h
        obtain ⟨ws, hw, rfl⟩ := Option.map_eq_some_iff.mp h
        obtain ⟨h2, h3⟩ := wo_in hw
        refine ⟨fun q hq => ?_, by rw [List.length_cons, List.length_cons, h3]⟩
        rcases List.mem_cons.mp hq with rfl | hq
        · exact tgt_in e1
        · exact h2 q hq
theorem work_in {rs : List Row} {st : St1} {r : Rl} {es : List (Int × Int)} (h : (work rs st r).1 = some es) : (∀ p ∈ es, 0 ≤ p.1 ∧ p.1 < total rs) ∧ es.length = r.as.length := by
  unfold work at h
  split at h
  · cases h
  · split at h
    · cases h
    · exact wo_in h
def rAsg : List PyData → PyData → Prop := fun ds d => ∃ (rs : List Row) (st : St1) (r : Rl), ds = [cellsD rs, r.d, stD st] ∧ StOk rs st ∧ FitR rs r ∧ d = asgD (asg rs st r)
theorem PrAll.len {H : Hp} {us : List V} {es : List (Int × Int)} (h : PrAll H us es) : us.length = es.length := by
  have := (h.dt (K := ([] : PySem.W.Frag))).len
  rwa [List.length_map] at this
end K

namespace K
open PySem PySem.Spec PyProof.Rows L2 G
variable {M : Md}
abbrev dcWork (M : Md) : Prop := Dc M "_worked_out" ["cells", "rule", "state"] 13 (spWork M.K)
abbrev dcRng (M : Md) : Prop := Dc M "cell_ranges" ["cells"] 2 (spF rRanges M.K)
theorem rg_get {rs : List Row} {p : Int × Int} (h0 : 0 ≤ p.1) (h1 : p.1 < total rs) : ∃ r : Rng, (rg rs)[p.1.toNat]? = some r ∧ atI (rngs rs) p.1 = some (rngD r) ∧ inR rs p = (decide (r.1 ≤ p.2) && decide (p.2 ≤ r.2)) := by
  have hlt : p.1.toNat < (rg rs).length := by rw [rg_len]; omega
  refine ⟨(rg rs)[p.1.toNat], List.getElem?_eq_getElem hlt, ?_, ?_⟩
  · refine pl_at (j := p.1.toNat) (by omega) ?_
    rw [rngs_eq, List.getElem?_map, List.getElem?_eq_getElem hlt]
    rfl
  · unfold inR
    rw [List.getElem?_eq_getElem hlt]
def gIx : PyData → Option PyData
  | .tuple [.int i, .int _] => some (.int i)
  | _ => none
theorem gIx_all (es : List (Int × Int)) : (es.map entD).filterMap gIx = (es.map (·.1)).map .int := by
  induction es with
  | nil => rfl
  | cons p es ih => rw [List.map_cons, List.filterMap_cons, List.map_cons, List.map_cons, ← ih]; rfl
theorem dtInts_eq {K : PySem.W.Frag} {H : Hp} : ∀ {ns : List Int} {xs : List V}, DtAll K H xs (ns.map .int) → xs = ns.map .int
  | [], _, h => by cases h; rfl
  | w :: ws, _, h => by
    cases h with
    | cons h1 h2 =>
      cases h1
      rw [dtInts_eq h2, List.map_cons]
theorem rc_tupP {c : Cd} {H : Hp} {Q : VK} {l : Addr} {ys : List V} {ds : List PyData} (hl : SqL c.K H l ys) (hd : DtAll c.K H ys ds) (q : ∀ v H2, Same H H2 → Dt c.K H2 v (.tuple ds) → Fz c.K H2 v (.tuple ds) → (∃ t, v = .ref t ∧ SqT c.K H2 t ys) → Q v H2) : RC c (.type "tuple") [.ref l] H Q :=
  rc_of (r := fun vs H Q => ∃ l zs, vs = [.ref l] ∧ SqL c.K H l zs ∧ ∀ t ob, H t = none → BareT ob → Q (.ref t) (upd H t (.frz ob (.tup zs)))) (fun X h => by rw [← h.K]; exact cr_tupF) ⟨l, ys, rfl, hl, fun t ob hn hb =>
    have m := hd.mono (tp_same (same_new (o := .frz ob (.tup ys)) hn))
    q _ _ (same_new hn) (.tup (.inl (.inr ⟨ob, upd_same⟩)) m) (.inr ⟨t, ob, ys, ds, rfl, rfl, upd_same, hb, m⟩) ⟨t, rfl, .inl (.inr ⟨ob, upd_same⟩)⟩⟩
def spAsg (K : PySem.W.Frag) : Sp := fun vs H Q _ => ∃ ds d, DtAll K H vs ds ∧ (∃ (rs : List Row) (st : St1) (r : Rl), ds = [cellsD rs, r.d, stD st] ∧ StOk rs st ∧ FitR rs r ∧ d = asgD (asg rs st r) ∧
  ∀ v H', Same H H' → Dt K H' v d → Fz K H' v d → (∀ es, asg rs st r = some es → ∃ a us, v = .ref a ∧ SqT K H' a us ∧ PrAll H' us es) → Q v H')
theorem spAsg_of {K : PySem.W.Frag} {vs : List V} {H : Hp} {Q : VK} {E : XK} (h : spZ rAsg K vs H Q E) : spAsg K vs H Q E := by
  obtain ⟨ds, d, h, ⟨rs, st, r, e, S, R, ed⟩, k⟩ := h
  exact ⟨ds, d, h, rs, st, r, e, S, R, ed, fun v H' s h1 h2 _ => k v H' s h1 h2⟩
theorem fn_imp {P : Program} {w : World} {K : PySem.W.Frag} {mg : Str → Option Value} {base : Heap} {CX : CXT} {k : Nat} {f : Addr} {fd : FuncData} {ps : List Str} {sp sp' : Sp} (F : FnG P w K mg base CX k f fd ps sp) (h : ∀ vs H Q E, sp' vs H Q E → sp vs H Q E) : FnG P w K mg base CX k f fd ps sp' :=
  ⟨fun vs H Q E z => F.len vs H Q E (h _ _ _ _ z), fun A o s H ag us vs Q E hr e0 bt v z => F.run A o s H ag us vs Q E hr e0 bt v (h _ _ _ _ z)⟩
set_option maxHeartbeats 2000000 in
theorem ok_assignedP {f fd} (F : Fun M.K "assigned" "assigned" s_assigned f fd) (b : Bl M) (dw : dcWork M) (dr : dcRng M) : FnG M.prog M.w M.K M.mg M.base CX0 14 f fd ["cells", "rule", "state"] (spAsg M.K) := by
  refine fn_ok F sc_assigned (fun vs H Q E h => ?_) (fun H vs Q E h => ?_)
  · obtain ⟨ds, d, h, rs, st, r, rfl, _⟩ := h
    exact h.len
  obtain ⟨ds, d, h, rs, st, r, rfl, S, R, rfl, k⟩ := h
  have h0 := h
  obtain _ | ⟨hc, h⟩ := h
  obtain _ | ⟨hr, h⟩ := h
  obtain _ | ⟨hst, h⟩ := h
  cases h
  rename_i vc vr vst
  have kn : asg rs st r = none → ∀ H', Same H H' → Q .non H' := fun e H' s => k _ _ s (by rw [e]; exact .non) (by rw [e]; exact .inl ⟨rfl, rfl⟩) fun es h => by rw [e] at h; cases h
  refine b_cons (s_asg ?_)
  refine e_call dw ?_
  tm_at "go"
  refine ⟨rs, st, r, h0, S, R, fun p v1 v2 H1 s1 ht hE hlk => ?_⟩
  refine g_tup ht (gs_cons (g_name (by tm_at "at") (gs_cons (g_name (by tm_at "at") (gs_nil ?_)))))
  tm_at "go"
  cases hw : (work rs st r).1 with
  | none =>
    rw [hw] at hE
    cases (show v1 = .non from hE)
    tm_at "go"
    refine kn ?_ _ s1
    unfold asg
    rw [hw]
  | some es =>
    rw [hw] at hE
    obtain ⟨l, us, rfl, n1, g1, hp⟩ := hE
    obtain ⟨win, wlen⟩ := work_in hw
    have hle := R.len
    have hul := hp.len
    tm_at "go"
    refine s_setLc (own := [("index", 5), ("_", 4)]) (by tm_at "at") (Blk.of (N := N_assigned) (sc := defScope s_assigned) rfl rfl (by decide +kernel)) ?_
    refine lcL_F gIx ?_
    tm_at "go"
    refine ⟨l, us, es.map entD, rfl, .of g1, hp.dt, by rw [List.length_map]; omega, fun d x H' hd s hx => ?_, fun l2 us2 H2 s2 n2 g2 h2 => ?_⟩
    · obtain ⟨p, hp, rfl⟩ := List.mem_map.mp hd
      refine g_unp2 (by tm_at "at") (by tm_at "at") hx fun v1 v2 h1 h2 => ⟨rfl, rfl, ts_nil ⟨Same.refl _, ift ?_⟩⟩
      tm_at "go"
      exact ⟨Same.refl _, _, rfl, h1⟩
    rw [gIx_all] at h2
    obtain rfl := dtInts_eq h2
    tm_at "go"
    refine ⟨l2, _, rfl, .of g2, by rw [List.length_map]; omega, ?_⟩
    tm_at "go"
    refine rc_lenL (.of g2) ?_
    tm_at "go"
    rw [List.length_map, List.length_map]
    refine ifd (fun c1 => ?_) (fun c1 => ?_)
    · tm_at "go"
      refine kn ?_ _ (s1.trans s2)
      unfold asg
      rw [hw]
      show (if _ then _ else _) = _
      rw [if_pos (by omega)]
    have hasg : asg rs st r = if es.all (inR rs) = true then some (sortE es) else none := by
      unfold asg
      rw [hw]
      show (if _ then _ else _) = _
      rw [if_neg (by omega)]
    tm_at "go"
    refine e_callF dr ?_
    tm_at "go"
    refine ⟨_, _, .cons (hc.mono (tp_same (s1.trans s2))) .nil, ⟨rs, rfl, Nat.le_trans S.tot (by decide), rfl⟩, fun v3 H3 s3 h3 => ?_⟩
    have s13 := s1.trans (s2.trans s3)
    tm_at "go"
    refine s_forL ?_
    tm_at "go"
    refine ⟨l, us, rfl, .of ((s2.trans s3) _ _ g1), fun i σ1 H' => ∃ (v4 v5 v8 v9 v10 : Option V), σ1 = [some vc, some vr, some vst, some (.ref l), v4, v5, some (.ref l2), some v3, v8, v9, v10] ∧ Same H3 H' ∧ (es.take i).all (inR rs) = true, ⟨_, _, _, _, _, rfl, Same.refl _, rfl⟩, ?_, ?_, ?_⟩
    · rintro i σ' H' _ ⟨v4, v5, v8, v9, v10, rfl, s, _⟩
      exact .of (s _ _ ((s2.trans s3) _ _ g1))
    · rintro i x σ' H4 hx ⟨v4, v5, v8, v9, v10, rfl, s4, hall⟩
      obtain ⟨d, hd, hx'⟩ := (hp.dt (K := M.K)).getV hx
      rw [List.getElem?_map] at hd
      obtain ⟨q, hq, rfl⟩ := Option.map_eq_some_iff.mp hd
      obtain ⟨q0, q1⟩ := win q (List.mem_of_getElem? hq)
      obtain ⟨rr, hrr, hat, hin⟩ := rg_get q0 q1
      refine g_unp2 (by tm_at "at") (by tm_at "at") (hx'.mono (tp_same ((s2.trans s3).trans s4))) fun va vb ha hb => ?_
      cases ha
      cases hb
      refine b_cons (s_asg ?_)
      tm_at "go"
      refine rx_tup (h3.mono (tp_same s4)) hat fun vr hvr => ?_
      refine g_unp2 (by tm_at "at") (by tm_at "at") hvr fun vl vh hl hh => ?_
      cases hl
      cases hh
      have htk : (es.take (i + 1)).all (inR rs) = (inR rs q && true) := by
        obtain ⟨z1, z2⟩ := List.getElem?_eq_some_iff.mp hq
        rw [List.take_succ_eq_append_getElem z1, z2, List.all_append, hall, List.all_cons, List.all_nil, Bool.true_and]
      have bad : inR rs q = false → asg rs st r = none := by
        intro hb
        rw [hasg, if_neg]
        intro ha
        have := List.all_eq_true.mp ha q (List.mem_of_getElem? hq)
        rw [hb] at this
        cases this
      tm_at "go"
      refine ifd (fun c2 => ?_) (fun c2 => ?_)
      · tm_at "go"
        refine ifnd (fun c3 => ?_) (fun c3 => ?_)
        · tm_at "go"
          exact kn (bad (by rw [hin, decide_eq_true c2, decide_eq_false c3]; rfl)) _ (s13.trans s4)
        · tm_at "go"
          exact ⟨_, _, _, _, _, rfl, s4, by rw [htk, hin, decide_eq_true c2, decide_eq_true c3]; rfl⟩
      · tm_at "go"
        exact kn (bad (by rw [hin, decide_eq_false c2]; rfl)) _ (s13.trans s4)
    · rintro σ' H4 ⟨v4, v5, v8, v9, v10, rfl, s4, hall⟩
      rw [List.take_of_length_le (by omega)] at hall
      have g4 := (s2.trans (s3.trans s4)) _ _ g1
      have hp4 := hp.mono (tp_same (s2.trans (s3.trans s4)))
      tm_at "go"
      refine rc_sortedP g4 hp4 fun p ys H5 s5 n5 g5 h5 => ?_
      tm_at "go"
      refine rc_tupP (.of g5) h5.dt fun v6 H6 s6 h6 z6 p6 => ?_
      obtain ⟨t6, rfl, q6⟩ := p6
      have e6 : asg rs st r = some (sortE es) := by rw [hasg, if_pos hall]
      exact k _ _ (s13.trans (s4.trans (s5.trans s6))) (by rw [e6]; exact h6) (by rw [e6]; exact z6) fun es' e' => ⟨t6, ys, rfl, q6, by
        obtain rfl := Option.some.inj (e6.symm.trans e')
        exact h5.mono (tp_same s6)⟩
theorem ok_assigned {f fd} (F : Fun M.K "assigned" "assigned" s_assigned f fd) (b : Bl M) (dw : dcWork M) (dr : dcRng M) : FnG M.prog M.w M.K M.mg M.base CX0 14 f fd ["cells", "rule", "state"] (spZ rAsg M.K) := fn_imp (ok_assignedP F b dw dr) fun _ _ _ _ => spAsg_of
end K

namespace K
open PySem L2 G
variable {M : Md}
abbrev dcAsg (M : Md) : Prop := Dc M "assigned_rules" ["cells", "rule", "state"] 14 (spZ rAsg M.K)
def setAt (st : St1) (p : Int × Int) : St1 := st.set p.1.toNat p.2
def beh (rs : List Row) (st : St1) (r : Rl) : St1 := match asg rs st r with
  | none => st
  | some es => es.foldl setAt st
theorem firsts_nd {l : List Int} (h : l.length ≤ (firsts l).length) : l.Nodup := by
  have up : ∀ (l seen : List Int), (l.foldl (fun seen j => if j ∈ seen then seen else seen ++ [j]) seen).length ≤ seen.length + l.length := by
    intro l
    induction l with
    | nil => intro seen; exact Nat.le_refl _
    | cons j l ih =>
      intro seen
      have h := ih (if j ∈ seen then seen else seen ++ [j])
      rw [List.foldl_cons, List.length_cons]
      split at h
      · rename_i hj; rw [if_pos hj]; omega
      · rename_i hj; rw [if_neg hj]; rw [List.length_append, List.length_singleton] at h; omega
  have : ∀ (l seen : List Int), seen.length + l.length ≤ (l.foldl (fun seen j => if j ∈ seen then seen else seen ++ [j]) seen).length → (∀ x ∈ l, x ∉ seen) ∧ l.Nodup := by
    intro l
    induction l with
    | nil => intro seen _; exact ⟨(fun _ h => nomatch h), List.nodup_nil⟩
    | cons x l ih =>
      intro seen hs
      rw [List.foldl_cons, List.length_cons] at hs
      by_cases hx : x ∈ seen
      · rw [if_pos hx] at hs
        have := up l seen
        omega
      · rw [if_neg hx] at hs
        obtain ⟨h1, h2⟩ := ih (seen ++ [x]) (by rw [List.length_append, List.length_singleton]; omega)
        refine ⟨fun y hy => ?_, List.nodup_cons.mpr ⟨fun hxl => h1 x hxl (List.mem_append_right _ (List.mem_singleton.mpr rfl)), h2⟩⟩
        rcases List.mem_cons.mp hy with rfl | hy
        · exact hx
        · exact fun hys => h1 y hy (List.mem_append_left _ hys)
  exact (this l [] (by simpa [firsts] using h)).2
theorem asg_in {rs : List Row} {st : St1} {r : Rl} {es : List (Int × Int)} (h : asg rs st r = some es) : (∀ p ∈ es, (0 ≤ p.1 ∧ p.1 < total rs) ∧ inR rs p = true) ∧ es.length = r.as.length ∧ (es.map (·.1)).Nodup ∧ es.Pairwise (fun a b => leB a b = true) := by
  unfold asg at h
  split at h
  · cases h
  rename_i es0 hw
  split at h
  · cases h
  rename_i hnd
  split at h
  · rename_i hall
    cases h
    obtain ⟨h1, h2⟩ := work_in hw
    have hp := sortE_perm es0
    refine ⟨fun p hp' => ⟨h1 p (hp.mem_iff.mp hp'), List.all_eq_true.mp hall p (hp.mem_iff.mp hp')⟩, by rw [hp.length_eq, h2], ?_, sortE_pw es0⟩
    refine ((hp.map (·.1)).nodup_iff).mpr ?_
    refine firsts_nd ?_
    rw [List.length_map]
    omega
  · cases h
def rBeh : List PyData → PyData → Prop := fun ds d => ∃ (rs : List Row) (st : St1) (r : Rl), ds = [cellsD rs, r.d, stD st] ∧ StOk rs st ∧ FitR rs r ∧ d = stD (beh rs st r)
theorem setAt_len (es : List (Int × Int)) : ∀ st : St1, (es.foldl setAt st).length = st.length := by
  induction es with
  | nil => intro st; rfl
  | cons p es ih => intro st; rw [List.foldl_cons, ih, setAt, List.length_set]
def rWa : List PyData → PyData → Prop := fun ds d => ∃ (rs : List Row) (st : St1) (r : Rl), ds = [stD st, asgD (asg rs st r)] ∧ StOk rs st ∧ FitR rs r ∧ d = stD (beh rs st r)
theorem ok_wa {f fd} (F : Fun M.K "with_assigned" "with_assigned" s_with_assigned f fd) (b : Bl M) : FnG M.prog M.w M.K M.mg M.base CX0 1 f fd ["state", "entries"] (spF rWa M.K) := by
  refine fn_ok F sc_with_assigned (fun vs H Q E h => ?_) (fun H vs Q E h => ?_)
  · obtain ⟨ds, d, h, ⟨rs, st, r, rfl, _⟩, _⟩ := h
    exact h.len
  obtain ⟨ds, d, h, ⟨rs, st, r, rfl, S, R, rfl⟩, k⟩ := h
  obtain _ | ⟨hst, h⟩ := h
  obtain _ | ⟨hv0, h⟩ := h
  cases h
  rename_i vst v
  tm_at "go"
  refine rc_lstT hst fun l ys H1 s1 n1 g1 h1 => ?_
  obtain rfl := dtInts_eq h1
  have hv := hv0.mono (tp_same s1)
  refine b_cut (fun σ1 H' => ∃ (v5 v6 : Option V), σ1 = [some vst, some v, some (.ref l), v5, v6] ∧ Same H H' ∧ H' l = some (.lst ((beh rs st r).map V.int))) ?_ ?_
  · cases ha : asg rs st r with
    | none =>
      rw [ha] at hv
      cases (show Dt _ _ v .none from hv)
      have hb : beh rs st r = st := by unfold beh; rw [ha]
      tm_at "go"
      exact ⟨_, _, rfl, s1, by rw [hb]; exact g1⟩
    | some es =>
      rw [ha] at hv
      obtain ⟨hin, hlen, _⟩ := asg_in ha
      have hb : beh rs st r = es.foldl setAt st := by unfold beh; rw [ha]
      obtain ⟨a, xs, rfl, hxs, hns⟩ := (show Dt _ _ v (.tuple (es.map entD)) from hv).tupE
      have hle := hns.len
      rw [List.length_map] at hle
      tm_at "go"
      refine s_forT ?_
      tm_at "go"
      refine ⟨a, xs, rfl, hxs, fun i σ1 H' => ∃ (v5 v6 : Option V), σ1 = [some vst, some (.ref a), some (.ref l), v5, v6] ∧ Same H H' ∧ Tp H1 H' ∧ H' l = some (.lst (((es.take i).foldl setAt st).map V.int)), ⟨_, _, rfl, s1, Tp.refl _, g1⟩, ?_, ?_, ?_⟩
      · rintro i σ' H' _ ⟨v5, v6, rfl, s, t, _⟩
        exact t.sqt hxs
      · rintro i x σ' H3 hx ⟨v5, v6, rfl, s3, t3, g3⟩
        obtain ⟨d, hd, hx'⟩ := hns.getV hx
        rw [List.getElem?_map] at hd
        obtain ⟨p, hp, rfl⟩ := Option.map_eq_some_iff.mp hd
        obtain ⟨⟨p0, p1⟩, _⟩ := hin p (List.mem_of_getElem? hp)
        refine g_unp2 (by tm_at "at") (by tm_at "at") (hx'.mono t3) fun va vb ha hb => ?_
        cases ha
        cases hb
        refine b_one (s_asg ?_)
        tm_at "go"
        refine g_sub ?_
        tm_at "go"
        refine rp_of (r := rSetL) (fun X h => set_list) ⟨l, _, p.1, p.1.toNat, rfl, rfl, g3, ?_, ?_⟩
        · rw [List.length_map, setAt_len, S.len]
          unfold ixN
          rw [if_pos p0, if_pos (by omega)]
        · have ku := kp_upd (o' := .lst ((((es.take i).foldl setAt st).map V.int).set p.1.toNat (.int p.2))) g3 (fun _ e => nomatch e) (fun _ _ e => nomatch e)
          refine ⟨_, _, rfl, same_mut s3 n1, t3.trans ku.t, ?_⟩
          obtain ⟨z1, z2⟩ := List.getElem?_eq_some_iff.mp hp
          rw [List.take_succ_eq_append_getElem z1, z2, List.foldl_append]
          show _ = some (HO.lst ((setAt _ p).map V.int))
          rw [setAt, List.map_set]
          exact upd_same
      · rintro σ' H3 ⟨v5, v6, rfl, s3, t3, g3⟩
        rw [List.take_of_length_le (by omega), ← hb] at g3
        tm_at "go"
        exact ⟨_, _, rfl, s3, g3⟩
  rintro _ H3 ⟨v5, v6, rfl, s3, g3⟩
  tm_at "go"
  refine rc_tupL (.of g3) (dtInts _) fun v6 H6 s6 h6 => ?_
  exact k _ _ (s3.trans s6) h6
theorem ok_behind {f fd} (F : Fun M.K "behind" "behind" s_behind f fd) (b : Bl M) (da : dcAsg M) (dwa : Dc M "with_assigned" ["state", "entries"] 1 (spF rWa M.K)) : FnG M.prog M.w M.K M.mg M.base CX0 15 f fd ["cells", "rule", "state"] (spF rBeh M.K) := by
  refine fn_ok F sc_behind (fun vs H Q E h => ?_) (fun H vs Q E h => ?_)
  · obtain ⟨ds, d, h, ⟨rs, st, r, rfl, _⟩, _⟩ := h
    exact h.len
  obtain ⟨ds, d, h, ⟨rs, st, r, rfl, S, R, rfl⟩, k⟩ := h
  have h0 := h
  obtain _ | ⟨hc, h⟩ := h
  obtain _ | ⟨hr, h⟩ := h
  obtain _ | ⟨hst, h⟩ := h
  cases h
  rename_i vc vr vst
  tm_at "go"
  refine e_callF dwa ?_
  tm_at "go"
  refine e_callZ da ?_
  tm_at "go"
  refine ⟨_, _, h0, ⟨rs, st, r, rfl, S, R, rfl⟩, fun v H2 s2 hv zv => ?_⟩
  refine a_nil ?_
  exact ⟨_, _, .cons (hst.mono (tp_same s2)) (.cons hv .nil), ⟨rs, st, r, rfl, S, R, rfl⟩, fun v3 H3 s3 h3 => k _ _ (s2.trans s3) h3⟩
def rLof : List PyData → PyData → Prop := fun ds d => ∃ (rs : List Row) (st : St1) (r : Rl), ds = [cellsD rs, r.d, stD st] ∧ StOk rs st ∧ FitR rs r ∧ d = looksD st (work rs st r).2
theorem wo_looks {rs : List Row} {st : St1} (S : StOk rs st) : ∀ {as : List (Tg × Ex)}, (∀ p ∈ as, FitT rs p.1 ∧ Fit rs p.2 ∧ p.2.dep ≤ 2) → (∀ j ∈ (wo rs st as).2, 0 ≤ j ∧ j < total rs) ∧ (wo rs st as).2.length ≤ 64 * as.length
  | [], _ => by
    rw [wo]
    exact ⟨(fun _ h => nomatch h), Nat.zero_le _⟩
  | p :: ps, hp => by
    obtain ⟨h1, h2, h3⟩ := hp p (List.mem_cons_self ..)
    obtain ⟨i1, i2⟩ := wo_looks S fun q hq => hp q (List.mem_cons_of_mem _ hq)
    have lt := tgt_len (rs := rs) (st := st) h1
    have le2 := lenLooks (rs := rs) (st := st) (e := p.2) (n := 2) h3 (by decide)
    rw [List.length_map] at le2
    have tin : ∀ j ∈ (tgt rs st p.1).2, 0 ≤ j ∧ j < total rs := by
      cases hpt : p.1 with
      | nm => intro j hj; cases hj
      | «at» t e =>
        rw [hpt] at h1
        intro j hj
        unfold tgt at hj
        rw [keyed_snd] at hj
        exact ev_in S e h1.2.1 j hj
    have ein := ev_in S p.2 h2
    rw [List.length_cons]
    cases e1 : (tgt rs st p.1).1 with
    | none => rw [wo_j e1]; exact ⟨tin, by show (tgt rs st p.1).2.length ≤ _; omega⟩
    | some j =>
      cases e2 : (ev rs st p.2).1 with
      | none =>
        rw [wo_v e1 e2]
        refine ⟨fun j hj => ?_, by show ((tgt rs st p.1).2 ++ _).length ≤ _; rw [List.length_append]; omega⟩
        rcases List.mem_append.mp hj with hj | hj
        · exact tin j hj
        · exact ein j hj
      | some v =>
        rw [wo_s e1 e2]
        refine ⟨fun j hj => ?_, by show ((tgt rs st p.1).2 ++ (_ ++ _)).length ≤ _; rw [List.length_append, List.length_append]; omega⟩
        rcases List.mem_append.mp hj with hj | hj
        · exact tin j hj
        · rcases List.mem_append.mp hj with hj | hj
          · exact ein j hj
          · exact i1 j hj
theorem work_looks {rs : List Row} {st : St1} {r : Rl} (S : StOk rs st) (R : FitR rs r) : (∀ j ∈ (work rs st r).2, 0 ≤ j ∧ j < total rs) ∧ (work rs st r).2.length ≤ 900 := by
  obtain ⟨h1, h2⟩ := wo_looks S R.as
  have lg := lenLooks (rs := rs) (st := st) (e := r.guard) (n := 4) R.guard.2 (by decide)
  rw [List.length_map] at lg
  have gin := ev_in S r.guard R.guard.1
  have hl := R.len
  unfold work
  split
  · exact ⟨gin, by show (ev rs st r.guard).2.length ≤ _; omega⟩
  · split
    · exact ⟨gin, by show (ev rs st r.guard).2.length ≤ _; omega⟩
    · refine ⟨fun j hj => ?_, by show ((ev rs st r.guard).2 ++ _).length ≤ _; rw [List.length_append]; omega⟩
      rcases List.mem_append.mp hj with hj | hj
      · exact gin j hj
      · exact h1 j hj
theorem ok_lof {f fd} (F : Fun M.K "looks_of" "looks_of" s_looks_of f fd) (b : Bl M) (dw : dcWork M) (dfl : Dc M "first_looks" ["state", "looks"] 1 (spZ rFirst M.K)) : FnG M.prog M.w M.K M.mg M.base CX0 14 f fd ["cells", "rule", "state"] (spZ rLof M.K) := by
  refine fn_ok F sc_looks_of (fun vs H Q E h => ?_) (fun H vs Q E h => ?_)
  · obtain ⟨ds, d, h, ⟨rs, st, r, rfl, _⟩, _⟩ := h
    exact h.len
  obtain ⟨ds, d, h, ⟨rs, st, r, rfl, S, R, rfl⟩, k⟩ := h
  have h0 := h
  obtain _ | ⟨hc, h⟩ := h
  obtain _ | ⟨hr, h⟩ := h
  obtain _ | ⟨hst, h⟩ := h
  cases h
  refine b_cons (s_asg ?_)
  refine e_call dw ?_
  tm_at "go"
  refine ⟨rs, st, r, h0, S, R, fun p v1 v2 H1 s1 ht hE hlk => ?_⟩
  refine g_tup ht (gs_cons (g_name (by tm_at "at") (gs_cons (g_name (by tm_at "at") (gs_nil ?_)))))
  obtain ⟨w1, w2⟩ := work_looks S R
  tm_at "go"
  refine e_callZ dfl ?_
  tm_at "go"
  exact ⟨_, _, .cons (hst.mono (tp_same s1)) (.cons hlk .nil), ⟨rs, st, _, rfl, S, w1, w2, rfl⟩, fun v H2 s2 hv z => k _ _ (s1.trans s2) hv z⟩
end K

namespace K
open PySem L2 G
variable {M : Md}
def spFeed (K : PySem.W.Frag) : Sp := fun vs H Q _ => ∃ (sl : Addr) (ns : List Int), vs = [.ref sl] ∧ SqL K H sl (ns.map V.int) ∧ ns.length ≤ 63 ∧ ∀ fp cl H', Same H H' → H fp = none → H cl = none → Feed K H' fp cl → Q (.ref fp) H'
theorem cutV_int (ns : List Int) (lo hi : Option Int) : cutV (ns.map V.int) lo hi = (cutD ns lo hi).map V.int := cutD_map V.int ns lo hi
theorem ok_feed {f fd} (F : Fun M.K "_law_feed" "_law_feed" s__law_feed f fd) (b : Bl M) : FnG M.prog M.w M.K M.mg M.base CX0 1 f fd ["_law_script"] (spFeed M.K) := by
  refine fn_ok F sc__law_feed (fun vs H Q E h => ?_) (fun H vs Q E h => ?_)
  · obtain ⟨sl, ns, rfl, _⟩ := h
    rfl
  obtain ⟨sl, ns, rfl, hs, hl, k⟩ := h
  tm_at "go"
  refine e_disp (fun X h => pps_cons (pe_re h) (pe_re h) (pps_cons (pe_re h) (pe_re h) (pps_cons (pe_re h) (pe_re h) (pps_cons (pe_re h) (pe_re h) pps_nil)))) rfl rfl (by intro e; cases e) (by decide) ?_
  intro p hp
  simp only [tPairs]
  have s0 := same_new (o := .dK []) hp
  tm_at "go"
  refine rsl_list (s0.seq hs) fun l1 H1 s1 n1 g1 => ?_
  tm_at "go"
  refine rc_lstL (.of g1) fun l2 H2 s2 n2 g2 => ?_
  tm_at "go"
  have gp : H2 p = some (.dK []) := (s1.trans s2) _ _ upd_same
  rw [cutV_int] at g2
  have np : p ≠ l2 := by
    rintro rfl
    rw [s1 _ _ (upd_same (H := H))] at n2
    cases n2
  refine ⟨gp, fkv (.ref l2) 0 0 0, rfl, by rw [fkv_len]; decide, ?_⟩
  rw [show mergeK [] (fkv (.ref l2) 0 0 0) = fkv (.ref l2) 0 0 0 by rfl]
  have hl2 : (cutD ns none (some 63)).length ≤ 63 := Nat.le_trans (cutD_sub ns none (some 63)).length_le hl
  refine k p l2 _ (same_mut (s0.trans (s1.trans s2)) hp) hp (same_none s0 (same_none s1 n2)) ⟨_, 0, 0, 0, upd_same, ?_, hl2⟩
  rw [upd_ne (fun e => np e.symm)]
  exact g2
end K

local macro_rules | `(tactic| tm_at "mk") => `(tactic| repeat (first | (refine gRE ?_; refine e_tupD ?_) | tm_at "s" | (refine gRB ?_; first | refine b_one ?_ | refine b_cons ?_) | (refine tupend (by tm_at "dts") (Nat.le_of_ble_eq_true rfl) fun v H s h => ?_)))
namespace K
open PySem L2 G
variable {M : Md}
def rowsA : List Row := [("big", 0, 0, 1, false, true, 0), ("x", 0, 0, 3, true, false, 0)]
def rAdd : Rl := ⟨"add", .int 1, [(.nm "x", .bin "+" (.nm "x") (.int 1))]⟩
def rTwice : Rl := ⟨"twice", .int 1, [(.nm "x", .bin "*" (.nm "x") (.int 2))]⟩
def rSee : Rl := ⟨"see", .bin "<" (.int 2) (.nm "x"), [(.nm "big", .int 1)]⟩
def rowsB : List Row := [("i", 0, 0, 3, true, false, 0), ("t", 2, 0, 5, false, true, 1)]
def rMove : Rl := ⟨"move", .bin "<" (.nm "i") (.int 2), [(.at "t" (.nm "i"), .bin "+" (.at "t" (.nm "i")) (.int 1))]⟩
def rSame : Rl := ⟨"same", .int 1, [(.at "t" (.int 0), .int 1), (.at "t" (.nm "i"), .int 1)]⟩
def rowsC : List Row := [("b", 8, 0, 1, true, true, 0), ("c", 0, 5, 5, false, false, 5)]
def rowsU : List Row := [("u", 2, -1, 0, true, false, -1)]
structure Sm where
  rows : List Row
  rules : List Rl
  pairs : PyData
  starts : PyData
def Sm.d (s : Sm) : PyData := .tuple [cellsD s.rows, .tuple (s.rules.map Rl.d), s.pairs, s.starts]
def sms : List Sm := [⟨rowsA, [rAdd, rSee, rTwice], .tuple [], .int 1⟩,
  ⟨rowsA, [rAdd, rSee, rTwice], .tuple [.tuple [.str "add", .str "see"], .tuple [.str "see", .str "twice"]], .tuple [.str "<", .str "x", .int 2]⟩,
  ⟨rowsB, [rMove, rSame], .tuple [.tuple [.str "same", .str "move"]], .tuple [.str "<=", .str "i", .int 1]⟩,
  ⟨[], [], .tuple [], .int 0⟩, ⟨rowsA, [], .tuple [], .int 0⟩, ⟨rowsC, [], .tuple [], .tuple [.str "at", .str "b", .int 7]⟩,
  ⟨rowsU, [], .tuple [], .tuple [.str "not", .tuple [.str "at", .str "u", .int 1]]⟩]
theorem sw0 {ts vs : List Expr} {k1 k2 : Nat} {p1 p2 : Pos} (h : vs.all (foldedForSure 8) = true) (env : Env) : swappedStores [.Tuple ts k1 p1] (.Tuple vs k2 p2) env = pure none := by
  unfold swappedStores
  simp only [h]
  repeat (first | rfl | split)
/-- what the law asks of its samples' rows -/
structure RowsAll (rs : List Row) : Prop where
  sm : Small rs
  ri : RowsIn rs
  nd : (rs.map nameOf).Nodup
def spSm (K : PySem.W.Frag) : Sp := fun vs H Q _ => vs = [] ∧ ∀ l us H', Same H H' → H l = none → H' l = some (.lst us) → DtAll K H' us (sms.map Sm.d) → Q (.ref l) H'
set_option maxHeartbeats 4000000 in
theorem ok_samples {f fd} (F : Fun M.K "_law_samples" "_law_samples" s__law_samples f fd) (b : Bl M) : FnG M.prog M.w M.K M.mg M.base CX0 1 f fd [] (spSm M.K) := by
  refine fn_ok F sc__law_samples (fun vs H Q E h => by rw [h.1]; rfl) (fun H vs Q E h => ?_)
  obtain ⟨rfl, k⟩ := h
  refine b_cut (fun σ1 H' => ∃ v0 v1, σ1 = [some v0, some v1, none, none, none, none, none, none] ∧ Same H H' ∧ Dt M.K H' v0 rAdd.d ∧ Dt M.K H' v1 rTwice.d) ?_ ?_
  · refine s_asg ?_ (hw := sw0 (by rfl))
    tm_at "mk"
    refine g_unp2 (d1 := rAdd.d) (d2 := rTwice.d) (by tm_at "at") (by tm_at "at") (by assumption) fun v0 v1 h0 h1 => ?_
    exact ⟨_, _, rfl, by tm_at "same", h0, h1⟩
  rintro _ H1 ⟨v0, v1, rfl, s1, h0, h1⟩
  refine b_cut (fun σ1 H' => ∃ v2, σ1 = [some v0, some v1, some v2, none, none, none, none, none] ∧ Same H1 H' ∧ Dt M.K H' v2 rSee.d) ?_ ?_
  · tm_at "mk"
    exact ⟨by tm_at "same", by assumption⟩
  rintro _ H2 ⟨v2, rfl, s2, h2⟩
  refine b_cut (fun σ1 H' => ∃ v3, σ1 = [some v0, some v1, some v2, some v3, none, none, none, none] ∧ Same H2 H' ∧ Dt M.K H' v3 (cellsD rowsA)) ?_ ?_
  · tm_at "mk"
    exact ⟨by tm_at "same", by assumption⟩
  rintro _ H3 ⟨v3, rfl, s3, h3⟩
  have s13 := s1.trans (s2.trans s3)
  have a0 := h0.mono (tp_same (s2.trans s3))
  have a1 := h1.mono (tp_same (s2.trans s3))
  have a2 := h2.mono (tp_same s3)
  refine b_cut (fun σ1 H' => ∃ l us, σ1 = [some v0, some v1, some v2, some v3, some (.ref l), none, none, none] ∧ Same H3 H' ∧ H3 l = none ∧ H' l = some (.lst us) ∧ DtAll M.K H' us ((sms.take 1).map Sm.d)) ?_ ?_
  · tm_at "go"
    refine e_lstD ?_
    refine a_cons (e_tupD ?_)
    tm_at "mk"
    refine ⟨(Nat.le_of_ble_eq_true rfl), fun l H' s n g => ?_⟩
    tm_at "go"
    exact ⟨l, _, rfl, by tm_at "same", same_none (by tm_at "same") n, g, .cons (by tm_at "dt") .nil⟩
  rintro _ H4 ⟨l, us4, rfl, s4, n4, g4, d4⟩
  have n0 := same_none s13 n4
  refine b_cut (fun σ1 H' => ∃ us, σ1 = [some v0, some v1, some v2, some v3, some (.ref l), none, none, none] ∧ Same H3 H' ∧ H' l = some (.lst us) ∧ DtAll M.K H' us ((sms.take 2).map Sm.d)) ?_ ?_
  · refine s_expr (e_ext ?_)
    tm_at "go"
    refine ⟨l, _, rfl, g4, ?_⟩
    refine e_lstD ?_
    refine a_cons (e_tupD ?_)
    tm_at "mk"
    refine ⟨(Nat.le_of_ble_eq_true rfl), fun l2 H' s n g => ?_⟩
    have sH : Same H4 H' := by tm_at "same"
    have l4 := d4.len
    have ku : ∀ zs, Kp l H' (upd H' l (.lst zs)) := fun zs => kp_upd (sH _ _ g4) (fun _ e => nomatch e) (fun _ _ e => nomatch e)
    refine ⟨l2, _, _, rfl, sH _ _ g4, g, by rw [l4]; exact Nat.le_of_ble_eq_true rfl, ?_⟩
    exact ⟨_, rfl, same_mut (s4.trans sH) n4, upd_same, ((d4.mono ((tp_same sH).trans (ku _).t)).app (.cons (Dt.mono (ku _).t (by tm_at "dt")) .nil))⟩
  rintro _ H5 ⟨us5, rfl, s5, g5, d5⟩
  refine b_cut (fun σ1 H' => ∃ v5, σ1 = [some v0, some v1, some v2, some v3, some (.ref l), some v5, none, none] ∧ Same H5 H' ∧ Dt M.K H' v5 (cellsD rowsB)) ?_ ?_
  · tm_at "mk"
    exact ⟨by tm_at "same", by assumption⟩
  rintro _ H6 ⟨v5, rfl, s6, h5⟩
  refine b_cut (fun σ1 H' => ∃ v6, σ1 = [some v0, some v1, some v2, some v3, some (.ref l), some v5, some v6, none] ∧ Same H6 H' ∧ Dt M.K H' v6 rMove.d) ?_ ?_
  · tm_at "mk"
    exact ⟨by tm_at "same", by assumption⟩
  rintro _ H7 ⟨v6, rfl, s7, h6⟩
  refine b_cut (fun σ1 H' => ∃ v7, σ1 = [some v0, some v1, some v2, some v3, some (.ref l), some v5, some v6, some v7] ∧ Same H7 H' ∧ Dt M.K H' v7 rSame.d) ?_ ?_
  · tm_at "mk"
    exact ⟨by tm_at "same", by assumption⟩
  rintro _ H8 ⟨v7, rfl, s8, h7⟩
  have s58 := s6.trans (s7.trans s8)
  have b5 := h5.mono (tp_same (s7.trans s8))
  have b6 := h6.mono (tp_same s8)
  have b3 := h3.mono (tp_same (s5.trans s58))
  have s38 := s5.trans s58
  have g8 := s58 _ _ g5
  have d8 := d5.mono (tp_same s58)
  clear h5 h6 s6 s7 s8 a0 a1 a2 h0 h1 h2 s58 h3
  refine b_cut (fun σ1 H' => ∃ us, σ1 = [some v0, some v1, some v2, some v3, some (.ref l), some v5, some v6, some v7] ∧ Same H3 H' ∧ H' l = some (.lst us) ∧ DtAll M.K H' us ((sms.take 4).map Sm.d) ∧ Dt M.K H' v3 (cellsD rowsA)) ?_ ?_
  · refine s_expr (e_ext ?_)
    tm_at "go"
    refine ⟨l, _, rfl, g8, ?_⟩
    refine e_lstD ?_
    refine a_cons (e_tupD ?_)
    tm_at "mk"
    refine ⟨(Nat.le_of_ble_eq_true rfl), fun l2 H' s n g => ?_⟩
    obtain ⟨ws, gw, hw⟩ : ∃ ws, H' l2 = some (.lst ws) ∧ DtAll M.K H' ws (((sms.take 4).drop 2).map Sm.d) := ⟨_, g, .cons (by tm_at "dt") (.cons (by tm_at "dt") .nil)⟩
    have sH : Same H8 H' := by tm_at "same"
    have lw := hw.len
    have l4 := d8.len
    have ku : ∀ zs, Kp l H' (upd H' l (.lst zs)) := fun zs => kp_upd (sH _ _ g8) (fun _ e => nomatch e) (fun _ _ e => nomatch e)
    refine ⟨l2, _, _, rfl, sH _ _ g8, gw, by rw [l4, lw]; exact Nat.le_of_ble_eq_true rfl, ?_⟩
    exact ⟨_, rfl, same_mut (s38.trans sH) n4, upd_same, (d8.mono ((tp_same sH).trans (ku _).t)).app (hw.mono (ku _).t), b3.mono ((tp_same sH).trans (ku _).t)⟩
  clear b3 b5 b6 h7 g8 d8 s38
  rintro _ H9 ⟨us9, rfl, s9, g9, d9, h3⟩
  refine b_cut (fun σ1 H' => ∃ us, σ1 = [some v0, some v1, some v2, some v3, some (.ref l), some v5, some v6, some v7] ∧ Same H3 H' ∧ H' l = some (.lst us) ∧ DtAll M.K H' us ((sms.take 5).map Sm.d)) ?_ ?_
  · refine s_expr (e_ext ?_)
    tm_at "go"
    refine ⟨l, _, rfl, g9, ?_⟩
    refine e_lstD ?_
    refine a_cons (e_tupD ?_)
    tm_at "mk"
    refine ⟨(Nat.le_of_ble_eq_true rfl), fun l2 H' s n g => ?_⟩
    have sH : Same H9 H' := by tm_at "same"
    have l4 := d9.len
    have ku : ∀ zs, Kp l H' (upd H' l (.lst zs)) := fun zs => kp_upd (sH _ _ g9) (fun _ e => nomatch e) (fun _ _ e => nomatch e)
    refine ⟨l2, _, _, rfl, sH _ _ g9, g, by rw [l4]; exact Nat.le_of_ble_eq_true rfl, ?_⟩
    exact ⟨_, rfl, same_mut (s9.trans sH) n4, upd_same, ((d9.mono ((tp_same sH).trans (ku _).t)).app (.cons (Dt.mono (ku _).t (by tm_at "dt")) .nil))⟩
  clear h3 g9 d9 s9
  rintro _ Ha ⟨usa, rfl, sa, ga, dda⟩
  refine b_cut (fun σ1 H' => ∃ us, σ1 = [some v0, some v1, some v2, some v3, some (.ref l), some v5, some v6, some v7] ∧ Same H3 H' ∧ H' l = some (.lst us) ∧ DtAll M.K H' us ((sms.take 6).map Sm.d)) ?_ ?_
  · refine s_expr (e_app ?_)
    tm_at "go"
    refine ⟨l, _, rfl, ga, ?_⟩
    refine e_tupD ?_
    tm_at "mk"
    rename_i vL HL sL hL
    have sH : Same Ha HL := by tm_at "same"
    have la := dda.len
    have ku : ∀ zs, Kp l HL (upd HL l (.lst zs)) := fun zs => kp_upd (sH _ _ ga) (fun _ e => nomatch e) (fun _ _ e => nomatch e)
    refine ⟨usa, sH _ _ ga, by rw [la]; exact Nat.le_of_ble_eq_true rfl, ?_⟩
    exact ⟨_, rfl, same_mut (sa.trans sH) n4, upd_same, (dda.mono ((tp_same sH).trans (ku _).t)).app (.cons (Dt.mono (ku _).t hL) .nil)⟩
  rintro _ Hb ⟨usb, rfl, sb, gb, ddb⟩
  tm_at "go"
  refine e_lstD ?_
  refine a_cons (e_tupD ?_)
  tm_at "mk"
  refine ⟨(Nat.le_of_ble_eq_true rfl), fun l2 H' s n g => ?_⟩
  obtain ⟨ws, gw, hw⟩ : ∃ ws, H' l2 = some (.lst ws) ∧ DtAll M.K H' ws ((sms.drop 6).map Sm.d) := ⟨_, g, .cons (by tm_at "dt") .nil⟩
  have sH : Same Hb H' := by tm_at "same"
  have lw := hw.len
  have lb := ddb.len
  refine ro_cat (sH _ _ gb) gw (by rw [lb, lw]; exact Nat.le_of_ble_eq_true rfl) fun p H2 s2 n2 g2 => ?_
  exact k p _ H2 (s13.trans (sb.trans (sH.trans s2))) (same_none (s13.trans (sb.trans sH)) n2) g2 ((ddb.mono (tp_same (sH.trans s2))).app (hw.mono (tp_same s2)))
end K

namespace K
open PySem L2 G
variable {M : Md}
theorem rg_mem {rs : List Row} {p : Rng} (h : p ∈ rg rs) : ∃ r ∈ rs, p = (r.2.2.1, r.2.2.2.1) := by
  obtain ⟨r, hr, h2⟩ := List.mem_flatMap.mp h
  exact ⟨r, hr, (List.mem_replicate.mp h2).2⟩
theorem menus_ok : ∀ m ∈ menus, m.Nodup ∧ ∀ s ∈ m, PyData.strOk s = true := by decide +kernel
theorem total_le {rs : List Row} (h : ∀ r ∈ rs, r.2.1 ≤ 3) : total rs ≤ 3 * rs.length := by
  induction rs with
  | nil => exact Nat.le_refl _
  | cons r rs ih =>
    have h1 := h r (List.mem_cons_self ..)
    have h2 := ih fun q hq => h q (List.mem_cons_of_mem _ hq)
    have e : total (r :: rs) = width r + total rs := by simp [total]
    have w : width r ≤ 3 := by unfold width; omega
    rw [List.length_cons]
    omega
theorem rows3_all {most : Nat} {rs : List Row} (h : Rows3 most rs) (hm : most ≤ 256) : RowsAll rs := by
  obtain ⟨m, hm1, sub⟩ := h.nm
  obtain ⟨nd, so⟩ := menus_ok m hm1
  have hl := h.len
  refine ⟨⟨?_, fun p hp => ?_, Nat.le_trans h.many hm⟩, ⟨by omega, fun r hr => so _ (sub.subset (List.mem_map.mpr ⟨r, hr, rfl⟩))⟩, sub.nodup nd⟩
  · have := total_le fun r hr => (h.ok r hr).size
    omega
  · obtain ⟨r, hr, rfl⟩ := rg_mem hp
    obtain ⟨a, b, c, d, e, f, g⟩ := h.ok r hr
    unfold span
    simp only
    omega
theorem all_of (rs : List Row) (h : (decide (total rs ≤ 10) && (rg rs).all (fun p => decide (1 ≤ span p) && decide (-10 ≤ p.1) && decide (p.2 ≤ 10)) && decide (many (rg rs) ≤ 256) && decide (rs.length ≤ 10) && rs.all (fun r => PyData.strOk r.1) && decide (rs.map nameOf).Nodup) = true) : RowsAll rs := by
  simp only [Bool.and_eq_true, List.all_eq_true, decide_eq_true_eq] at h
  obtain ⟨⟨⟨⟨⟨h1, h2⟩, h3⟩, h4⟩, h5⟩, h6⟩ := h
  exact ⟨⟨h1, fun p hp => ⟨(h2 p hp).1.1, (h2 p hp).1.2, (h2 p hp).2⟩, h3⟩, ⟨h4, h5⟩, h6⟩
theorem sms_all : ∀ s ∈ sms, RowsAll s.rows := by
  intro s hs
  have h : sms.all (fun s => (decide (total s.rows ≤ 10) && (rg s.rows).all (fun p => decide (1 ≤ span p) && decide (-10 ≤ p.1) && decide (p.2 ≤ 10)) && decide (many (rg s.rows) ≤ 256) && decide (s.rows.length ≤ 10) && s.rows.all (fun r => PyData.strOk r.1) && decide (s.rows.map nameOf).Nodup)) = true := by decide +kernel
  exact all_of _ (List.all_eq_true.mp h s hs)
theorem fold_val (B : Int) : ∀ (ps : List Rng) (acc : List St1), (∀ p ∈ ps, -B ≤ p.1 ∧ p.2 ≤ B) → (∀ o ∈ acc, ∀ v ∈ o, -B ≤ v ∧ v ≤ B) → ∀ o ∈ ps.foldl widen acc, ∀ v ∈ o, -B ≤ v ∧ v ≤ B
  | [], acc, _, h => h
  | p :: ps, acc, hp, h => by
    refine fold_val B ps (widen acc p) (fun q hq => hp q (List.mem_cons_of_mem _ hq)) fun o ho v hv => ?_
    obtain ⟨o2, h2, h3⟩ := List.mem_flatMap.mp ho
    obtain ⟨t, ht, rfl⟩ := List.mem_map.mp h3
    have ht := List.mem_range.mp ht
    have hp1 := hp p (List.mem_cons_self ..)
    rcases List.mem_append.mp hv with hv | hv
    · exact h o2 h2 v hv
    · rw [List.mem_singleton.mp hv]
      unfold span at ht
      omega
/-- each value lies in its range -/
def Lies (qs : List Rng) (o : St1) : Prop := o.length = qs.length ∧ ∀ (i : Nat) (r : Rng), qs[i]? = some r → r.1 ≤ gt o i ∧ gt o i ≤ r.2
theorem lies_fold : ∀ (ps qs : List Rng) (acc : List St1), (∀ o ∈ acc, Lies qs o) → ∀ o ∈ ps.foldl widen acc, Lies (qs ++ ps) o
  | [], qs, acc, h => by rw [List.append_nil]; exact h
  | p :: ps, qs, acc, h => by
    have e : qs ++ p :: ps = (qs ++ [p]) ++ ps := by rw [List.append_assoc]; rfl
    rw [e]
    refine lies_fold ps (qs ++ [p]) (widen acc p) fun o ho => ?_
    obtain ⟨o2, h2, h3⟩ := List.mem_flatMap.mp ho
    obtain ⟨t, ht, rfl⟩ := List.mem_map.mp h3
    have ht := List.mem_range.mp ht
    obtain ⟨l2, g2⟩ := h o2 h2
    refine ⟨by rw [List.length_append, List.length_append, l2]; rfl, fun i r hr => ?_⟩
    unfold gt
    rw [Int.toNat_natCast, List.getD_eq_getElem?_getD]
    by_cases hi : i < qs.length
    · rw [List.getElem?_append_left hi] at hr
      have := g2 i r hr
      unfold gt at this
      rw [Int.toNat_natCast, List.getD_eq_getElem?_getD] at this
      rw [List.getElem?_append_left (by omega)]
      exact this
    · rw [List.getElem?_append_right (by omega)] at hr
      rw [List.getElem?_append_right (by omega), l2]
      have hi2 : i - qs.length = 0 := by
        have := (List.getElem?_eq_some_iff.mp hr).1
        rw [List.length_singleton] at this
        omega
      rw [hi2] at hr ⊢
      obtain rfl : p = r := Option.some.inj hr
      show p.1 ≤ p.1 + (t : Int) ∧ p.1 + (t : Int) ≤ p.2
      unfold span at ht
      omega
theorem states_ok {rs : List Row} (A : RowsAll rs) : ∀ st ∈ statesOf (rg rs), StOk rs st := by
  intro st hst
  refine ⟨by rw [states_mem hst, rg_len], fun v hv => ?_, A.sm.tot, A.nd, A.ri, ?_⟩
  · exact fold_val 10 (rg rs) [[]] (fun p hp => ⟨(A.sm.sp p hp).2.1, (A.sm.sp p hp).2.2⟩) (fun o ho v hv => by rw [List.mem_singleton.mp ho] at hv; cases hv) st hst v hv
  · have h0 := lies_fold (rg rs) [] [[]] (fun o ho => by rw [List.mem_singleton.mp ho]; exact ⟨rfl, fun i r hr => by simp at hr⟩) st hst
    exact h0.2
/-- the rules of the samples fit -/
theorem fitB {rs : List Row} {s : Str} (h : (rs.any fun r => decide (r.1 = s) && decide (r.2.1 = 0)) = true) : ∃ r ∈ rs, r.1 = s ∧ r.2.1 = 0 := by
  obtain ⟨r, hr, h2⟩ := List.any_eq_true.mp h
  simp only [Bool.and_eq_true, decide_eq_true_eq] at h2
  exact ⟨r, hr, h2⟩
theorem fitC {rs : List Row} {s : Str} (h : (rs.any fun r => decide (r.1 = s) && decide (0 < r.2.1)) = true) : ∃ r ∈ rs, r.1 = s ∧ 0 < r.2.1 := by
  obtain ⟨r, hr, h2⟩ := List.any_eq_true.mp h
  simp only [Bool.and_eq_true, decide_eq_true_eq] at h2
  exact ⟨r, hr, h2⟩
def fitb (rs : List Row) : Ex → Bool
  | .int i => decide (-1000000 ≤ i ∧ i ≤ 1000000)
  | .nm s => rs.any fun r => decide (r.1 = s) && decide (r.2.1 = 0)
  | .at t e => (rs.any fun r => decide (r.1 = t) && decide (0 < r.2.1)) && fitb rs e
  | .un op e => decide (op ∈ uns) && fitb rs e
  | .bin op a b => decide (op ∈ bins) && (fitb rs a && fitb rs b)
  | .kk op e n => decide (op ∈ kks) && (fitb rs e && decide (1 ≤ n ∧ n ≤ 3))
  | .ite a b e => fitb rs a && (fitb rs b && fitb rs e)
theorem fitb_ok {rs : List Row} : ∀ e : Ex, fitb rs e = true → Fit rs e
  | .int i, h => by
    unfold fitb at h
    unfold Fit
    exact of_decide_eq_true h
  | .nm s, h => by unfold fitb at h; exact fitB h
  | .at t e, h => by
    unfold fitb at h
    rw [Bool.and_eq_true] at h
    exact ⟨fitC h.1, fitb_ok e h.2⟩
  | .un op e, h => by
    unfold fitb at h
    rw [Bool.and_eq_true] at h
    exact ⟨of_decide_eq_true h.1, fitb_ok e h.2⟩
  | .bin op a b, h => by
    unfold fitb at h
    rw [Bool.and_eq_true, Bool.and_eq_true] at h
    exact ⟨of_decide_eq_true h.1, fitb_ok a h.2.1, fitb_ok b h.2.2⟩
  | .kk op e n, h => by
    unfold fitb at h
    rw [Bool.and_eq_true, Bool.and_eq_true] at h
    exact ⟨of_decide_eq_true h.1, fitb_ok e h.2.1, of_decide_eq_true h.2.2⟩
  | .ite a b e, h => by
    unfold fitb at h
    rw [Bool.and_eq_true, Bool.and_eq_true] at h
    exact ⟨fitb_ok a h.1, fitb_ok b h.2.1, fitb_ok e h.2.2⟩
def fittb (rs : List Row) : Tg → Bool
  | .nm s => rs.any fun r => decide (r.1 = s) && decide (r.2.1 = 0)
  | .at t e => (rs.any fun r => decide (r.1 = t) && decide (0 < r.2.1)) && (fitb rs e && decide (e.dep ≤ 2))
theorem fittb_ok {rs : List Row} (t : Tg) (h : fittb rs t = true) : FitT rs t := by
  cases t with
  | nm s => exact fitB h
  | «at» t e =>
    unfold fittb at h
    rw [Bool.and_eq_true, Bool.and_eq_true] at h
    exact ⟨fitC h.1, fitb_ok e h.2.1, of_decide_eq_true h.2.2⟩
def rlb (rs : List Row) (r : Rl) : Bool := PyData.strOk r.name && (fitb rs r.guard && decide (r.guard.dep ≤ 4)) && decide (r.as.length ≤ 10) && decide (0 < r.as.length) && r.as.all fun p => fittb rs p.1 && (fitb rs p.2 && decide (p.2.dep ≤ 2))
theorem rlb_ok {rs : List Row} {r : Rl} (h : rlb rs r = true) : FitR rs r := by
  unfold rlb at h
  simp only [Bool.and_eq_true, List.all_eq_true, decide_eq_true_eq] at h
  obtain ⟨⟨⟨⟨h1, h2⟩, h3⟩, h4⟩, h5⟩ := h
  exact ⟨h1, ⟨fitb_ok _ h2.1, h2.2⟩, h3, fun e => by rw [e] at h4; exact absurd h4 (by decide), fun p hp => ⟨fittb_ok _ (h5 p hp).1, fitb_ok _ (h5 p hp).2.1, (h5 p hp).2.2⟩⟩
theorem sms_fit : ∀ s ∈ sms, ∀ r ∈ s.rules, FitR s.rows r := by
  have h : sms.all (fun s => s.rules.all fun r => rlb s.rows r) = true := by decide +kernel
  intro s hs r hr
  exact rlb_ok (List.all_eq_true.mp (List.all_eq_true.mp h s hs) r hr)
end K

namespace K
open PySem PySem.Spec PyProof.Rows L2 G
/-! ### repr of data: its size -/
structure Shw (m n : Nat) (d : PyData) : Prop where
  ok : d.showable = true
  len : d.shown.length ≤ n
  dep : d.depth ≤ m
  nod : d.hasDict = false
theorem Shw.up {m n m' n' : Nat} {d : PyData} (h : Shw m n d) (h1 : m ≤ m') (h2 : n ≤ n') : Shw m' n' d := ⟨h.ok, Nat.le_trans h.len h2, Nat.le_trans h.dep h1, h.nod⟩
theorem sw_none : Shw 0 13 .none := ⟨by simp only [PyData.showable], by simp only [PyData.shown]; decide, by simp only [PyData.depth]; exact Nat.le_refl _, by simp only [PyData.hasDict]⟩
theorem sw_bool (b : Bool) : Shw 0 13 (.bool b) := by
  refine ⟨by simp only [PyData.showable], ?_, by simp only [PyData.depth]; exact Nat.le_refl _, by simp only [PyData.hasDict]⟩
  simp only [PyData.shown]
  cases b <;> decide
theorem sw_int {i : Int} (h : i.natAbs < 10 ^ 12) : Shw 0 13 (.int i) := by
  refine ⟨?_, PyData.shown_int_le h, by simp only [PyData.depth]; exact Nat.le_refl _, by simp only [PyData.hasDict]⟩
  simp only [PyData.showable, decide_eq_true_eq]
  have h2 : i.natAbs.log2 < 40 := PySem.Flt.log2_lt_of (by decide) (Nat.lt_of_lt_of_le h (by decide))
  omega
theorem sw_str {x : Str} {n : Nat} (h : (reprText x).length ≤ n) : Shw 0 n (.str x) := ⟨by simp only [PyData.showable], by simp only [PyData.shown]; exact h, by simp only [PyData.depth]; exact Nat.le_refl _, by simp only [PyData.hasDict]⟩
theorem sw_all {m n : Nat} : ∀ {ds : List PyData}, (∀ d ∈ ds, Shw m n d) → PyData.showableAll ds = true ∧ ((PyData.shownAll ds).map (·.length)).sum ≤ ds.length * n ∧ PyData.depthAll ds ≤ m ∧ PyData.hasDictAll ds = false
  | [], _ => ⟨by simp only [PyData.showableAll], by simp only [PyData.shownAll]; exact Nat.zero_le _, by simp only [PyData.depthAll]; exact Nat.zero_le _, by simp only [PyData.hasDictAll]⟩
  | d :: ds, h => by
    have h1 := h d (List.mem_cons_self ..)
    obtain ⟨a1, a2, a3, a4⟩ := sw_all fun e he => h e (List.mem_cons_of_mem _ he)
    refine ⟨by simp only [PyData.showableAll, h1.ok, a1, Bool.and_self], ?_, ?_, by simp only [PyData.hasDictAll, h1.nod, a4, Bool.or_self]⟩
    · have := h1.len
      simp only [PyData.shownAll, List.map_cons, List.sum_cons, List.length_cons, Nat.succ_mul]
      omega
    · simp only [PyData.depthAll]
      exact Nat.max_le.mpr ⟨h1.dep, a3⟩
theorem sw_tup {m n k : Nat} {ds : List PyData} (h : ∀ d ∈ ds, Shw m n d) (hk : ds.length ≤ k) : Shw (m + 1) (k * (n + 2) + 3) (.tuple ds) := by
  obtain ⟨a1, a2, a3, a4⟩ := sw_all h
  refine ⟨by simp only [PyData.showable, a1], ?_, by simp only [PyData.depth]; omega, by simp only [PyData.hasDict, a4]⟩
  simp only [PyData.shown]
  refine Nat.le_trans (tupleText_len_le _) ?_
  have e : (PyData.shownAll ds).length = ds.length := PyData.shownAll_length ds
  have e2 : ds.length * (n + 2) ≤ k * (n + 2) := Nat.mul_le_mul_right _ hk
  rw [e]
  rw [Nat.mul_add] at e2
  omega
theorem sw_lst {m n k : Nat} {ds : List PyData} (h : ∀ d ∈ ds, Shw m n d) (hk : ds.length ≤ k) : Shw (m + 1) (k * (n + 2) + 3) (.list ds) := by
  obtain ⟨a1, a2, a3, a4⟩ := sw_all h
  refine ⟨by simp only [PyData.showable, a1], ?_, by simp only [PyData.depth]; omega, by simp only [PyData.hasDict, a4]⟩
  simp only [PyData.shown]
  refine Nat.le_trans (listText_len_le _) ?_
  have e : (PyData.shownAll ds).length = ds.length := PyData.shownAll_length ds
  have e2 : ds.length * (n + 2) ≤ k * (n + 2) := Nat.mul_le_mul_right _ hk
  rw [e]
  rw [Nat.mul_add] at e2
  omega
/-! ### repr(v) of a tuple or list of data -/
def rRepr (K : PySem.W.Frag) : List V → Hp → VK → Prop := fun vs H Q => ∃ a d, vs = [.ref a] ∧ Dp K H (.ref a) d ∧ Shw 60 1000000 d ∧ Q (.str d.shown) H
theorem cr_repr {X : Cx} (quiet : X.A.guards = some []) (hu : X.A.units + 64 < cLine) : CallR X (.builtin "repr") (rRepr X.K) := by
  intro pins st σ H vs us Q J rv z
  obtain ⟨a, d, rfl, hd, sw, k⟩ := z
  obtain rfl := Vals.ref1 rv
  obtain ⟨as, rd⟩ := Dp.reads J d (.ref a) (.ref a) hd rfl
  have h1 := sw.dep
  have h2 := sw.len
  refine repr_of_reads' rd sw.ok (fun h => by rw [sw.nod] at h; cases h) quiet (by omega) (fun _ _ e => e) (fun h' u tk keep => ?_) (by rw [sizeLine_eq]; omega)
  exact ⟨.str d.shown, H, J.kept (t' := tk) keep, ⟨u, rfl⟩, k⟩
theorem rc_repr {c : Cd} {H : Hp} {Q : VK} {a : Addr} {d : PyData} (hd : Dp c.K H (.ref a) d) (sw : Shw 60 1000000 d) (q : Q (.str d.shown) H) (hq : c.g = true := by rfl) : RC c (.builtin "repr") [.ref a] H Q :=
  rc_of (r := rRepr c.K) (fun X h => by rw [← h.K]; exact cr_repr (h.gd hq) h.room.units) ⟨a, d, rfl, hd, sw, q⟩
end K

namespace K
open PySem L2 G
theorem putK_new {kvs : List (Key × V)} {k : Key} {v : V} (h : k ∉ kvs.map (·.1)) : putK kvs k v = kvs ++ [(k, v)] := by
  unfold putK
  rw [if_neg]
  intro ha
  obtain ⟨x, hx, e⟩ := List.any_eq_true.mp ha
  exact h (List.mem_map.mpr ⟨x, hx, by simpa using e⟩)
end K

namespace K
open PySem PySem.Spec PyProof.Rows L2 G
variable {M : Md}
def kvE (p : Int × Int) : Key × V := (Sum.inl p.1, .int p.2)
end K
namespace K
open PySem PySem.Spec PyProof.Rows L2 G
section
variable {X : Cx}
/-- d.items() of a dict with ints or texts for keys -/
def rItK : V → List V → Hp → VK → Prop := fun o args H Q => ∃ (d : Addr) (kvs : List (Key × V)), o = .ref d ∧ args = [] ∧ H d = some (.dK kvs) ∧ ∀ v, H v = none → Q (.ref v) (upd H v (L2.DX.itemsO v d))
theorem mt_itK : MtR X "dict.items" rItK := by
  intro pins st σ H o args ov us Q J ro rargs z
  obtain ⟨d, kvs, rfl, rfl, hd, k⟩ := z
  cases ro
  cases rargs
  obtain ⟨_, nosys, _, _, ob, en, ep, g1, g2, g3, _⟩ := (show ObjOk X.prog X.w H st.heap d (.dK kvs) from J.hok d _ hd)
  refine DT.callItems (ep := ep) (es := en) nosys ⟨ob, g1, g2, g3⟩ ?_
  exact ⟨.ref st.heap.objs.size, _, J.laid (o := L2.DX.itemsO st.heap.objs.size d) (t' := st.toks) (fun c o e => Heap.get?_push_of_some _ e) (Nat.le_refl _) (L2.DX.itemsO_ok (Heap.get?_push_size _ rfl)), rfl, k _ (J.hok.fresh (Nat.le_refl _))⟩
theorem ents_raw {P : Program} {w : World} : ∀ {es : List (Int × Int)} {kvs : List (Key × Value)} {en : List DictEntry}, KV (es.map kvE) kvs → Pairs (mixKind P w) en kvs → ∀ (j : Nat) (e : DictEntry), en[j]? = some e → ∃ (p : Int × Int) (t u : Tok), es[j]? = some p ∧ e.key = Value.int p.1 t ∧ e.val = Value.int p.2 u := by
  intro es
  induction es with
  | nil =>
    intro kvs en r ps j e h
    cases r
    cases ps
    simp at h
  | cons p es ih =>
    intro kvs en r ps j e h
    obtain _ | ⟨r1, r2⟩ := r
    obtain _ | ⟨p1, p2, p3⟩ := ps
    cases j with
    | zero =>
      obtain rfl := Option.some.inj h
      obtain ⟨z1, u, z2⟩ := r1
      change keyIs _ _ = true at p1
      rw [← z1] at p1
      rcases keyIs_shape p1 with ⟨i, t, y1, y2⟩ | ⟨x, t, y1, _⟩
      · cases y1
        exact ⟨p, t, u, rfl, y2, p2.trans z2⟩
      · cases y1
    | succ j =>
      obtain ⟨q, t, u, y1, y2⟩ := ih r2 p3 j e (by simpa using h)
      exact ⟨q, t, u, by simpa using y1, y2⟩
open Classical in
noncomputable def pk (h : Heap) (v : Value) : Int × Int := if z : ∃ e : Int × Int, Srt.IsPair h v e.1 e.2 then z.choose else (0, 0)
theorem pk_is {h : Heap} {v : Value} {e : Int × Int} (z : Srt.IsPair h v e.1 e.2) : pk h v = e := by
  have y : ∃ e : Int × Int, Srt.IsPair h v e.1 e.2 := ⟨e, z⟩
  have w : Srt.IsPair h v (pk h v).1 (pk h v).2 := by
    unfold pk
    rw [dif_pos y]
    exact y.choose_spec
  obtain ⟨a, o, t, u, n, rfl, g1, _, g2⟩ := z
  obtain ⟨a', o', t', u', n', e', g1', _, g2'⟩ := w
  cases e'
  obtain rfl : o = o' := Option.some.inj (g1.symm.trans g1')
  have e3 := g2.symm.trans g2'
  injection e3 with e4 _
  injection e4 with e5
  injection e5 with e6 e7
  injection e7 with e8 _
  injection e6 with i1 _
  injection e8 with i2 _
  exact Prod.ext i1.symm i2.symm
theorem prAll_back {H : Hp} {k : Value → Int × Int} : ∀ {us : List Value}, (∀ x ∈ us, ∃ b, x = Value.ref b ∧ H b = some (.tup [.int (k x).1, .int (k x).2])) → PrAll H (us.map backV) (us.map k)
  | [], _ => .nil
  | x :: us, h => by
    obtain ⟨b, rfl, hb⟩ := h x (List.mem_cons_self ..)
    exact .cons hb (prAll_back fun y hy => h y (List.mem_cons_of_mem _ hy))
/-- sorted(d.items()), keys and values ints -/
def rSoK : List V → Hp → VK → Prop := fun args H Q => ∃ (v d : Addr) (es : List (Int × Int)), args = [.ref v] ∧ H v = some (L2.DX.itemsO v d) ∧ H d = some (.dK (es.map kvE)) ∧
  ∀ l us H', Same H H' → H l = none → H' l = some (.lst us) → PrAll H' us (sortE es) → Q (.ref l) H'
theorem cr_soK (quiet : X.calm = true) : CallR X (.builtin "sorted") rSoK := by
  intro pins st σ H args us Q J rv z
  obtain ⟨v, d, es, rfl, hv, hd, k⟩ := z
  obtain rfl := Vals.ref1 rv
  have view : st.heap.IsItemsView v d := (show ObjOk X.prog X.w H st.heap v (L2.DX.itemsO v d) from J.hok v _ hv).1
  obtain ⟨short, nosys, kvs, rel, ob, en, ep, g1, g2, g3, _, g4, _⟩ := (show ObjOk X.prog X.w H st.heap d (.dK (es.map kvE)) from J.hok d _ hd)
  have n1 := KV.length rel
  have n2 := g4.length
  rw [List.length_map] at n1 short
  rw [Array.length_toList] at n2
  refine DT.sortedI (ep := ep) (es := en) (J.ok.hd quiet) view ⟨ob, g1, g2, g3⟩ (by omega) fun hp tk as keep big len made => ?_
  have far : ∀ c o, hp.get? c = some o → c ≠ hp.objs.size := fun c o e => Nat.ne_of_lt (Heap.lt_size e)
  have once : as.Nodup := made.rise.imp fun h => Nat.ne_of_lt h
  have pr : ∀ (j : Nat) (b : Addr), as[j]? = some b → ∃ (p : Int × Int) (t u : Tok), es[j]? = some p ∧ hp.get? b = some { cls := .type "tuple", data := .seq #[Value.int p.1 t, Value.int p.2 u] } := by
    intro j b hj
    obtain ⟨e, h1, h2⟩ := made.pairs j b hj
    obtain ⟨p, t, u, y1, y2, y3⟩ := ents_raw rel g4 j e (by rw [Array.getElem?_toList]; exact h1)
    exact ⟨p, t, u, y1, by rw [h2, y2, y3]⟩
  have hol : (hp.push { cls := .type "list", data := .seq (as.map Value.ref).toArray }).get? hp.objs.size = some (seqObj "list" (as.map Value.ref).toArray 0) := Heap.get?_push_size _ rfl
  have k0 : ∀ c o, hp.get? c = some o → (hp.push { cls := .type "list", data := .seq (as.map Value.ref).toArray }).get? c = some o := fun c o e => Heap.get?_push_of_some _ e
  generalize hp.push { cls := .type "list", data := .seq (as.map Value.ref).toArray } = hq at hol k0 ⊢
  have pin : ∀ (j : Nat) (b : Addr), as[j]? = some b → ∃ p : Int × Int, es[j]? = some p ∧ Srt.IsPair hq (.ref b) p.1 p.2 := by
    intro j b hj
    obtain ⟨p, t, u, y1, y2⟩ := pr j b hj
    exact ⟨p, y1, b, _, t, u, 0, rfl, k0 _ _ y2, rfl, rfl⟩
  have pall : ∀ x ∈ as.map Value.ref, ∃ b, x = .ref b ∧ b ∈ as ∧ Srt.IsPair hq x (pk hq x).1 (pk hq x).2 := by
    intro x hx
    obtain ⟨b, hb, rfl⟩ := List.mem_map.mp hx
    obtain ⟨j, hj⟩ := List.mem_iff_getElem?.mp hb
    obtain ⟨p, _, y⟩ := pin j b hj
    exact ⟨b, rfl, hb, by rw [pk_is y]; exact y⟩
  have keys : (as.map Value.ref).map (pk hq) = es := by
    rw [List.map_map]
    refine List.ext_getElem? fun j => ?_
    rw [List.getElem?_map]
    cases hj : as[j]? with
    | none =>
      have := List.getElem?_eq_none_iff.mp hj
      exact (List.getElem?_eq_none_iff.mpr (by omega)).symm
    | some b =>
      obtain ⟨p, y1, y2⟩ := pin j b hj
      rw [y1]
      exact congrArg some (pk_is y2)
  refine wpAny_call_entry PyProof.Rows.slot_list_sort ⟨_, hol, rfl⟩ PyProof.Rows.entry_list_sort (SrtO.list_sort_ord (s := { st with heap := hq, toks := tk }) (vs := as.map Value.ref) (SrtO.swo_lex (pk hq)) hol (by rw [List.length_map]; omega) (fun h2 => SrtO.pairs_sortableO (s := { st with heap := hq, toks := tk }) (by omega) (fun x hx => let ⟨_, _, _, z⟩ := pall x hx; z) fun o e => ?_) fun out o1 o2 => ⟨_, rfl, ?_⟩) (PyProof.Rows.args_list_sort _)
  · have e2 := hol.symm.trans e
    cases e2
    intro c
    exact absurd (Value.type.inj c) (by decide)
  · have perm := o2.perm
    have um : ∀ x ∈ out, ∃ b, x = .ref b ∧ b ∈ as ∧ Srt.IsPair hq x (pk hq x).1 (pk hq x).2 := fun x hx => pall x (perm.mem_iff.mp hx)
    have isr : ∀ x ∈ out, ∃ a, x = Value.ref a := fun x hx => let ⟨b, e, _⟩ := um x hx; ⟨b, e⟩
    show EP X pins σ Q (.ref hp.objs.size) { st with heap := sortedHeap hq hp.objs.size (as.map Value.ref) out.toArray, toks := tk }
    have k1 : ∀ c o, c ≠ hp.objs.size → hq.get? c = some o → (sortedHeap hq hp.objs.size (as.map Value.ref) out.toArray).get? c = some o := fun c o hc e => (PyProof.Rows.sortedHeap_old hc (Heap.lt_size e)).trans e
    have k2 : ∀ c o, st.heap.get? c = some o → (sortedHeap hq hp.objs.size (as.map Value.ref) out.toArray).get? c = some o := fun c o e => k1 c o (far _ _ (keep c o e)) (k0 _ _ (keep c o e))
    obtain ⟨fin, atFin⟩ := PyProof.Rows.sortedHeap_at (vs := as.map Value.ref) (out := out.toArray) hol
    have free : H hp.objs.size = none := J.hok.fresh (Nat.le_of_lt big)
    have few : (out.map backV).length ≤ sizeLine := by rw [List.length_map, perm.length_eq, List.length_map]; omega
    have J2 := (J.kept (t' := tk) k2).take (H := H) (o := .lst (out.map backV)) (h' := sortedHeap hq hp.objs.size (as.map Value.ref) out.toArray) (t' := tk) (fun b ob _ e => e) (J.fpOk (Nat.le_of_lt big) free) ⟨few, out, fin, vals_back isr, atFin⟩
    obtain ⟨H2, J3, g, qt⟩ := L2.DX.takeT (P := fun b vs => ∃ p : Int × Int, Srt.IsPair hq (.ref b) p.1 p.2 ∧ vs = [.int p.1, .int p.2]) J as _ J2 once fun b hb => by
      obtain ⟨j, hj⟩ := List.mem_iff_getElem?.mp hb
      obtain ⟨p, t, u, y1, y2⟩ := pr j b hj
      have low : st.heap.objs.size ≤ b := Nat.le_of_lt (made.above b hb)
      refine ⟨low, ?_, [.int p.1, .int p.2], ⟨p, ⟨b, _, t, u, 0, rfl, k0 _ _ y2, rfl, rfl⟩, rfl⟩, fun H3 => ⟨Nat.le_trans (m := 1000) (Nat.le_of_ble_eq_true rfl) (by decide), [Value.int p.1 t, Value.int p.2 u], .cons ⟨t, rfl⟩ (.cons ⟨u, rfl⟩ .nil), ⟨_, k1 _ _ (far _ _ y2) (k0 _ _ y2), rfl, 0, rfl⟩⟩⟩
      rw [upd_ne (far _ _ y2)]
      exact J.hok.fresh low
    have gr : Same H H2 := fun b o e => g b o (by rw [upd_ne (ne_of_none e free)]; exact e)
    refine ⟨.ref hp.objs.size, H2, J3, rfl, k _ _ _ gr free (g _ _ upd_same) ?_⟩
    have ek : out.map (pk hq) = sortE es := by
      refine sortE_uniq ?_ ?_
      · rw [← keys]; exact perm.map _
      · rw [List.pairwise_map]
        refine o1.imp fun {a b} h => ?_
        unfold leB
        rw [show SrtO.lexB (pk hq b) (pk hq a) = false from h]
        rfl
    rw [← ek]
    refine prAll_back fun x hx => ?_
    obtain ⟨b, rfl, hb, y⟩ := um x hx
    obtain ⟨vs, ⟨p, z1, rfl⟩, z2⟩ := qt b hb
    rw [pk_is z1]
    exact ⟨b, rfl, z2⟩
end
end K
namespace K
open PySem PySem.Spec PyProof.Rows L2 G
variable {M : Md}
theorem e_items {c : Cd} {σ : L2.St} {H : Hp} {Q : VK} {o : Expr} {apos pos : Pos} (q : RE c o σ H fun x H1 => ∃ d kvs, x = .ref d ∧ H1 d = some (.dK kvs) ∧ ∀ v H2, Same H1 H2 → H1 v = none → H2 v = some (L2.DX.itemsO v d) → Q (.ref v) H2)
    (hbase : ∀ env, attributeBase o "items" env (eval o env) = eval o env := by intro _; rfl) (hline : (apos.endLine == pos.line) = true := by rfl) : RE c (.Call (.Attribute o "items" apos) [] [] pos) σ H Q := by
  refine e_bm0 PySem.F.plainAttrs_dict PySem.F.slot_dict_items PySem.F.type_dict_items (RE.mono (fun x H1 z => ?_) q) hbase hline
  obtain ⟨d, kvs, rfl, hd, k⟩ := z
  exact ⟨Or.inr (Or.inr (Or.inl ⟨rfl, Or.inl ⟨kvs, hd⟩⟩)), rm_of (fun X h => mt_itK) ⟨d, kvs, rfl, rfl, hd, fun v hv => k v _ (same_new hv) hv upd_same⟩⟩
theorem rc_soK {c : Cd} {H : Hp} {Q : VK} {v d : Addr} {es : List (Int × Int)} (hv : H v = some (L2.DX.itemsO v d)) (hd : H d = some (.dK (es.map kvE))) (q : ∀ l us H', Same H H' → H l = none → H' l = some (.lst us) → PrAll H' us (sortE es) → Q (.ref l) H') : RC c (.builtin "sorted") [.ref v] H Q :=
  rc_of (fun X h => cr_soK h.calm) ⟨v, d, es, rfl, hv, hd, q⟩
def valE (es : List (Int × Int)) (j : Int) : Option Int := (es.find? fun p => decide (p.1 = j)).map (·.2)
theorem valE_none {es : List (Int × Int)} {j : Int} (h : j ∉ es.map (·.1)) : valE es j = none := by
  unfold valE
  rw [List.find?_eq_none.mpr fun p hp => ?_]
  · rfl
  · rw [decide_eq_true_eq]
    intro e
    exact h (List.mem_map.mpr ⟨p, hp, e⟩)
theorem valE_mem {es : List (Int × Int)} {j v : Int} (h : valE es j = some v) : (j, v) ∈ es := by
  unfold valE at h
  obtain ⟨p, h1, rfl⟩ := Option.map_eq_some_iff.mp h
  have e := List.find?_some h1
  rw [decide_eq_true_eq] at e
  subst e
  exact List.mem_of_find?_eq_some h1
theorem valV_kvE (es : List (Int × Int)) (j : Int) : valV (es.map kvE) (Sum.inl j : Key) = (valE es j).map V.int := by
  induction es with
  | nil => rfl
  | cons p es ih =>
    rw [List.map_cons]
    by_cases e : p.1 = j
    · rw [valV_pos (p := kvE p) (show (Sum.inl p.1 : Key) = Sum.inl j by rw [e])]
      unfold valE
      rw [List.find?_cons, decide_eq_true e]
      rfl
    · rw [valV_neg (p := kvE p) (show ¬ (Sum.inl p.1 : Key) = Sum.inl j from fun z => e (Sum.inl.inj z)), ih]
      unfold valE
      rw [List.find?_cons, decide_eq_false e]
end K

namespace G
open PySem PySem.Spec PyProof.Rows L2
/-! ### calls with places and keywords -/
structure DcP (c : Md) (x : Str) (ps : List Str) (n : Nat) (ks : List Str) (gV : List V → List V → List V) (k : Nat) (sp : Sp) : Prop where
  ex : ∃ (f : Addr) (fd : FuncData) (g : List Value → List Value → List Value), FnG c.prog c.w c.K c.mg c.base noX k f fd ps sp ∧ c.mg x = some (.ref f) ∧ PySem.W.keepIn c.K (.ref f) = true ∧
    (∀ (s : Shared) (us ws : List Value), us.length = n → ws.length = ks.length → BindsTo s fd ⟨us, ks.zip ws⟩ (ps.zip (g us ws))) ∧
    ∀ (vs zs : List V) (us ws : List Value), Vals vs us → Vals zs ws → vs.length = n → zs.length = ks.length → Vals (gV vs zs) (g us ws)
section
variable {X : Cx} {k n : Nat} {f : Addr} {fd : FuncData} {ps ks : List Str} {sp : Sp} {x : Str} {p pos : Pos} {e : Expr} {es : List Expr} {kws : List Keyword} {t tk : TA} {g : List Value → List Value → List Value} {gV : List V → List V → List V}
theorem peG_kwP (F : FnG X.prog X.w X.K X.mg X.base noX k f fd ps sp) (room : Room k X.A) (gl : Gl X x) (hm : X.mg x = some (.ref f)) (kp : PySem.W.keepIn X.K (.ref f) = true)
    (bn : ∀ (s : Shared) (us ws : List Value), us.length = n → ws.length = ks.length → BindsTo s fd ⟨us, ks.zip ws⟩ (ps.zip (g us ws))) (rel : ∀ (vs zs : List V) (us ws : List Value), Vals vs us → Vals zs ws → vs.length = n → zs.length = ks.length → Vals (gV vs zs) (g us ws))
    (ha : PA X (e :: es) t) (hkw : PK X kws tk) (h1 : (backToKw pos (keywordEach kws X.env)).all (·.1.isSome) = true) (h2 : (backToKw pos (keywordEach kws X.env)).filterMap (·.1) = ks) (hdb : (x == ("__debug__" : Str)) = false)
    (h3 : ((backTo pos (starEach (e :: es) X.env)).any (·.1) || (backToKw pos (keywordEach kws X.env)).any (·.1.isNone)) = false) (h4 : starEach (e :: es) X.env = (false, eval e X.env) :: starEach es X.env) :
    PE X (.Call (.Name x p) (e :: es) kws pos) (fun σ H Q => t σ H fun vs H1 => tk σ H1 fun zs H2 => vs.length = n ∧ zs.length = ks.length ∧ sp (gV vs zs) H2 Q fun _ _ _ => False) := by
  constructor
  intro pins st σ H Q J z
  apply wpAny_Call_Name_kw
  apply ld_glob J gl hm _ hdb
  refine PySem.W.callWith_KW (h₀ := X.base) J.ok.mod.kin kp h1 ?_ h3 h4
  refine thn (ha.run pos pins st σ H _ J z) fun us s0 ⟨vs, H0, J0, rv, z0⟩ => ?_
  refine thn (hkw.run pos pins s0 σ H0 _ J0 z0) fun ws s1 ⟨zs, H1, J1, rz, lv, lz, q⟩ => ⟨J1.kIn, ?_⟩
  rw [h2]
  have r2 := rel vs zs us ws rv rz lv lz
  refine wpAny_call (codeAny_mono (F.run X.A X.stack s1 H1 ⟨us, ks.zip ws⟩ (g us ws) (gV vs zs) Q _ room J1.env0 (bn s1 us ws (rv.length.symm.trans lv) (rz.length.symm.trans lz)) r2 q) fun r s2 z => ?_)
  match r, z with
  | .ok (.ret u), z => exact J1.after z
end
section
variable {c : Cd} {σ : L2.St} {H : Hp} {Q : VK} {pos : Pos}
theorem k_nil {Q : List V → Hp → Prop} (q : Q [] H) : RPK c [] σ H Q := rk_of (fun _ _ => pk_nil) q
theorem k_cons {Q : List V → Hp → Prop} {nm : Option Str} {e : Expr} {kpos : Pos} {kws : List Keyword} (q : RE c e σ H fun x H1 => RPK c kws σ H1 fun xs H2 => Q (x :: xs) H2) : RPK c (⟨nm, e, kpos⟩ :: kws) σ H Q :=
  rk_of (fun X h => pk_cons (pe_re h) (pk_rk h)) q
theorem e_kwP {x : Str} {p : Pos} {e : Expr} {es : List Expr} {kws : List Keyword} {ps ks : List Str} {n : Nat} {gV : List V → List V → List V} {k : Nat} {sp : Sp} (D : DcP c.toMd x ps n ks gV k sp) (q : RA c (e :: es) σ H fun vs H0 => RPK c kws σ H0 fun zs H1 => vs.length = n ∧ zs.length = ks.length ∧ sp (gV vs zs) H1 Q fun _ _ _ => False)
    (hk : k ≤ c.k := by exact Nat.le_of_ble_eq_true rfl) (hg : c.sc.names.lookup x = some .globalImplicit := by rfl)
    (h1 : ∀ env, (backToKw pos (keywordEach kws env)).all (·.1.isSome) = true := by intro _; rfl) (h2 : ∀ env, (backToKw pos (keywordEach kws env)).filterMap (·.1) = ks := by intro _; rfl) (hdb : (x == ("__debug__" : Str)) = false := by decide)
    (h3 : ∀ env, ((backTo pos (starEach (e :: es) env)).any (·.1) || (backToKw pos (keywordEach kws env)).any (·.1.isNone)) = false := by intro _; rfl) (h4 : ∀ env, starEach (e :: es) env = (false, eval e env) :: starEach es env := by intro _; rfl) : RE c (.Call (.Name x p) (e :: es) kws pos) σ H Q := by
  obtain ⟨f, fd, g, F, hm, hkp, hb, hr⟩ := D.ex
  refine re_of (t := fun σ H Q => RA c (e :: es) σ H fun vs H0 => RPK c kws σ H0 fun zs H1 => vs.length = n ∧ zs.length = ks.length ∧ sp (gV vs zs) H1 Q fun _ _ _ => False) (fun X h => ?_) q
  refine peG_kwP (k := k) (n := n) (f := f) (fd := fd) (ps := ps) (ks := ks) (sp := sp) (g := g) (gV := gV) ?_ (h.room.mono hk) (gl_of h hg) (by rw [h.mg]; exact hm) (by rw [h.K]; exact hkp) hb hr (pa_ra h) (pk_rk h) (h1 _) (h2 _) hdb (h3 _) (h4 _)
  rw [h.prog, h.w, h.K, h.mg, h.base]; exact F
/-- k in d, a dict with ints and texts for keys -/
theorem op_inK {X : Cx} (hu : X.A.units + 1 < cLine) : OpR X (compareOp .In) (fun x y H Q => ∃ (a : Addr) (k : Key) (kvs : List (Key × V)), x = kV k ∧ y = .ref a ∧ H a = some (.dK kvs) ∧ Q (.bl (valV kvs k).isSome) H) := by
  rintro pins s σ H x y v u Q I rx ry ⟨a, k, kvs, rfl, rfl, hd, q⟩
  cases ry
  exact d_in hu I (DGet.k (k := k) hd) rx fun s' I' => ⟨.bl _, H, I', rfl, q⟩
theorem ro_inK {a : Addr} {k : Key} {kvs : List (Key × V)} {x : V} (hx : x = kV k) (hd : H a = some (.dK kvs)) (q : Q (.bl (valV kvs k).isSome) H) : RQ c .In x (.ref a) H Q :=
  rq_of (fun X h => op_inK (by have := h.room.un; omega)) ⟨a, k, kvs, hx, rfl, hd, q⟩
end
end G
namespace K
open PySem PySem.Spec PyProof.Rows L2 G
variable {M : Md}
def rIndex2 : List PyData → PyData → Prop := fun ds d => ∃ (rs : List Row) (s : Str) (o : Option Int) (j : Int), ds = [cellsD rs, .str s, optD o] ∧ fIdx rs s o 0 = some j ∧ d = .int j
theorem ok_index2 {f fd} (F : Fun M.K "cell_index" "cell_index" s_cell_index f fd) (b : Bl M) (df : Dc M "found_index" ["cells", "name", "key"] 2 (spF rFound M.K)) : FnG M.prog M.w M.K M.mg M.base CX0 3 f fd ["cells", "name", "key"] (spF rIndex2 M.K) := by
  refine fn_ok F sc_cell_index (fun vs H Q E h => ?_) (fun H vs Q E h => ?_)
  · obtain ⟨ds, d, h, ⟨rs, s, o, j, rfl, _⟩, _⟩ := h
    exact h.len
  obtain ⟨ds, d, h, ⟨rs, s, o, j, rfl, hj, rfl⟩, k⟩ := h
  obtain _ | ⟨hc, h⟩ := h
  obtain _ | ⟨hs, h⟩ := h
  obtain _ | ⟨hn, h⟩ := h
  cases h
  cases hs
  tm_at "go"
  refine e_callF df ?_
  tm_at "go"
  refine ⟨_, _, .cons hc (.cons (.str _) (.cons hn .nil)), ⟨rs, s, o, rfl, rfl⟩, fun v H1 s1 hv => ?_⟩
  rw [hj] at hv
  cases hv
  tm_at "go"
  exact k _ _ s1 (.int _)
def Tg.nm1 : Tg → Str
  | .nm s => s
  | .at t _ => t
theorem firsts_all {l : List Int} (h : l.Nodup) : (firsts l).length = l.length :=
  ((List.perm_ext_iff_of_nodup (firsts_nodup l) h).mpr fun _ => firsts_mem).length_eq
theorem kvE_has (es : List (Int × Int)) (j : Int) : (valV (es.map kvE) (Sum.inl j : Key)).isSome = decide (j ∈ es.map (·.1)) := by
  rw [valV_kvE, Option.isSome_map]
  by_cases h : j ∈ es.map (·.1)
  · rw [decide_eq_true h]
    cases e : valE es j with
    | some v => rfl
    | none =>
      obtain ⟨p, hp, e2⟩ := List.mem_map.mp h
      unfold valE at e
      rw [Option.map_eq_none_iff] at e
      exact absurd (decide_eq_true e2) (List.find?_eq_none.mp e p hp)
  · rw [decide_eq_false h, valE_none h]
    rfl
theorem asg_bad {rs : List Row} {st : St1} {r : Rl} (h : ∀ es, (work rs st r).1 = some es → ¬ (es.map (·.1)).Nodup ∨ ¬ es.all (inR rs) = true) : asg rs st r = none := by
  unfold asg
  cases e : (work rs st r).1 with
  | none => rfl
  | some es =>
    show (if _ then _ else _) = _
    by_cases h1 : (firsts (es.map (·.1))).length < es.length
    · rw [if_pos h1]
    · rw [if_neg h1]
      rcases h es e with h2 | h2
      · exact absurd (firsts_nd (by rw [List.length_map]; omega)) h2
      · rw [if_neg h2]
def rExp : List PyData → PyData → Prop := fun ds d => ∃ (rs : List Row) (st : St1) (r : Rl), ds = [cellsD rs, r.d, stD st] ∧ StOk rs st ∧ FitR rs r ∧ r.guard.dep ≤ 2 ∧ d = asgD (asg rs st r)
abbrev dcV3 (M : Md) : Prop := Dc M "value_in" ["cells", "state", "expression"] 11 (spF (rVal 3) M.K)
def key2 (vs zs : List V) : List V := vs ++ zs
set_option maxHeartbeats 4000000 in
theorem ok_expected {f fd} (F : Fun M.K "_law_expected" "_law_expected" s__law_expected f fd) (b : Bl M) (dv : dcV3 M) (dx : DcP M "cell_index" ["cells", "name", "key"] 2 ["key"] key2 3 (spF rIndex2 M.K)) (dr : dcRng M) : FnG M.prog M.w M.K M.mg M.base CX0 12 f fd ["_law_rows_here", "_law_rule_here", "_law_state"] (spF rExp M.K) := by
  refine fn_ok F sc__law_expected (fun vs H Q E h => ?_) (fun H vs Q E h => ?_)
  · obtain ⟨ds, d, h, ⟨rs, st, r, rfl, _⟩, _⟩ := h
    exact h.len
  obtain ⟨_, d, h, ⟨rs, st, r, rfl, S, R, g2d, rfl⟩, k⟩ := h
  obtain _ | ⟨hc, h⟩ := h
  obtain _ | ⟨hr, h⟩ := h
  obtain _ | ⟨hst, h⟩ := h
  cases h
  rename_i vc vr vst
  have hrd : Dt M.K H vr (.tuple [.str r.name, r.guard.d, .tuple (r.as.map asD)]) := hr
  have hlen := R.len
  have none_ : ∀ H', Same H H' → asg rs st r = none → Q .non H' := fun H' s e => k _ _ s (by rw [e]; exact .non)
  tm_at "go"
  refine e_callF dv ?_
  tm_at "go"
  refine rx_tup hrd (d := r.guard.d) rfl fun vg hg => ?_
  tm_at "go"
  refine ⟨_, _, .cons hc (.cons hst (.cons hg .nil)), ⟨rs, st, r.guard, rfl, ⟨S, R.guard.1, Nat.le_trans g2d (by decide), by decide⟩, rfl⟩, fun vg2 H1 s1 hg2 => ?_⟩
  refine e_dnew fun p hp => ?_
  have n1 : H p = none := same_none s1 hp
  have s2 : Same H (upd H1 p (.dK [])) := same_mut s1 n1
  have g2 : (upd H1 p (.dK [])) p = some (.dK []) := upd_same
  have t12 : Tp H1 (upd H1 p (.dK [])) := tp_same (same_new hp)
  generalize upd H1 p (.dK []) = H2 at *
  have hg3 := hg2.mono t12
  show RB _ _ _ _ _
  rcases optN hg3 with ⟨eo, rfl⟩ | ⟨g, eo, rfl⟩
  · tm_at "go"
    refine none_ _ s2 (asg_bad fun es e => ?_)
    rw [work, eo] at e
    cases e
  tm_at "go"
  refine ifd (fun c1 => ?_) (fun c1 => ?_)
  · tm_at "go"
    refine none_ _ s2 (asg_bad fun es e => ?_)
    rw [work, eo] at e
    change (if g = 0 then _ else _ : Ents).1 = some es at e
    rw [if_pos c1] at e
    cases e
  have hwork : (work rs st r).1 = (wo rs st r.as).1 := by
    rw [work, eo]
    show (if g = 0 then _ else _ : Ents).1 = _
    rw [if_neg c1]
  tm_at "go"
  refine s_forT ?_
  tm_at "go"
  refine rx_tup (hrd.mono (tp_same s2)) (d := .tuple (r.as.map asD)) rfl fun va ha => ?_
  obtain ⟨a, xs, rfl, hxs, hns⟩ := ha.tupE
  have hle := hns.len
  rw [List.length_map] at hle
  refine ⟨a, xs, rfl, hxs, fun i σ1 H' => ∃ (es : List (Int × Int)) (v5 v6 v7 v8 v9 v10 v11 : Option V), σ1 = [some vc, some vr, some vst, some (.int g), some (.ref p), v5, v6, v7, v8, v9, v10, v11] ∧ Same H H' ∧ Tp H2 H' ∧ H' p = some (.dK (es.map kvE)) ∧ (es.map (·.1)).Nodup ∧ es.all (inR rs) = true ∧
    (work rs st r).1 = (wo rs st (r.as.drop i)).1.map (es ++ ·) ∧ es.length ≤ i, ⟨[], _, _, _, _, _, _, _, rfl, s2, Tp.refl _, g2, List.nodup_nil, rfl, by rw [hwork]; simp, Nat.le_refl _⟩, ?_, ?_, ?_⟩
  · rintro i σ' H' _ ⟨es, v5, v6, v7, v8, v9, v10, v11, rfl, s, t, _⟩
    exact t.sqt hxs
  · rintro i x σ' H4 hx ⟨es, v5, v6, v7, v8, v9, v10, v11, rfl, s4, t4, g4, nd4, all4, hw, les⟩
    obtain ⟨d, hd, hx'⟩ := hns.getV hx
    rw [List.getElem?_map] at hd
    obtain ⟨p', hp', rfl⟩ := Option.map_eq_some_iff.mp hd
    have hpin := R.as p' (List.mem_of_getElem? hp')
    have ed : r.as.drop i = p' :: r.as.drop (i + 1) := by
      obtain ⟨h1, h2⟩ := List.getElem?_eq_some_iff.mp hp'
      rw [← h2]; exact List.drop_eq_getElem_cons h1
    have hi10 : i < 10 := by
      have := (List.getElem?_eq_some_iff.mp hx).1
      omega
    rw [ed] at hw
    obtain ⟨tg, ex⟩ := p'
    have bad1 : (tgt rs st tg).1 = none → asg rs st r = none := fun e => asg_bad fun es' e' => by
      rw [hw, wo_j (p := (tg, ex)) e] at e'
      cases e'
    refine g_unp2 (by tm_at "at") (by tm_at "at") (hx'.mono t4) fun vt vp ht hpd => ?_
    tm_at "go"
    refine e_callF dv ?_
    tm_at "go"
    refine ⟨_, _, .cons (hc.mono (tp_same s4)) (.cons (hst.mono (tp_same s4)) (.cons hpd .nil)), ⟨rs, st, ex, rfl, ⟨S, hpin.2.1, Nat.le_trans hpin.2.2 (by decide), by decide⟩, rfl⟩, fun vv H5 s5 hvv => ?_⟩
    have s45 := s4.trans s5
    have g5 := s5 _ _ g4
    show RB _ _ _ _ _
    refine b_cut (fun σ1 H' => ∃ (w : Option Int) (vw : V) (j : Int), σ1 = [some vc, some vr, some vst, some (.int g), some (.ref p), some vt, some vp, some vw, some vv, v9, v10, v11] ∧ Same H5 H' ∧ Dt M.K H' vw (optD w) ∧ (w = none ↔ tg = .nm tg.nm1) ∧ fIdx rs tg.nm1 w 0 = some j ∧ (tgt rs st tg).1 = some j) ?_ ?_
    · tm_at "go"
      refine t_val ?_
      tm_at "go"
      refine e_bltn (v := .ty "tuple") (u := .type "tuple") b.tuple (by decide +kernel) rfl ?_
      tm_at "go"
      cases tg with
      | nm s =>
        cases ht
        refine rc_isi (.base (.str s)) rfl ?_
        refine ⟨false, rfl, iff0 ?_⟩
        obtain ⟨h1, _⟩ := ix_ok S.nd hpin.1
        tm_at "go"
        exact ⟨none, _, _, rfl, Same.refl _, .non, ⟨fun _ => rfl, fun _ => rfl⟩, h1, h1⟩
      | «at» t e =>
        have ht5 : Dt M.K H5 vt (.tuple [.str t, e.d]) := ht.mono (tp_same s5)
        obtain ⟨at1, xt1, rfl, hte, _⟩ := ht5.tupE
        refine rc_isi (ty_tup hte) rfl ?_
        refine ⟨true, rfl, ift ?_⟩
        tm_at "go"
        refine e_callF dv ?_
        tm_at "go"
        refine rx_tup ht5 (d := e.d) rfl fun ve he => ?_
        tm_at "go"
        refine ⟨_, _, .cons (hc.mono (tp_same s45)) (.cons (hst.mono (tp_same s45)) (.cons he .nil)), ⟨rs, st, e, rfl, ⟨S, hpin.1.2.1, Nat.le_trans hpin.1.2.2 (by decide), by decide⟩, rfl⟩, fun vw H6 s6 hvw => ?_⟩
        have ht6 := ht5.mono (tp_same s6)
        have s46 := s45.trans s6
        show RB _ _ _ _ _
        refine b_cons (s_if (t_cmp ?_))
        refine e_callF dv ?_
        tm_at "go"
        refine e_tupD ?_
        tm_at "go"
        refine rx_tup ht6 (d := e.d) rfl fun ve2 he2 => ?_
        tm_at "go"
        refine tupend (ds := [.str "at", .str t, e.d]) (.cons (.str _) (.cons (.str _) (.cons he2 .nil))) (Nat.le_of_ble_eq_true rfl) fun vq H7 s7 hq => ?_
        tm_at "go"
        have s47 := s46.trans s7
        have fat : Fit rs (.at t e) := ⟨hpin.1.1, hpin.1.2.1⟩
        refine ⟨_, _, .cons (hc.mono (tp_same s47)) (.cons (hst.mono (tp_same s47)) (.cons hq .nil)), ⟨rs, st, .at t e, rfl, ⟨S, fat, (show e.dep + 1 ≤ 3 from Nat.succ_le_succ hpin.1.2.2), by decide⟩, rfl⟩, fun vz H8 s8 hz => ?_⟩
        tm_at "go"
        rcases optN hz with ⟨e1, rfl⟩ | ⟨z, e1, rfl⟩
        · refine ifT rfl ?_
          tm_at "go"
          refine none_ _ (s47.trans s8) (bad1 ?_)
          rw [ev] at e1
          show (keyed rs t (ev rs st e)).1 = none
          cases e2 : (keyed rs t (ev rs st e)).1 with
          | none => rfl
          | some j => rw [thn1_val e2] at e1; cases e1
        · refine ifF (fun e => nomatch e) ?_
          rw [ev] at e1
          obtain ⟨j, e2, _⟩ := thn1_some e1
          have e3 := e2
          unfold keyed at e3
          rcases optN hvw with ⟨eo3, rfl⟩ | ⟨w, eo3, rfl⟩
          · rw [eo3] at e3
            cases e3
          · rw [eo3] at e3
            tm_at "go"
            exact ⟨some w, _, j, rfl, s6.trans (s7.trans s8), .int _, ⟨(fun h => nomatch h), (fun h => nomatch h)⟩, e3, e2⟩
    rintro _ H6 ⟨w, vw, j, rfl, s6, hvw, hwn, hfx, htj⟩
    have s46 := s45.trans s6
    have ht6 := ht.mono (tp_same (s5.trans s6))
    have g6 := s6 _ _ g5
    obtain ⟨j0, j1⟩ := tgt_in htj
    obtain ⟨rr, hrr, hat, hin⟩ := rg_get (p := (j, 0)) j0 j1
    refine b_cons (s_set (by tm_at "at") (e_kwP dx ?_))
    refine a_cons (e_var (by tm_at "at") (a_cons ?_))
    refine RE.mono (Q := fun y H' => y = .str tg.nm1 ∧ H' = H6) ?_ ?_
    rotate_left
    · refine e_if ?_
      tm_at "go"
      cases tg with
      | nm s =>
        obtain rfl := hwn.mpr rfl
        cases hvw
        refine ifT rfl ?_
        cases ht6
        tm_at "go"
        exact ⟨rfl, rfl⟩
      | «at» t e =>
        have ht7 : Dt M.K H6 vt (.tuple [.str t, e.d]) := ht6
        cases w with
        | none => exact absurd (hwn.mp rfl) (fun h => nomatch h)
        | some w =>
          cases hvw
          refine ifF (fun e => nomatch e) ?_
          tm_at "go"
          exact ⟨rfl, rfl⟩
    rintro y H' ⟨rfl, e5⟩
    have e5 := e5.symm
    subst e5
    refine a_nil (k_cons (e_var (by tm_at "at") (k_nil ⟨rfl, rfl, _, _, .cons (hc.mono (tp_same s46)) (.cons (.str _) (.cons hvw .nil)), ⟨rs, tg.nm1, w, j, rfl, hfx, rfl⟩, fun vj H7 s7 hj => ?_⟩)))
    cases hj
    have s47 := s46.trans s7
    show RB _ _ _ _ _
    refine b_cons (s_asg (e_ix (e_callF dr ?_)))
    tm_at "go"
    refine ⟨_, _, .cons (hc.mono (tp_same s47)) .nil, ⟨rs, rfl, Nat.le_trans S.tot (by decide), rfl⟩, fun v9' H8 s8 h8 => ?_⟩
    tm_at "go"
    refine rx_tup h8 hat fun vr9 hvr9 => ?_
    refine g_unp2 (by tm_at "at") (by tm_at "at") hvr9 fun v1 v2 h1 h2 => ?_
    cases h1
    cases h2
    have s48 := s47.trans s8
    have g8 := (s7.trans s8) _ _ g6
    have hvv8 := hvv.mono (tp_same (s6.trans (s7.trans s8)))
    have inq : ∀ v : Int, inR rs (j, v) = (decide (rr.1 ≤ v) && decide (v ≤ rr.2)) := fun v => by
      unfold inR
      rw [hrr]
    rcases optN hvv8 with ⟨eo2, rfl⟩ | ⟨v, eo2, rfl⟩
    · tm_at "go"
      refine none_ _ s48 (asg_bad fun es' e' => ?_)
      rw [hw, wo_v (p := (tg, ex)) htj eo2] at e'
      cases e'
    have hws : ∀ es', (work rs st r).1 = some es' → ∃ tl, es' = es ++ (j, v) :: tl := fun es' e' => by
      rw [hw, wo_s (p := (tg, ex)) htj eo2] at e'
      obtain ⟨q1, e6, rfl⟩ := Option.map_eq_some_iff.mp e'
      obtain ⟨q2, e7, rfl⟩ := Option.map_eq_some_iff.mp e6
      exact ⟨q2, rfl⟩
    have out : inR rs (j, v) = false → asg rs st r = none := fun h => asg_bad fun es' e' => by
      obtain ⟨tl, rfl⟩ := hws es' e'
      refine .inr fun h2 => ?_
      have := List.all_eq_true.mp h2 (j, v) (List.mem_append_right _ (List.mem_cons_self ..))
      rw [h] at this
      cases this
    have dup : j ∈ es.map (·.1) → asg rs st r = none := fun h => asg_bad fun es' e' => by
      obtain ⟨tl, rfl⟩ := hws es' e'
      refine .inl fun h2 => ?_
      rw [List.map_append, List.nodup_append] at h2
      exact h2.2.2 j h j (List.mem_cons_self ..) rfl
    tm_at "go"
    refine ifd (fun c2 => ?_) (fun c2 => ?_)
    rotate_left
    · tm_at "go"
      exact none_ _ s48 (out (by rw [inq, decide_eq_false c2]; rfl))
    tm_at "go"
    refine ifnd (fun c3 => ?_) (fun c3 => ?_)
    · tm_at "go"
      exact none_ _ s48 (out (by rw [inq, decide_eq_false c3, Bool.and_false]))
    tm_at "go"
    refine ro_inK (k := Sum.inl j) rfl g8 ?_
    rw [kvE_has]
    refine ⟨_, rfl, ifd (fun c4 => ?_) (fun c4 => ?_)⟩
    · tm_at "go"
      exact none_ _ s48 (dup c4)
    tm_at "go"
    refine s_dput ?_
    tm_at "go"
    have ku := kp_fd (o' := .dK ((es ++ [(j, v)]).map kvE)) g8
    refine ⟨p, _, rfl, DPut.k (k := Sum.inl j) g8 (by rw [List.length_map]; exact Nat.lt_of_le_of_lt (show es.length ≤ 10 by omega) (by decide)), ?_⟩
    have nk : (Sum.inl j : Key) ∉ (es.map kvE).map (·.1) := by
      intro h
      rw [List.map_map] at h
      obtain ⟨q, hq, e⟩ := List.mem_map.mp h
      exact c4 (List.mem_map.mpr ⟨q, hq, Sum.inl.inj e⟩)
    rw [putK_new nk, show es.map kvE ++ [(Sum.inl j, V.int v)] = (es ++ [(j, v)]).map kvE by rw [List.map_append]; rfl]
    refine ⟨es ++ [(j, v)], _, _, _, _, _, _, _, rfl, same_mut s48 n1, t4.trans ((tp_same (s5.trans (s6.trans (s7.trans s8)))).trans ku.t), upd_same, ?_, ?_, ?_, ?_⟩
    · rw [List.map_append, List.nodup_append]
      refine ⟨nd4, by simp, ?_⟩
      intro x hx y hy
      rw [List.mem_singleton.mp hy]
      rintro rfl
      exact c4 hx
    · rw [List.all_append, all4, List.all_cons, List.all_nil, inq, decide_eq_true c2, decide_eq_true c3]
      rfl
    · rw [hw, wo_s (p := (tg, ex)) htj eo2]
      simp [Function.comp_def]
    · rw [List.length_append]; exact Nat.succ_le_succ les
  · rintro σ' H4 ⟨es, v5, v6, v7, v8, v9, v10, v11, rfl, s4, t4, g4, nd4, all4, hw, les⟩
    rw [List.drop_eq_nil_of_le (by omega), wo] at hw
    have hw' : (work rs st r).1 = some es := by rw [hw]; simp
    have hasg : asg rs st r = some (sortE es) := by
      unfold asg
      rw [hw']
      show (if _ then _ else _) = _
      have := firsts_all nd4
      rw [List.length_map] at this
      rw [if_neg (by omega), if_pos all4]
    tm_at "go"
    refine e_items ?_
    tm_at "go"
    refine ⟨p, _, rfl, g4, fun v H5 s5 n5 g5 => ?_⟩
    tm_at "go"
    refine rc_soK g5 (s5 _ _ g4) fun l us H6 s6 n6 g6 h6 => ?_
    tm_at "go"
    refine rc_tupL (.of g6) h6.dt fun v7 H7 s7 h7 => ?_
    exact k _ _ (s4.trans (s5.trans (s6.trans s7))) (by rw [hasg]; exact h7)
end K

namespace G
open PySem PySem.Spec PyProof.Rows L2
/-- a, b = x, y where a is a cell: the stores stand as they are written -/
theorem sw2c {x y : Str} {px py pt : Pos} {kt k2 pt2} {a b : Expr} {env : Env} (hx : env.scope.names.lookup x = some .cell) : swappedStores [.Tuple [.Name x px, .Name y py] kt pt] (.Tuple [a, b] k2 pt2) env = pure none := by
  have kx : env.kindOf x = some .cell := hx
  unfold swappedStores
  simp only [List.filterMap_cons, List.filterMap_nil, kx]
  repeat (first | rfl | split)
  all_goals (rename_i h; exact absurd h (by simp_all))
theorem s_asgC {c : Cd} {σ : L2.St} {H : Hp} {D : Ends} {pos : Pos} {tg e : Expr} (hw : ∀ env : Env, env.scope = c.sc → swappedStores [tg] e env = pure none) (q : RE c e σ H fun x H1 => RG c tg x σ H1 D.nx) (hs : ∀ env, swapsWithSole [tg] e pos.line env = pure false := by intro _; rfl)
    (h1 : ∀ env, (assignEach [tg] env).map (·.2) = [assign tg env] := by intro _; rfl) : RS c (.Assign [tg] e pos) D σ H := rs_of (fun X h => ps_asg (pe_re h) (pg_rg h) (hs _) (hw _ h.sc) (h1 _)) q
end G
namespace K
open PySem PySem.Spec PyProof.Rows L2 G
variable {M : Md}
/-! ### lists of looks -/
theorem ro_notInDL {c : Cd} {H : Hp} {Q : VK} {x : V} {d : PyData} {l : Addr} {us : List V} {ds : List PyData} {n : Nat} (hx : Dt c.K H x d) (hl : H l = some (.lst us)) (hd : DtAll c.K H us ds) (s1 : Shp n d) (s2 : ∀ e ∈ ds, Shp n e) (hn : n + 1 ≤ 64) (q : Q (.bl (!ds.any fun z => PyData.eqv z d)) H) : RQ c .NotIn x (.ref l) H Q :=
  rq_of (r := rNotInD c.K) (fun X h => by rw [← h.K]; exact op_notInD (by have := h.room.un; omega)) ⟨d, ds, hx.dp, .lst (.of hl) hd.dp, s1.ok (by omega), (shp_lst s2).ok hn, q⟩
theorem lookShp (st : St1) (j : Int) : Shp 2 (lookD st j) := by
  refine shp_tup fun d hd => ?_
  rcases List.mem_cons.mp hd with rfl | hd
  · exact shp_int _
  · rw [List.mem_singleton.mp hd]
    exact shp_int _
theorem look_eqv {st : St1} {i j : Int} : PyData.eqv (lookD st i) (lookD st j) = decide (i = j) := by
  by_cases h : i = j
  · subst h
    rw [decide_eq_true rfl]
    exact PySem.SeqAt.eqv_refl _ (lookShp st i).lay
  · rw [decide_eq_false h]
    unfold lookD
    simp [PyData.eqv, PyData.eqvAll, h]
theorem looks_any {st : St1} {j : Int} (ks : List Int) : ((ks.map (lookD st)).any fun z => PyData.eqv z (lookD st j)) = decide (j ∈ ks) := by
  rw [Bool.eq_iff_iff, List.any_eq_true, decide_eq_true_iff]
  constructor
  · rintro ⟨z, hz, h⟩
    obtain ⟨i, hi, rfl⟩ := List.mem_map.mp hz
    rw [look_eqv, decide_eq_true_iff] at h
    rw [← h]; exact hi
  · intro h
    exact ⟨_, List.mem_map.mpr ⟨j, h, rfl⟩, by rw [look_eqv, decide_eq_true rfl]⟩
theorem firsts_app (l m : List Int) : firsts (l ++ m) = firsts l ++ (firsts m).filter fun j => decide (j ∉ firsts l) := by
  have step : ∀ (m seen more : List Int), m.foldl (fun seen j => if j ∈ seen then seen else seen ++ [j]) (seen ++ more.filter fun j => decide (j ∉ seen)) = seen ++ (m.foldl (fun seen j => if j ∈ seen then seen else seen ++ [j]) more).filter fun j => decide (j ∉ seen) := by
    intro m
    induction m with
    | nil => intro seen more; rfl
    | cons x m ih =>
      intro seen more
      rw [List.foldl_cons, List.foldl_cons]
      by_cases h1 : x ∈ seen
      · rw [if_pos (List.mem_append_left _ h1)]
        by_cases h2 : x ∈ more
        · rw [if_pos h2]; exact ih seen more
        · rw [if_neg h2, ← ih seen (more ++ [x]), List.filter_append]
          congr 2
          rw [List.filter_cons, if_neg (by simp [h1])]
          simp
      · by_cases h2 : x ∈ more
        · rw [if_pos (List.mem_append_right _ (List.mem_filter.mpr ⟨h2, decide_eq_true h1⟩)), if_pos h2]
          exact ih seen more
        · rw [if_neg, if_neg h2, ← ih seen (more ++ [x]), List.filter_append]
          · congr 1
            rw [List.append_assoc]
            congr 2
            rw [List.filter_cons, if_pos (decide_eq_true h1)]
            rfl
          · intro h3
            rcases List.mem_append.mp h3 with h3 | h3
            · exact h1 h3
            · exact h2 (List.mem_filter.mp h3).1
  have h := step m (firsts l) []
  rw [List.filter_nil, List.append_nil] at h
  rw [firsts, List.foldl_append]
  exact h
abbrev Pt := Ex × Option Str
def ptD (p : Pt) : PyData := .tuple [p.1.d, .str (p.2.getD "")]
def ptsOf : List (Tg × Ex) → List Pt
  | [] => []
  | (.nm _, e) :: as => (e, none) :: ptsOf as
  | (.at t k, e) :: as => (k, some t) :: (e, none) :: ptsOf as
def ptV (rs : List Row) (st : St1) (p : Pt) : Option Int := match p.2 with
  | none => (ev rs st p.1).1
  | some t => (keyed rs t (ev rs st p.1)).1
def plk (rs : List Row) (st : St1) : List Pt → List Int
  | [] => []
  | p :: ps => (ev rs st p.1).2 ++ if (ptV rs st p).isSome = true then plk rs st ps else []
theorem plk_wo {rs : List Row} {st : St1} (nd : (rs.map nameOf).Nodup) : ∀ as : List (Tg × Ex), (∀ p ∈ as, FitT rs p.1) → plk rs st (ptsOf as) = (wo rs st as).2
  | [], _ => rfl
  | (.nm s, e) :: as, hf => by
    have ih := plk_wo (st := st) nd as fun q hq => hf q (List.mem_cons_of_mem _ hq)
    unfold ptsOf plk ptV
    cases h1 : (tgt rs st (.nm s)).1 with
    | none =>
      obtain ⟨h2, _⟩ := ix_ok nd (hf _ (List.mem_cons_self ..))
      rw [show (tgt rs st (.nm s)).1 = fIdx rs s none 0 from rfl, h2] at h1
      cases h1
    | some j =>
      cases h2 : (ev rs st e).1 with
      | none => rw [wo_v (p := (Tg.nm s, e)) h1 h2]; simp [tgt]
      | some v => rw [wo_s (p := (Tg.nm s, e)) h1 h2, ih]; simp [tgt]
  | (.at t k, e) :: as, hf => by
    have ih := plk_wo (st := st) nd as fun q hq => hf q (List.mem_cons_of_mem _ hq)
    unfold ptsOf plk plk ptV
    have h0 : (tgt rs st (.at t k)).2 = (ev rs st k).2 := keyed_snd _ _ _
    cases h1 : (tgt rs st (.at t k)).1 with
    | none =>
      rw [wo_j (p := (Tg.at t k, e)) h1, h0]
      have h3 : (keyed rs t (ev rs st k)).1 = none := h1
      simp [h3]
    | some j =>
      have h3 : (keyed rs t (ev rs st k)).1 = some j := h1
      cases h2 : (ev rs st e).1 with
      | none => rw [wo_v (p := (Tg.at t k, e)) h1 h2, h0]; simp [h3, h2]
      | some v => rw [wo_s (p := (Tg.at t k, e)) h1 h2, h0, ih]; simp [h3, h2]
theorem ptsOf_app : ∀ l m : List (Tg × Ex), ptsOf (l ++ m) = ptsOf l ++ ptsOf m
  | [], m => rfl
  | (.nm s, e) :: l, m => by rw [List.cons_append, ptsOf, ptsOf, ptsOf_app l m]; rfl
  | (.at t k, e) :: l, m => by rw [List.cons_append, ptsOf, ptsOf, ptsOf_app l m]; rfl
theorem ptsOf_len : ∀ l : List (Tg × Ex), (ptsOf l).length ≤ 2 * l.length
  | [] => Nat.le_refl _
  | (.nm s, e) :: l => by have := ptsOf_len l; rw [ptsOf, List.length_cons, List.length_cons]; omega
  | (.at t k, e) :: l => by have := ptsOf_len l; rw [ptsOf, List.length_cons, List.length_cons, List.length_cons]; omega
theorem ptsOf_fit {rs : List Row} : ∀ {l : List (Tg × Ex)}, (∀ p ∈ l, FitT rs p.1 ∧ Fit rs p.2 ∧ p.2.dep ≤ 2) → ∀ q ∈ ptsOf l, (Fit rs q.1 ∧ q.1.dep ≤ 2) ∧ ∀ t, q.2 = some t → ∃ r ∈ rs, r.1 = t ∧ 0 < r.2.1
  | [], _, q, h => nomatch h
  | (.nm s, e) :: l, hf, q, h => by
    obtain ⟨_, h2⟩ := hf _ (List.mem_cons_self ..)
    rcases List.mem_cons.mp h with rfl | h
    · exact ⟨h2, (fun _ h => nomatch h)⟩
    · exact ptsOf_fit (fun p hp => hf p (List.mem_cons_of_mem _ hp)) q h
  | (.at t k, e) :: l, hf, q, h => by
    obtain ⟨h1, h2⟩ := hf _ (List.mem_cons_self ..)
    rcases List.mem_cons.mp h with rfl | h
    · exact ⟨h1.2, fun t' h => by cases h; exact h1.1⟩
    rcases List.mem_cons.mp h with rfl | h
    · exact ⟨h2, (fun _ h => nomatch h)⟩
    · exact ptsOf_fit (fun p hp => hf p (List.mem_cons_of_mem _ hp)) q h
def gNew (L : List Int) : PyData → Option PyData
  | .tuple (.int j :: tl) => if j ∈ L then none else some (.tuple (.int j :: tl))
  | _ => none
theorem gNew_one (L : List Int) (st : St1) (j : Int) : gNew L (lookD st j) = if j ∈ L then none else some (lookD st j) := rfl
theorem gNew_all (L : List Int) (st : St1) (m : List Int) : (m.map (lookD st)).filterMap (gNew L) = (m.filter fun j => decide (j ∉ L)).map (lookD st) := by
  induction m with
  | nil => rfl
  | cons j m ih =>
    rw [List.map_cons, List.filterMap_cons, gNew_one, List.filter_cons]
    by_cases h : j ∈ L
    · rw [if_pos h, if_neg (by simp [h])]; exact ih
    · rw [if_neg h, if_pos (decide_eq_true h), List.map_cons, ← ih]
def rEl : List PyData → PyData → Prop := fun ds d => ∃ (rs : List Row) (st : St1) (r : Rl), ds = [cellsD rs, r.d, stD st] ∧ StOk rs st ∧ FitR rs r ∧ (∀ q ∈ rs, q.1 ≠ "") ∧ r.guard.dep ≤ 2 ∧ d = looksD st (work rs st r).2
abbrev dcL3 (M : Md) : Prop := Dc M "looked_at" ["cells", "state", "expression"] 11 (spZ (rLooked 3) M.K)
set_option maxHeartbeats 4000000 in
theorem ok_elooks {f fd} (F : Fun M.K "_law_expected_looks" "_law_expected_looks" s__law_expected_looks f fd) (b : Bl M) (dv : dcV3 M) (dl : dcL3 M) : FnG M.prog M.w M.K M.mg M.base CX0 12 f fd ["_law_rows_here", "_law_rule_here", "_law_state"] (spF rEl M.K) := by
  refine fn_ok F sc__law_expected_looks (fun vs H Q E h => ?_) (fun H vs Q E h => ?_)
  · obtain ⟨ds, d, h, ⟨rs, st, r, rfl, _⟩, _⟩ := h
    exact h.len
  obtain ⟨_, d, h, ⟨rs, st, r, rfl, S, R, ne, g2d, rfl⟩, k⟩ := h
  obtain _ | ⟨hc, h⟩ := h
  obtain _ | ⟨hr, h⟩ := h
  obtain _ | ⟨hst, h⟩ := h
  cases h
  rename_i vc vr vst
  have hrd : Dt M.K H vr (.tuple [.str r.name, r.guard.d, .tuple (r.as.map asD)]) := hr
  have hlen := R.len
  have lg := lenLooks (rs := rs) (st := st) (e := r.guard) (n := 2) g2d (by decide)
  rw [List.length_map] at lg
  refine b_cons (s_asgC (fun env he => sw2c (by rw [he]; rfl)) ?_)
  refine e_tup ?_
  refine a_cons ?_
  tm_at "go"
  refine e_callZ dl ?_
  tm_at "go"
  refine rx_tup hrd (d := r.guard.d) rfl fun vg hg => ?_
  tm_at "go"
  refine ⟨_, _, .cons hc (.cons hst (.cons hg .nil)), ⟨rs, st, r.guard, rfl, ⟨S, R.guard.1, Nat.le_trans g2d (by decide), by decide⟩, rfl⟩, fun vl H1 s1 hl _ => ?_⟩
  tm_at "go"
  refine rc_lstT hl fun l ys H2 s2 n2 g2 h2 => ?_
  refine a_cons (e_lstD ?_)
  tm_at "go"
  refine ⟨(Nat.le_of_ble_eq_true rfl), fun lp H3' s3' n3 g3' => ?_⟩
  tm_at "go"
  refine ⟨Nat.le_trans (m := 1000) (Nat.le_of_ble_eq_true rfl) (by decide), fun pq hq0 => ?_⟩
  have s30 := same_new (o := .tup [.ref l, .ref lp]) hq0
  refine g_tup (.of upd_same) (gs_cons (g_name (by tm_at "at") (gs_cons (g_name (by tm_at "at") (gs_nil ?_)))))
  generalize upd H3' pq (.tup [.ref l, .ref lp]) = H3 at *
  have s3 : Same H2 H3 := s3'.trans s30
  have g3 := s30 _ _ g3'
  have nl : H l = none := same_none s1 n2
  have np : H lp = none := same_none (s1.trans s2) n3
  have nlp : lp ≠ l := fun e => by rw [e, g2] at n3; cases n3
  have s13 := s1.trans (s2.trans s3)
  have g2' := s3 _ _ g2
  have h2' := h2.mono (tp_same s3)
  tm_at "go"
  refine e_callF dv ?_
  tm_at "go"
  refine rx_tup (hrd.mono (tp_same s13)) (d := r.guard.d) rfl fun vg2 hg2 => ?_
  tm_at "go"
  refine ⟨_, _, .cons (hc.mono (tp_same s13)) (.cons (hst.mono (tp_same s13)) (.cons hg2 .nil)), ⟨rs, st, r.guard, rfl, ⟨S, R.guard.1, Nat.le_trans g2d (by decide), by decide⟩, rfl⟩, fun vgv H4 s4 hgv => ?_⟩
  have s14 := s13.trans s4
  have g24 := s4 _ _ g2'
  have h24 := h2'.mono (tp_same s4)
  have g34 := s4 _ _ g3
  show RB _ _ _ _ _
  refine b_cut (fun σ1 H' => ∃ (v6 v7 : Option V) (us : List V), σ1 = [some vc, some vr, some vst, some (.ref l), some (.ref lp), some vgv, v6, v7, none, none, none, none] ∧ Kp lp H4 H' ∧ H' lp = some (.lst us) ∧ DtAll M.K H' us ((ptsOf r.as).map ptD)) ?_ ?_
  · refine s_forT ?_
    tm_at "go"
    refine rx_tup (hrd.mono (tp_same s14)) (d := .tuple (r.as.map asD)) rfl fun va ha => ?_
    obtain ⟨a, xs, rfl, hxs, hns⟩ := ha.tupE
    have hle := hns.len
    rw [List.length_map] at hle
    refine ⟨a, xs, rfl, hxs, fun i σ1 H' => ∃ (v6 v7 : Option V) (us : List V), σ1 = [some vc, some vr, some vst, some (.ref l), some (.ref lp), some vgv, v6, v7, none, none, none, none] ∧ Kp lp H4 H' ∧ H' lp = some (.lst us) ∧ DtAll M.K H' us ((ptsOf (r.as.take i)).map ptD), ⟨_, _, _, rfl, Kp.refl _ _, g34, .nil⟩, ?_, ?_, ?_⟩
    · rintro i σ' H' _ ⟨v6, v7, us, rfl, kk, _⟩
      exact kk.t.sqt hxs
    · rintro i x σ' H5 hx ⟨v6, v7, us, rfl, k5, g5, d5⟩
      obtain ⟨d, hd, hx'⟩ := hns.getV hx
      rw [List.getElem?_map] at hd
      obtain ⟨p, hp, rfl⟩ := Option.map_eq_some_iff.mp hd
      have hi10 : i < 10 := by
        have := (List.getElem?_eq_some_iff.mp hx).1
        omega
      obtain ⟨z1, z2⟩ := List.getElem?_eq_some_iff.mp hp
      have lus := d5.len
      rw [List.length_map] at lus
      have lpt := ptsOf_len (r.as.take i)
      rw [List.length_take] at lpt
      obtain ⟨tg, ex⟩ := p
      have etk : ptsOf (r.as.take (i + 1)) = ptsOf (r.as.take i) ++ ptsOf [(tg, ex)] := by rw [List.take_succ_eq_append_getElem z1, z2, ptsOf_app]
      refine g_unp2 (by tm_at "at") (by tm_at "at") (hx'.mono k5.t) fun vt vp ht hpd => ?_
      refine b_cut (fun σ1 H' => ∃ (us2 : List V), σ1 = [some vc, some vr, some vst, some (.ref l), some (.ref lp), some vgv, some vt, some vp, none, none, none, none] ∧ Kp lp H5 H' ∧ H' lp = some (.lst us2) ∧ us2.length ≤ 30 ∧ ∀ vq H'', Tp H' H'' → Dt M.K H'' vq (ptD (ex, none)) → DtAll M.K H'' (us2 ++ [vq]) ((ptsOf (r.as.take i) ++ ptsOf [(tg, ex)]).map ptD)) ?_ ?_
      · tm_at "go"
        refine t_val ?_
        tm_at "go"
        refine e_bltn (v := .ty "tuple") (u := .type "tuple") b.tuple (by decide +kernel) rfl ?_
        tm_at "go"
        cases tg with
        | nm s =>
          cases ht
          refine rc_isi (.base (.str s)) rfl ?_
          refine ⟨false, rfl, iff0 ?_⟩
          tm_at "go"
          refine ⟨us, rfl, Kp.refl _ _, g5, by omega, fun vq H'' t hq => ?_⟩
          rw [List.map_append]
          exact (d5.mono t).app (.cons hq .nil)
        | «at» t e =>
          have ht5 : Dt M.K H5 vt (.tuple [.str t, e.d]) := ht
          obtain ⟨at1, xt1, rfl, hte, _⟩ := ht5.tupE
          refine rc_isi (ty_tup hte) rfl ?_
          refine ⟨true, rfl, ift ?_⟩
          tm_at "go"
          refine s_expr (e_app ?_)
          tm_at "go"
          refine ⟨lp, us, rfl, g5, ?_⟩
          refine e_tupD ?_
          tm_at "go"
          refine rx_tup ht5 (d := e.d) rfl fun ve he => ?_
          tm_at "go"
          refine tupend (ds := [e.d, .str t]) (.cons he (.cons (.str _) .nil)) (Nat.le_of_ble_eq_true rfl) fun vq H6 s6 hq => ?_
          have ku := kp_upd (o' := .lst (us ++ [vq])) (s6 _ _ g5) (fun _ e => nomatch e) (fun _ _ e => nomatch e)
          refine ⟨us, s6 _ _ g5, by omega, ?_⟩
          tm_at "go"
          refine ⟨us ++ [vq], rfl, (kp_same s6).trans ku, upd_same, by rw [List.length_append, List.length_singleton]; omega, fun vq2 H'' t2 hq2 => ?_⟩
          rw [List.map_append, List.append_assoc]
          exact (d5.mono (((tp_same s6).trans ku.t).trans t2)).app (.cons (hq.mono (ku.t.trans t2)) (.cons hq2 .nil))
      rintro _ H6 ⟨us2, rfl, k6, g6, len6, nx6⟩
      tm_at "go"
      refine s_expr (e_app ?_)
      tm_at "go"
      refine ⟨lp, us2, rfl, g6, ?_⟩
      refine e_tupD ?_
      tm_at "go"
      refine tupend (ds := [ex.d, .str ""]) (.cons (hpd.mono k6.t) (.cons (.str _) .nil)) (Nat.le_of_ble_eq_true rfl) fun vq H7 s7 hq => ?_
      have ku := kp_upd (o' := .lst (us2 ++ [vq])) (s7 _ _ g6) (fun _ e => nomatch e) (fun _ _ e => nomatch e)
      refine ⟨us2, s7 _ _ g6, by omega, ?_⟩
      refine ⟨_, _, _, rfl, k5.trans (k6.trans ((kp_same s7).trans ku)), upd_same, ?_⟩
      rw [etk]
      exact nx6 _ _ ((tp_same s7).trans ku.t) (hq.mono ku.t)
    · rintro σ' H5 ⟨v6, v7, us, rfl, k5, g5, d5⟩
      rw [List.take_of_length_le (by omega)] at d5
      exact ⟨_, _, _, rfl, k5, g5, d5⟩
  rintro _ H5 ⟨v6, v7, us, rfl, k5, g5, d5⟩
  have s5 : Same H H5 := fun a o h => k5.k a o (ne_of_none h np) (s14 _ _ h)
  have g25 := k5.k _ _ (fun e => nlp e.symm) g24
  have h25 := h24.mono k5.t
  refine b_cut (fun σ1 H' => ∃ (lq : Addr) (us2 : List V) (ps : List Pt), σ1 = [some vc, some vr, some vst, some (.ref l), some (.ref lq), some vgv, v6, v7, none, none, none, none] ∧ Same H5 H' ∧ lq ≠ l ∧ H' lq = some (.lst us2) ∧ DtAll M.K H' us2 (ps.map ptD) ∧ ps.length ≤ 20 ∧ (∀ q ∈ ps, (Fit rs q.1 ∧ q.1.dep ≤ 2) ∧ ∀ t, q.2 = some t → ∃ r ∈ rs, r.1 = t ∧ 0 < r.2.1) ∧ (work rs st r).2 = (ev rs st r.guard).2 ++ plk rs st ps) ?_ ?_
  · have none_ : ∀ H', Same H5 H' → (work rs st r).2 = (ev rs st r.guard).2 → ∀ lq, H5 lq = none → H' lq = some (.lst []) → ∃ (lq' : Addr) (us2 : List V) (ps : List Pt), ([some vc, some vr, some vst, some (.ref l), some (.ref lq), some vgv, v6, v7, none, none, none, none] : L2.St) = [some vc, some vr, some vst, some (.ref l), some (.ref lq'), some vgv, v6, v7, none, none, none, none] ∧ Same H5 H' ∧ lq' ≠ l ∧ H' lq' = some (.lst us2) ∧ DtAll M.K H' us2 (ps.map ptD) ∧ ps.length ≤ 20 ∧ (∀ q ∈ ps, (Fit rs q.1 ∧ q.1.dep ≤ 2) ∧ ∀ t, q.2 = some t → ∃ r ∈ rs, r.1 = t ∧ 0 < r.2.1) ∧ (work rs st r).2 = (ev rs st r.guard).2 ++ plk rs st ps := fun H' s e lq hn g =>
      ⟨lq, [], [], rfl, s, (fun e2 => by rw [e2, g25] at hn; cases hn), g, .nil, Nat.zero_le _, (fun _ h => nomatch h), by rw [e, plk, List.append_nil]⟩
    rcases optN (hgv.mono k5.t) with ⟨eo, rfl⟩ | ⟨g, eo, rfl⟩
    · tm_at "go"
      refine e_lstD ?_
      tm_at "go"
      refine ⟨(Nat.le_of_ble_eq_true rfl), fun lq H6 s6 n6 g6 => ?_⟩
      exact none_ H6 s6 (by rw [work, eo]) lq n6 g6
    tm_at "go"
    refine ifd (fun c1 => ?_) (fun c1 => ?_)
    · tm_at "go"
      refine e_lstD ?_
      tm_at "go"
      refine ⟨(Nat.le_of_ble_eq_true rfl), fun lq H6 s6 n6 g6 => ?_⟩
      refine none_ H6 s6 ?_ lq n6 g6
      rw [work, eo]
      show (if g = 0 then _ else _ : Ents).2 = _
      rw [if_pos c1]
    · tm_at "go"
      refine ⟨lp, us, ptsOf r.as, rfl, Same.refl _, nlp, g5, d5, by have := ptsOf_len r.as; omega, ptsOf_fit R.as, ?_⟩
      rw [plk_wo S.nd r.as fun p hp => (R.as p hp).1, work, eo]
      show (if g = 0 then _ else _ : Ents).2 = _
      rw [if_neg c1]
  rintro _ H6 ⟨lq, us2, ps, rfl, s6, nql, g6, d6, len6, fit6, hw⟩
  have lu6 := d6.len
  rw [List.length_map] at lu6
  have g26 := s6 _ _ g25
  have h26 := h25.mono (tp_same s6)
  have s06 := s5.trans s6
  have endq : ∀ (L : List Int) (us : List V) (H' : Hp), Same H H' → H' l = some (.lst us) → DtAll M.K H' us ((firsts L).map (lookD st)) → (work rs st r).2 = L → ∀ v H'', Same H' H'' → Dt M.K H'' v (.tuple ((firsts L).map (lookD st))) → Q v H'' := fun L us H' s _ _ e v H'' s2 hv => k _ _ (s.trans s2) (by rw [e]; exact hv)
  refine b_cut (fun σ1 H' => ∃ (v8 v9 v10 : Option V) (us : List V), σ1 = [some vc, some vr, some vst, some (.ref l), some (.ref lq), some vgv, v6, v7, v8, v9, v10, none] ∧ Same H H' ∧ H' l = some (.lst us) ∧ DtAll M.K H' us ((firsts (work rs st r).2).map (lookD st))) ?_ ?_
  · refine s_forL ?_
    tm_at "go"
    refine ⟨lq, us2, rfl, .of g6, fun i σ1 H' => ∃ (v8 v9 v10 : Option V) (us : List V) (L : List Int), σ1 = [some vc, some vr, some vst, some (.ref l), some (.ref lq), some vgv, v6, v7, v8, v9, v10, none] ∧ Kp l H6 H' ∧ H' l = some (.lst us) ∧ DtAll M.K H' us ((firsts L).map (lookD st)) ∧ (work rs st r).2 = L ++ plk rs st (ps.drop i) ∧ L.length ≤ 32 + 32 * i, ⟨_, _, _, _, (ev rs st r.guard).2, rfl, Kp.refl _ _, g26, h26, hw, lg⟩, ?_, ?_, ?_⟩
    · rintro i σ' H' _ ⟨v8, v9, v10, us, L, rfl, kk, _⟩
      exact .of (kk.k _ _ nql g6)
    · rintro i x σ' H7 hx ⟨v8, v9, v10, us, L, rfl, k7, g7, d7, hw7, len7⟩
      obtain ⟨d, hd, hx'⟩ := d6.getV hx
      rw [List.getElem?_map] at hd
      obtain ⟨pt, hpt, rfl⟩ := Option.map_eq_some_iff.mp hd
      obtain ⟨⟨pf, pd⟩, ptb⟩ := fit6 pt (List.mem_of_getElem? hpt)
      have ed : ps.drop i = pt :: ps.drop (i + 1) := by
        obtain ⟨h1, h2⟩ := List.getElem?_eq_some_iff.mp hpt
        rw [← h2]; exact List.drop_eq_getElem_cons h1
      have hi20 : i < 20 := by
        have := (List.getElem?_eq_some_iff.mp hx).1
        omega
      rw [ed, plk] at hw7
      have s07 : Same H H7 := fun a o h => k7.k a o (ne_of_none h nl) (s06 _ _ h)
      have le7 := lenLooks (rs := rs) (st := st) (e := pt.1) (n := 2) pd (by decide)
      rw [List.length_map] at le7
      have lu7 := d7.len
      have lf7 := firsts_len L
      rw [List.length_map] at lu7
      refine g_unp2 (by tm_at "at") (by tm_at "at") (hx'.mono k7.t) fun v1 v2 hp1 hp2 => ?_
      cases hp2
      refine b_cut (fun σ1 H' => ∃ (us3 : List V), σ1 = [some vc, some vr, some vst, some (.ref l), some (.ref lq), some vgv, v6, v7, some v1, some (.str (pt.2.getD "")), v10, none] ∧ Kp l H7 H' ∧ H' l = some (.lst us3) ∧ DtAll M.K H' us3 ((firsts (L ++ (ev rs st pt.1).2)).map (lookD st))) ?_ ?_
      · refine s_expr (e_ext ?_)
        tm_at "go"
        refine ⟨l, us, rfl, g7, ?_⟩
        refine e_lc (own := [("_law_own", 11)]) (Blk.of (N := N__law_expected_looks) (sc := defScope s__law_expected_looks) rfl rfl (by decide +kernel)) ?_
        refine lcT_F (gNew (firsts L)) ?_
        refine e_callZ dl ?_
        tm_at "go"
        refine ⟨_, _, .cons (hc.mono (tp_same s07)) (.cons (hst.mono (tp_same s07)) (.cons hp1 .nil)), ⟨rs, st, pt.1, rfl, ⟨S, pf, Nat.le_trans pd (by decide), by decide⟩, rfl⟩, fun vk H8 s8 hk _ => ?_⟩
        refine ⟨_, hk, by rw [List.length_map]; exact Nat.le_trans (firsts_len _) (by omega), fun d y H' hd sH hy => ?_, fun lz us4 H9 s9 n9 g9 h9 => ?_⟩
        · obtain ⟨j, hj, rfl⟩ := List.mem_map.mp hd
          refine g_name (by tm_at "at") ⟨rfl, rfl, ts_one ?_⟩
          tm_at "go"
          refine ro_notInDL (n := 2) hy ((s8.trans sH) _ _ g7) (d7.mono (tp_same (s8.trans sH))) (lookShp st j) (fun e he => ?_) (by decide) ?_
          · obtain ⟨j2, _, rfl⟩ := List.mem_map.mp he
            exact lookShp st j2
          rw [looks_any]
          refine ⟨_, rfl, Same.refl _, ifnd (fun c1 => ?_) (fun c1 => ?_)⟩
          · tm_at "go"
            exact ⟨Same.refl _, _, by rw [gNew_one, if_neg c1], hy⟩
          · rw [gNew_one, if_pos c1]
        rw [gNew_all] at h9
        have l9 := h9.len
        rw [List.length_map] at l9
        have l99 := List.length_filter_le (fun j => decide (j ∉ firsts L)) (firsts (ev rs st pt.1).2)
        have l98 := firsts_len (ev rs st pt.1).2
        have ku := kp_upd (o' := .lst (us ++ us4)) ((s8.trans s9) _ _ g7) (fun _ e => nomatch e) (fun _ _ e => nomatch e)
        refine ⟨lz, us, us4, rfl, (s8.trans s9) _ _ g7, g9, by omega, ?_⟩
        refine ⟨_, rfl, (kp_same (s8.trans s9)).trans ku, upd_same, ?_⟩
        rw [firsts_app, List.map_append]
        exact (d7.mono ((tp_same (s8.trans s9)).trans ku.t)).app (h9.mono ku.t)
      rintro _ H8 ⟨us3, rfl, k8, g8, d8⟩
      have s08 : Same H H8 := fun a o h => k8.k a o (ne_of_none h nl) (s07 _ _ h)
      have hp18 := hp1.mono k8.t
      refine b_cut (fun σ1 H' => ∃ (vw : V) (ew : Ex), σ1 = [some vc, some vr, some vst, some (.ref l), some (.ref lq), some vgv, v6, v7, some v1, some (.str (pt.2.getD "")), some vw, none] ∧ Same H8 H' ∧ Dt M.K H' vw ew.d ∧ Fit rs ew ∧ ew.dep ≤ 3 ∧ (ev rs st ew).1.isSome = (ptV rs st pt).isSome) ?_ ?_
      · tm_at "go"
        obtain ⟨pe, pt2⟩ := pt
        cases pt2 with
        | none =>
          refine ifT rfl ?_
          tm_at "go"
          exact ⟨_, pe, rfl, Same.refl _, hp18, pf, Nat.le_trans pd (by decide), rfl⟩
        | some t =>
          obtain ⟨q, hq, e1, e2⟩ := ptb t rfl
          refine ifF (fun e => ne q hq (e1.trans e)) ?_
          refine e_tupD ?_
          tm_at "go"
          refine tupend (ds := [.str "at", .str t, pe.d]) (.cons (.str _) (.cons (.str _) (.cons hp18 .nil))) (Nat.le_of_ble_eq_true rfl) fun vw H9 s9 hw9 => ?_
          refine ⟨_, .at t pe, rfl, s9, hw9, ⟨⟨q, hq, e1, e2⟩, pf⟩, Nat.succ_le_succ pd, ?_⟩
          rw [ev]
          show (thn1 (keyed rs t (ev rs st pe)) _).1.isSome = (keyed rs t (ev rs st pe)).1.isSome
          cases e5 : (keyed rs t (ev rs st pe)).1 with
          | none => rw [thn1_none e5]
          | some j => rw [thn1_val e5]; rfl
      rintro _ H9 ⟨vw, ew, rfl, s9, hvw, wf, wd, wV⟩
      have s09 := s08.trans s9
      have g9 := s9 _ _ g8
      have d9 := d8.mono (tp_same s9)
      tm_at "go"
      refine e_callF dv ?_
      tm_at "go"
      refine ⟨_, _, .cons (hc.mono (tp_same s09)) (.cons (hst.mono (tp_same s09)) (.cons hvw .nil)), ⟨rs, st, ew, rfl, ⟨S, wf, wd, by decide⟩, rfl⟩, fun vz Ha sa hz => ?_⟩
      tm_at "go"
      rcases optN hz with ⟨e1, rfl⟩ | ⟨z, e1, rfl⟩
      · refine ifT rfl ?_
        tm_at "go"
        refine rc_tupL (.of (sa _ _ g9)) (d9.mono (tp_same sa)) fun v7' Hb sb hb => ?_
        refine endq _ _ Ha (s09.trans sa) (sa _ _ g9) (d9.mono (tp_same sa)) ?_ _ _ sb hb
        rw [e1] at wV
        rw [hw7, ← wV]
        simp
      · refine ifF (fun e => nomatch e) ?_
        tm_at "go"
        rw [e1] at wV
        refine ⟨_, _, _, us3, L ++ (ev rs st pt.1).2, rfl, k7.trans (k8.trans (kp_same (s9.trans sa))), sa _ _ g9, d9.mono (tp_same sa), ?_, by rw [List.length_append]; omega⟩
        rw [hw7, ← wV, if_pos (show (some z).isSome = true from rfl), List.append_assoc]
    · rintro σ' H7 ⟨v8, v9, v10, us, L, rfl, k7, g7, d7, hw7, len7⟩
      rw [List.drop_eq_nil_of_le (by omega), plk, List.append_nil] at hw7
      exact ⟨_, _, _, us, rfl, fun a o h => k7.k a o (ne_of_none h nl) (s06 _ _ h), g7, by rw [hw7]; exact d7⟩
  rintro _ H7 ⟨v8, v9, v10, us, rfl, s7, g7, d7⟩
  tm_at "go"
  refine rc_tupL (.of g7) d7 fun v7' H8 s8 h8 => ?_
  exact k _ _ (s7.trans s8) h8
end K

namespace K
open PySem PySem.Spec PyProof.Rows L2 G
/-! ### what a rule assigns, by its guard and its assignments -/
def tru (rs : List Row) (st : St1) (g : Ex) : Bool := match (ev rs st g).1 with
  | none => false
  | some v => decide (v ≠ 0)
def allow (rs : List Row) (es : List (Int × Int)) : Option (List (Int × Int)) := if (firsts (es.map (·.1))).length < es.length then none else if es.all (inR rs) then some (sortE es) else none
def asgA (rs : List Row) (st : St1) (as : List (Tg × Ex)) : Option (List (Int × Int)) := (wo rs st as).1.bind (allow rs)
theorem asg_tru (rs : List Row) (st : St1) (n : Str) (g : Ex) (as : List (Tg × Ex)) : asg rs st ⟨n, g, as⟩ = if tru rs st g = true then asgA rs st as else none := by
  unfold asg work tru asgA
  cases (ev rs st g).1 with
  | none => rfl
  | some v =>
    by_cases h : v = 0
    · subst h
      rfl
    · simp only [if_neg h, decide_eq_true h]
      cases (wo rs st as).1 <;> rfl
theorem tru_and1 (rs : List Row) (st : St1) (g : Ex) : tru rs st (.bin "and" g (.int 1)) = tru rs st g := by
  have e : ev rs st (.bin "and" g (.int 1)) = thn1 (ev rs st g) fun v => if decide (v ≠ 0) = decide (("and" : Str) = "or") then (some (b2 (v ≠ 0)), []) else thn1 (ev rs st (.int 1)) fun w => (some (b2 (w ≠ 0)), []) := by
    conv => lhs; rw [ev]
    rw [if_pos (by decide +kernel)]
  unfold tru
  rw [e]
  have n : decide (("and" : Str) = "or") = false := by decide +kernel
  cases e1 : (ev rs st g).1 with
  | none => rw [thn1_none e1]
  | some v =>
    rw [thn1_val e1, n]
    by_cases h : v = 0
    · subst h; rfl
    · simp [h, ev, thn1, b2]
theorem tru_and0 (rs : List Row) (st : St1) (g : Ex) : tru rs st (.bin "and" g (.int 0)) = false := by
  have e : ev rs st (.bin "and" g (.int 0)) = thn1 (ev rs st g) fun v => if decide (v ≠ 0) = decide (("and" : Str) = "or") then (some (b2 (v ≠ 0)), []) else thn1 (ev rs st (.int 0)) fun w => (some (b2 (w ≠ 0)), []) := by
    conv => lhs; rw [ev]
    rw [if_pos (by decide +kernel)]
  unfold tru
  rw [e]
  have n : decide (("and" : Str) = "or") = false := by decide +kernel
  cases e1 : (ev rs st g).1 with
  | none => rw [thn1_none e1]
  | some v =>
    rw [thn1_val e1, n]
    by_cases h : v = 0
    · subst h; rfl
    · simp [h, ev, thn1, b2]
theorem tru_notnot (rs : List Row) (st : St1) (g : Ex) : tru rs st (.un "not" (.un "not" g)) = tru rs st g := by
  unfold tru
  rw [ev, ev]
  cases e1 : (ev rs st g).1 with
  | none => rw [thn1_none e1]; rfl
  | some v =>
    rw [thn1_val e1]
    have u : ∀ v : Int, un1 "not" v = b2 (v = 0) := fun v => by unfold un1; rw [if_pos rfl]
    by_cases h : v = 0
    · subst h
      simp [thn1, u, b2]
    · simp [thn1, u, b2, h]
theorem tru_if (rs : List Row) (st : St1) (g : Ex) : tru rs st (.ite g (.int 1) (.int 0)) = tru rs st g := by
  unfold tru
  rw [ev]
  cases e1 : (ev rs st g).1 with
  | none => rw [thn1_none e1]
  | some v =>
    rw [thn1_val e1]
    by_cases h : v = 0
    · subst h; simp [ev]
    · simp [h, ev]
theorem wo_one (rs : List Row) (st : St1) (p : Tg × Ex) : (wo rs st [p]).1 = match (tgt rs st p.1).1, (ev rs st p.2).1 with
  | some j, some v => some [(j, v)]
  | _, _ => none := by
  cases e1 : (tgt rs st p.1).1 with
  | none => rw [wo_j e1]
  | some j =>
    cases e2 : (ev rs st p.2).1 with
    | none => rw [wo_v e1 e2]
    | some v => rw [wo_s e1 e2]; rfl
theorem wo_two (rs : List Row) (st : St1) (p q : Tg × Ex) : (wo rs st [p, q]).1 = match (wo rs st [p]).1, (wo rs st [q]).1 with
  | some es, some fs => some (es ++ fs)
  | _, _ => none := by
  cases e1 : (tgt rs st p.1).1 with
  | none => rw [wo_j e1, wo_j e1]
  | some j =>
    cases e2 : (ev rs st p.2).1 with
    | none => rw [wo_v e1 e2, wo_v e1 e2]
    | some v =>
      rw [wo_s e1 e2, wo_s e1 e2]
      cases (wo rs st [q]).1 <;> rfl
theorem sortE_perm2 {es fs : List (Int × Int)} (h : es.Perm fs) : sortE es = sortE fs := sortE_uniq ((sortE_perm es).trans h) (sortE_pw es)
theorem allow_perm {rs : List Row} {es fs : List (Int × Int)} (h : es.Perm fs) : allow rs es = allow rs fs := by
  have e1 : es.all (inR rs) = fs.all (inR rs) := by
    rw [Bool.eq_iff_iff, List.all_eq_true, List.all_eq_true]
    exact ⟨fun g x hx => g x (h.mem_iff.mpr hx), fun g x hx => g x (h.mem_iff.mp hx)⟩
  have e2 : (firsts (es.map (·.1))).length = (firsts (fs.map (·.1))).length := by
    refine ((List.perm_ext_iff_of_nodup (firsts_nodup _) (firsts_nodup _)).mpr fun a => ?_).length_eq
    rw [firsts_mem, firsts_mem]
    exact (h.map (·.1)).mem_iff
  unfold allow
  rw [e1, e2, h.length_eq, sortE_perm2 h]
/-- turning the assignments -/
theorem asgA_rev {rs : List Row} {st : St1} {as : List (Tg × Ex)} (h : as.length ≤ 2) : asgA rs st as.reverse = asgA rs st as := by
  match as, h with
  | [], _ => rfl
  | [p], _ => rfl
  | [p, q], _ =>
    show asgA rs st [q, p] = asgA rs st [p, q]
    unfold asgA
    rw [wo_two, wo_two]
    cases (wo rs st [p]).1 with
    | none => cases (wo rs st [q]).1 <;> rfl
    | some es =>
      cases (wo rs st [q]).1 with
      | none => rfl
      | some fs => exact allow_perm List.perm_append_comm
end K
namespace K
open PySem PySem.Spec PyProof.Rows L2 G
theorem wo_sing {rs : List Row} {st : St1} {p : Tg × Ex} {es : List (Int × Int)} (h : (wo rs st [p]).1 = some es) : ∃ j v, es = [(j, v)] := by
  rw [wo_one] at h
  split at h
  · exact ⟨_, _, (Option.some.inj h).symm⟩
  · cases h
theorem allow_one {rs : List Row} {j v : Int} : allow rs [(j, v)] = if inR rs (j, v) = true then some [(j, v)] else none := by
  unfold allow
  have e1 : (firsts (([(j, v)] : List (Int × Int)).map (·.1))).length = 1 := rfl
  have e2 : sortE [(j, v)] = [(j, v)] := (sortE_uniq (List.Perm.refl _) (List.pairwise_singleton _ _)).symm
  rw [if_neg (by rw [e1]; exact Nat.lt_irrefl 1), e2, List.all_cons, List.all_nil, Bool.and_true]
/-- one assignment alone -/
theorem asgA_one {rs : List Row} {st : St1} {p : Tg × Ex} {o : List (Int × Int)} (h : asgA rs st [p] = some o) : ∃ j v, o = [(j, v)] ∧ (wo rs st [p]).1 = some [(j, v)] ∧ inR rs (j, v) = true := by
  unfold asgA at h
  obtain ⟨es, e1, e2⟩ := Option.bind_eq_some_iff.mp h
  obtain ⟨j, v, rfl⟩ := wo_sing e1
  rw [allow_one] at e2
  split at e2
  · rename_i hi
    exact ⟨j, v, (Option.some.inj e2).symm, e1, hi⟩
  · cases e2
theorem allow_bad {rs : List Row} {es : List (Int × Int)} {x : Int × Int} (h : x ∈ es) (k : inR rs x = false) : allow rs es = none := by
  unfold allow
  split
  · rfl
  · rw [if_neg]
    intro h2
    have := List.all_eq_true.mp h2 x h
    rw [k] at this
    cases this
theorem asgA_none1 {rs : List Row} {st : St1} {p q : Tg × Ex} (h : asgA rs st [p] = none) : asgA rs st [p, q] = none := by
  unfold asgA at h ⊢
  rw [wo_two]
  cases e1 : (wo rs st [p]).1 with
  | none => rfl
  | some es =>
    obtain ⟨j, v, rfl⟩ := wo_sing e1
    rw [e1] at h
    change allow rs [(j, v)] = none at h
    rw [allow_one] at h
    cases (wo rs st [q]).1 with
    | none => rfl
    | some fs =>
      show allow rs ([(j, v)] ++ fs) = none
      refine allow_bad (List.mem_append_left _ (List.mem_singleton.mpr rfl)) ?_
      cases e : inR rs (j, v) with
      | false => rfl
      | true => rw [e] at h; cases h
theorem asgA_none2 {rs : List Row} {st : St1} {p q : Tg × Ex} (h : asgA rs st [q] = none) : asgA rs st [p, q] = none := by
  rw [← asgA_rev (as := [p, q]) (Nat.le_refl 2)]
  exact asgA_none1 h
theorem asgA_both {rs : List Row} {st : St1} {p q : Tg × Ex} {j v k w : Int} (h1 : asgA rs st [p] = some [(j, v)]) (h2 : asgA rs st [q] = some [(k, w)]) : asgA rs st [p, q] = if j = k then none else some (sortE [(j, v), (k, w)]) := by
  obtain ⟨j', v', e1, e2, e3⟩ := asgA_one h1
  obtain ⟨k', w', e4, e5, e6⟩ := asgA_one h2
  cases e1
  cases e4
  unfold asgA
  rw [wo_two, e2, e5]
  show allow rs [(j, v), (k, w)] = _
  unfold allow
  have all : ([(j, v), (k, w)] : List (Int × Int)).all (inR rs) = true := by simp [e3, e6]
  by_cases e : j = k
  · subst e
    rw [if_pos rfl, if_pos]
    show (firsts [j, j]).length < 2
    simp [firsts]
  · rw [if_neg e, if_neg, if_pos all]
    show ¬ (firsts [j, k]).length < 2
    have : ¬ k = j := fun h => e h.symm
    simp [firsts, this]
end K

local macro_rules | `(tactic| tm_at "mk") => `(tactic| repeat (first | (refine gRE ?_; refine e_tupD ?_) | tm_at "s" | (refine gRO ?_; refine ro_pow ⟨by decide, by decide, by decide⟩ ?_) | (refine gRB ?_; first | refine b_one ?_ | refine b_cons ?_) | (refine tupend (by tm_at "dts") (Nat.le_of_ble_eq_true rfl) fun v H s h => ?_)))
namespace K
open PySem L2 G
variable {M : Md}
theorem row_rg {rs : List Row} {r : Row} (hr : r ∈ rs) : (r.2.2.1, r.2.2.2.1) ∈ rg rs := by
  refine List.mem_flatMap.mpr ⟨r, hr, List.mem_replicate.mpr ⟨?_, rfl⟩⟩
  unfold width
  omega
theorem row_tot {rs : List Row} {r : Row} (hr : r ∈ rs) : r.2.1 ≤ total rs := by
  induction rs with
  | nil => cases hr
  | cons q rs ih =>
    have e : total (q :: rs) = width q + total rs := by simp [total]
    have w : q.2.1 ≤ width q := Nat.le_max_right _ _
    rcases List.mem_cons.mp hr with rfl | hr
    · omega
    · have := ih hr
      omega
/-- a rule of one or two assignments that fits -/
structure Gd (rs : List Row) (r : Rl) : Prop where
  fit : FitR rs r
  two : r.as.length ≤ 2
  gd2 : r.guard.dep ≤ 2
theorem gd_of {rs : List Row} {n : Str} {g : Ex} {as : List (Tg × Ex)} (h1 : PyData.strOk n = true) (h3 : Fit rs g ∧ g.dep ≤ 2) (h4 : as.length ≤ 2) (h5 : as ≠ []) (h6 : ∀ p ∈ as, FitT rs p.1 ∧ Fit rs p.2 ∧ p.2.dep ≤ 2) : Gd rs ⟨n, g, as⟩ := ⟨⟨h1, ⟨h3.1, Nat.le_trans h3.2 (by decide)⟩, Nat.le_trans h4 (by decide), h5, h6⟩, h4, h3.2⟩
theorem all1 {α : Type} {P : α → Prop} {a : α} (h : P a) : ∀ p ∈ [a], P p := fun p hp => by rw [List.mem_singleton.mp hp]; exact h
theorem all2 {α : Type} {P : α → Prop} {a b : α} (h : P a) (k : P b) : ∀ p ∈ [a, b], P p := fun p hp => by
  rcases List.mem_cons.mp hp with rfl | hp
  · exact h
  · exact all1 k p hp
theorem gd_app {rs : List Row} {as bs : List Rl} (h : ∀ r ∈ as, Gd rs r) (k : ∀ r ∈ bs, Gd rs r) : ∀ r ∈ as ++ bs, Gd rs r := fun r hr => by
  rcases List.mem_append.mp hr with hr | hr
  · exact h r hr
  · exact k r hr
structure RowB (rs : List Row) (r : Row) : Prop where
  mem : r ∈ rs
  sz : r.2.1 ≤ 10
  lo : -10 ≤ r.2.2.1 ∧ r.2.2.1 ≤ 10
  hi : -10 ≤ r.2.2.2.1 ∧ r.2.2.2.1 ≤ 10
theorem rowB {rs : List Row} (A : RowsAll rs) {r : Row} (h : r ∈ rs) : RowB rs r := by
  obtain ⟨a1, a2, a3⟩ := A.sm.sp _ (row_rg h)
  unfold span at a1
  simp only at a1 a2 a3
  exact ⟨h, by have := row_tot h; have := A.sm.tot; omega, by omega, by omega⟩
theorem nmF {rs : List Row} {r : Row} (B : RowB rs r) (z : r.2.1 = 0) : Fit rs (.nm r.1) ∧ (Ex.nm r.1).dep ≤ 2 := ⟨⟨r, B.mem, rfl, z⟩, Nat.zero_le _⟩
theorem nmT {rs : List Row} {r : Row} (B : RowB rs r) (z : r.2.1 = 0) : FitT rs (.nm r.1) := ⟨r, B.mem, rfl, z⟩
theorem iF {rs : List Row} {n : Nat} (i : Int) (h : -1000000 ≤ i ∧ i ≤ 1000000) : Fit rs (.int i) ∧ (Ex.int i).dep ≤ n := ⟨h, Nat.zero_le _⟩
/-- the end of found.extend(..) and of found.append(..) -/
theorem ext_end {K : PySem.W.Frag} {HN H' : Hp} {l l2 : Addr} {us ws : List V} {rl rl1 : List Rl} (g : HN l = some (.lst us)) (hd : DtAll K HN us (rl.map Rl.d)) (s : Same HN H') (g2 : H' l2 = some (.lst ws)) (d2 : DtAll K H' ws (rl1.map Rl.d)) (few : rl.length + rl1.length ≤ 1000) :
    H' l = some (.lst us) ∧ us.length + ws.length ≤ 100000 ∧ Kp l HN (upd H' l (.lst (us ++ ws))) ∧ (upd H' l (.lst (us ++ ws))) l = some (.lst (us ++ ws)) ∧ DtAll K (upd H' l (.lst (us ++ ws))) (us ++ ws) ((rl ++ rl1).map Rl.d) := by
  have l1 := hd.len
  have l2' := d2.len
  rw [List.length_map] at l1 l2'
  have ku := kp_upd (o' := .lst (us ++ ws)) (s _ _ g) (fun _ e => nomatch e) (fun _ _ e => nomatch e)
  refine ⟨s _ _ g, by omega, (kp_same s).trans ku, upd_same, ?_⟩
  rw [List.map_append]
  exact (hd.mono ((tp_same s).trans ku.t)).app (d2.mono ku.t)
theorem app_end {K : PySem.W.Frag} {HN H' : Hp} {l : Addr} {y : V} {us : List V} {rl : List Rl} {r1 : Rl} (g : HN l = some (.lst us)) (hd : DtAll K HN us (rl.map Rl.d)) (s : Same HN H') (d2 : Dt K H' y r1.d) (few : rl.length ≤ 1000) :
    H' l = some (.lst us) ∧ us.length < 100000 ∧ Kp l HN (upd H' l (.lst (us ++ [y]))) ∧ (upd H' l (.lst (us ++ [y]))) l = some (.lst (us ++ [y])) ∧ DtAll K (upd H' l (.lst (us ++ [y]))) (us ++ [y]) ((rl ++ [r1]).map Rl.d) := by
  have l1 := hd.len
  rw [List.length_map] at l1
  have ku := kp_upd (o' := .lst (us ++ [y])) (s _ _ g) (fun _ e => nomatch e) (fun _ _ e => nomatch e)
  refine ⟨s _ _ g, by omega, (kp_same s).trans ku, upd_same, ?_⟩
  rw [List.map_append]
  exact (hd.mono ((tp_same s).trans ku.t)).app (.cons (d2.mono ku.t) .nil)
def gPl : PyData → Option PyData
  | .tuple (n :: .int s :: tl) => if s = 0 then some (.tuple (n :: .int s :: tl)) else none
  | _ => none
theorem gPl_one (r : Row) : gPl (rowD r) = if (r.2.1 : Int) = 0 then some (rowD r) else none := rfl
theorem gPl_all (rs : List Row) : ∃ qs : List Row, (rs.map rowD).filterMap gPl = qs.map rowD ∧ qs.length ≤ rs.length ∧ ∀ r ∈ qs, r ∈ rs ∧ r.2.1 = 0 := by
  induction rs with
  | nil => exact ⟨[], rfl, Nat.le_refl _, fun _ h => nomatch h⟩
  | cons r rs ih =>
    obtain ⟨qs, h1, h2, h3⟩ := ih
    rw [List.map_cons, List.filterMap_cons, gPl_one]
    by_cases e : (r.2.1 : Int) = 0
    · rw [if_pos e]
      refine ⟨r :: qs, by rw [List.map_cons, ← h1], Nat.succ_le_succ h2, fun q hq => ?_⟩
      rcases List.mem_cons.mp hq with rfl | hq
      · exact ⟨List.mem_cons_self .., by omega⟩
      · exact ⟨List.mem_cons_of_mem _ (h3 q hq).1, (h3 q hq).2⟩
    · rw [if_neg e]
      exact ⟨qs, h1, Nat.le_succ_of_le h2, fun q hq => ⟨List.mem_cons_of_mem _ (h3 q hq).1, (h3 q hq).2⟩⟩
/-- rows[:1] -/
theorem cut_rows {K : PySem.W.Frag} {H : Hp} {us : List V} {qs : List Row} (h : DtAll K H us (qs.map rowD)) (lo hi : Option Int) : ∃ ps : List Row, DtAll K H (cutV us lo hi) (ps.map rowD) ∧ ps.length ≤ qs.length ∧ ∀ r ∈ ps, r ∈ qs := by
  have hl := h.len
  have hc : DtAll K H (cutV us lo hi) (cutD (qs.map rowD) lo hi) := by
    unfold cutV cutD
    rw [hl]
    exact DtAll.take _ (DtAll.drop _ h)
  rw [cutD_map] at hc
  exact ⟨_, hc, (cutD_sub qs lo hi).length_le, fun r hr => (cutD_sub qs lo hi).subset hr⟩
theorem same_kp {H H1 H2 : Hp} {l : Addr} (s : Same H H1) (k : Kp l H1 H2) (n : H l = none) : Same H H2 := fun a o h => k.k a o (ne_of_none h n) (s _ _ h)
abbrev fX1 (r : Row) : List Rl := [⟨"rule", .int 2, [(.nm r.1, .int r.2.2.1)]⟩, ⟨"rule", .un "neg" (.int 1), [(.nm r.1, .int r.2.2.2.1)]⟩]
abbrev fX2 (r : Row) : Rl := ⟨"rule", .int 1, [(.nm r.1, .int r.2.2.1), (.nm r.1, .int r.2.2.2.1)]⟩
abbrev fX3 (r o : Row) : Rl := ⟨"rule", .int 1, [(.nm r.1, .int r.2.2.1), (.nm o.1, .int (o.2.2.2.1 + 1))]⟩
theorem fX_ok {rs : List Row} {r : Row} (B : RowB rs r) (z : r.2.1 = 0) : (∀ q ∈ fX1 r, Gd rs q) ∧ Gd rs (fX2 r) := by
  have t := nmT B z
  have i1 := iF (rs := rs) (n := 2) 1 (by decide)
  have lo := B.lo
  have hi := B.hi
  exact ⟨all2 (gd_of (by decide +kernel) (iF 2 (by decide)) (Nat.le_of_ble_eq_true rfl) (fun h => nomatch h) (all1 ⟨t, iF _ (by omega)⟩)) (gd_of (by decide +kernel) ⟨⟨by decide +kernel, i1.1⟩, (show 1 ≤ 2 by decide)⟩ (Nat.le_of_ble_eq_true rfl) (fun h => nomatch h) (all1 ⟨t, iF _ (by omega)⟩)),
    gd_of (by decide +kernel) i1 (Nat.le_of_ble_eq_true rfl) (fun h => nomatch h) (all2 ⟨t, iF _ (by omega)⟩ ⟨t, iF _ (by omega)⟩)⟩
theorem fX3_ok {rs : List Row} {r o : Row} (B : RowB rs r) (z : r.2.1 = 0) (C : RowB rs o) (y : o.2.1 = 0) : Gd rs (fX3 r o) := by
  have lo := B.lo
  have hi := C.hi
  exact gd_of (by decide +kernel) (iF 1 (by decide)) (Nat.le_of_ble_eq_true rfl) (fun h => nomatch h) (all2 ⟨nmT B z, iF _ (by omega)⟩ ⟨nmT C y, iF _ (by omega)⟩)
def spFx (K : PySem.W.Frag) : Sp := fun vs H Q _ => ∃ (rs : List Row) (v1 : V), vs = [v1] ∧ Dt K H v1 (cellsD rs) ∧ RowsAll rs ∧ ∀ (l : Addr) (us : List V) (rl : List Rl) (H' : Hp), Same H H' → H l = none → H' l = some (.lst us) → DtAll K H' us (rl.map Rl.d) → (∀ r ∈ rl, Gd rs r) → rl.length ≤ 400 → Q (.ref l) H'
set_option maxHeartbeats 4000000 in
theorem ok_fixed {f fd} (F : Fun M.K "_law_fixed" "_law_fixed" s__law_fixed f fd) (b : Bl M) : FnG M.prog M.w M.K M.mg M.base CX0 1 f fd ["_law_rows_here"] (spFx M.K) := by
  refine fn_ok F sc__law_fixed (fun vs H Q E h => ?_) (fun H vs Q E h => ?_)
  · obtain ⟨rs, v1, rfl, _⟩ := h
    rfl
  obtain ⟨rs, vc, rfl, hc, A, k⟩ := h
  have rl0 := A.ri.len
  refine b_cons (s_setLc (own := [("_law_own", 1)]) (by tm_at "at") (Blk.of (N := N__law_fixed) (sc := defScope s__law_fixed) rfl rfl (by decide +kernel)) ?_)
  refine lcT_F gPl ?_
  tm_at "go"
  refine ⟨rs.map rowD, hc, by rw [List.length_map]; omega, fun d x H' hd s hx => ?_, fun lp up H2 s2 n2 g2 h2 => ?_⟩
  · obtain ⟨r, hr, rfl⟩ := List.mem_map.mp hd
    refine g_name (by tm_at "at") ⟨rfl, rfl, ts_one ?_⟩
    tm_at "go"
    refine ⟨Same.refl _, ifd (fun c1 => ?_) (fun c1 => ?_)⟩
    · tm_at "go"
      exact ⟨Same.refl _, _, by rw [gPl_one, if_pos c1], hx⟩
    · rw [gPl_one, if_neg c1]
  obtain ⟨pl, e2, len2, pl0⟩ := gPl_all rs
  rw [e2] at h2
  tm_at "go"
  refine e_lstD ?_
  tm_at "go"
  refine ⟨(Nat.le_of_ble_eq_true rfl), fun l H3 s3 n3 g3 => ?_⟩
  have nl : H l = none := same_none s2 n3
  have np : lp ≠ l := fun e => by rw [← e, g2] at n3; cases n3
  have s03 := s2.trans s3
  have gp3 := s3 _ _ g2
  have hp3 := h2.mono (tp_same s3)
  clear s2 s3
  refine b_cut (fun σ1 H' => ∃ (us : List V) (rl : List Rl) (v1 v4 : Option V), σ1 = [some vc, v1, some (.ref lp), some (.ref l), v4] ∧ Kp l H3 H' ∧ H' l = some (.lst us) ∧ DtAll M.K H' us (rl.map Rl.d) ∧ (∀ r ∈ rl, Gd rs r) ∧ rl.length ≤ 400) ?_ ?_
  · refine s_forL ?_
    tm_at "go"
    refine rsl_list (.of gp3) fun lq H4 s4 n4 g4 => ?_
    obtain ⟨ps, hps, lps, ps0⟩ := cut_rows (hp3.mono (tp_same s4)) none (some 1)
    have nq : lq ≠ l := fun e => by rw [e, g3] at n4; cases n4
    have lcv := hps.len
    rw [List.length_map] at lcv
    refine ⟨lq, _, rfl, .of g4, fun i σ1 H' => ∃ (us : List V) (rl : List Rl) (v1 v4 : Option V), σ1 = [some vc, v1, some (.ref lp), some (.ref l), v4] ∧ Kp l H4 H' ∧ H' l = some (.lst us) ∧ DtAll M.K H' us (rl.map Rl.d) ∧ (∀ r ∈ rl, Gd rs r) ∧ rl.length ≤ 20 * i, ⟨_, [], _, _, rfl, Kp.refl _ _, s4 _ _ g3, .nil, (fun _ h => nomatch h), Nat.zero_le _⟩, ?_, ?_, ?_⟩
    · rintro i σ' H' _ ⟨us, rl, v1, v4, rfl, kk, _⟩
      exact .of (kk.k _ _ nq g4)
    · rintro i x σ' H5 hx ⟨us, rl, v1, v4, rfl, k5, g5, d5, gd5, len5⟩
      obtain ⟨d, hd, hx'⟩ := hps.getV hx
      rw [List.getElem?_map] at hd
      obtain ⟨r, hr, rfl⟩ := Option.map_eq_some_iff.mp hd
      have hi : i < ps.length := (List.getElem?_eq_some_iff.mp hr).1
      obtain ⟨rm, z⟩ := pl0 r (ps0 r (List.mem_of_getElem? hr))
      have B := rowB A rm
      obtain ⟨o1, o2⟩ := fX_ok B z
      have hx5 : Dt M.K H5 x (rowD r) := hx'.mono k5.t
      have fw : rl.length ≤ 200 := by omega
      refine g_name (by tm_at "at") ?_
      tm_at "go"
      refine s_expr (e_ext ?_)
      tm_at "go"
      refine ⟨l, _, rfl, g5, ?_⟩
      refine e_lstD ?_
      tm_at "mk"
      refine ⟨(Nat.le_of_ble_eq_true rfl), fun lz Hz sz nz gz => ?_⟩
      obtain ⟨gy, fewy, k6, g6, d6⟩ := ext_end (rl1 := fX1 r) g5 d5 (by tm_at "same") gz (.cons (by tm_at "dt") (.cons (by tm_at "dt") .nil)) (show rl.length + 2 ≤ 1000 by omega)
      refine ⟨lz, _, _, rfl, gy, gz, fewy, ?_⟩
      clear sz gz gy fewy
      revert k6 g6 d6
      generalize upd Hz l _ = H6
      intro k6 g6 d6
      have hx6 := hx5.mono k6.t
      tm_at "go"
      refine s_expr (e_app ?_)
      tm_at "go"
      refine ⟨l, _, rfl, g6, ?_⟩
      tm_at "mk"
      rename_i vz Hz sz hz
      obtain ⟨gy, fewy, k7, g7, d7⟩ := app_end (H' := Hz) (y := vz) (r1 := fX2 r) g6 d6 (by tm_at "same") (by tm_at "dt") (by rw [List.length_append]; exact (show rl.length + 2 ≤ 1000 by omega))
      refine ⟨_, gy, fewy, ?_⟩
      clear gy fewy sz hz
      revert k7 g7 d7
      generalize upd Hz l _ = H7
      intro k7 g7 d7
      have hx7 := hx6.mono k7.t
      have gd7 := gd_app (gd_app gd5 o1) (all1 o2)
      have len7 : (rl ++ fX1 r ++ [fX2 r]).length = rl.length + 3 := by rw [List.length_append, List.length_append]; rfl
      generalize rl ++ fX1 r ++ [fX2 r] = rl' at *
      have k47 := k5.trans (k6.trans k7)
      have gp7 := k47.k _ _ np (s4 _ _ gp3)
      have hp7 := hp3.mono ((tp_same s4).trans k47.t)
      tm_at "go"
      refine s_forL ?_
      tm_at "go"
      refine rsl_list (.of gp7) fun lo H8 s8 n8 g8 => ?_
      obtain ⟨os, hos, los, os0⟩ := cut_rows (hp7.mono (tp_same s8)) (some 1) (some 2)
      have no : lo ≠ l := fun e => by rw [e, g7] at n8; cases n8
      have lco := hos.len
      rw [List.length_map] at lco
      have hx8 := hx7.mono (tp_same s8)
      refine ⟨lo, _, rfl, .of g8, fun j σ1 H' => ∃ (us : List V) (rl2 : List Rl) (w4 : Option V), σ1 = [some vc, some x, some (.ref lp), some (.ref l), w4] ∧ Kp l H8 H' ∧ H' l = some (.lst us) ∧ DtAll M.K H' us (rl2.map Rl.d) ∧ (∀ r ∈ rl2, Gd rs r) ∧ rl2.length ≤ rl.length + 3 + j, ⟨_, rl', _, rfl, Kp.refl _ _, s8 _ _ g7, d7.mono (tp_same s8), gd7, by omega⟩, ?_, ?_, ?_⟩
      · rintro j σ' H' _ ⟨us, rl2, w4, rfl, kk, _⟩
        exact .of (kk.k _ _ no g8)
      · rintro j y σ' H9 hy ⟨us, rl2, w4, rfl, k9, g9, d9, gd9, len9⟩
        obtain ⟨d, hd, hy'⟩ := hos.getV hy
        rw [List.getElem?_map] at hd
        obtain ⟨o, ho, rfl⟩ := Option.map_eq_some_iff.mp hd
        have hj : j < os.length := (List.getElem?_eq_some_iff.mp ho).1
        obtain ⟨om, zo⟩ := pl0 o (os0 o (List.mem_of_getElem? ho))
        have C := rowB A om
        have o3 := fX3_ok B z C zo
        have hy9 : Dt M.K H9 y (rowD o) := hy'.mono k9.t
        have hx9 := hx8.mono k9.t
        refine g_name (by tm_at "at") ?_
        tm_at "go"
        refine s_expr (e_app ?_)
        tm_at "go"
        refine ⟨l, _, rfl, g9, ?_⟩
        tm_at "mk"
        rename_i vz Hz sz hz
        obtain ⟨gy, fewy, k10, g10, d10⟩ := app_end (H' := Hz) (y := vz) (r1 := fX3 r o) g9 d9 (by tm_at "same") (by tm_at "dt") (by omega)
        refine ⟨_, gy, fewy, ?_⟩
        exact ⟨_, _, _, rfl, k9.trans k10, g10, d10, gd_app gd9 (all1 o3), by rw [List.length_append]; exact Nat.succ_le_succ len9⟩
      · rintro σ' H9 ⟨us, rl2, w4, rfl, k9, g9, d9, gd9, len9⟩
        exact ⟨_, rl2, _, _, rfl, k47.trans ((kp_same s8).trans k9), g9, d9, gd9, by omega⟩
    · rintro σ' H5 ⟨us, rl, v1, v4, rfl, k5, g5, d5, gd5, len5⟩
      exact ⟨_, _, _, _, rfl, (kp_same s4).trans k5, g5, d5, gd5, by omega⟩
  rintro _ H5 ⟨us5, rl5, v1, v4, rfl, k5, gl5, hl5, gd5, len5⟩
  tm_at "go"
  exact k l us5 rl5 H5 (same_kp s03 k5 nl) nl gl5 hl5 gd5 len5
end K

namespace K
open PySem L2 G
variable {M : Md}
/-! ### the law -/
theorem menus_ne : ∀ m ∈ menus, ∀ s ∈ m, s ≠ "" := by decide +kernel
def Ne1 (rs : List Row) : Prop := ∀ q ∈ rs, q.1 ≠ ""
theorem rows3_ne {most : Nat} {rs : List Row} (h : Rows3 most rs) : Ne1 rs := by
  obtain ⟨m, hm1, sub⟩ := h.nm
  exact fun r hr => menus_ne m hm1 _ (sub.subset (List.mem_map.mpr ⟨r, hr, rfl⟩))
theorem sms_ne : ∀ s ∈ sms, Ne1 s.rows := by
  have h : sms.all (fun s => s.rows.all fun r => decide (r.1 ≠ "")) = true := by decide +kernel
  intro s hs r hr
  exact of_decide_eq_true (List.all_eq_true.mp (List.all_eq_true.mp h s hs) r hr)
theorem lift_sts {L : List St1} : ∀ {es : List PyData}, (∀ e ∈ es, e ∈ L.map stD) → ∃ sts : List St1, es = sts.map stD ∧ ∀ st ∈ sts, st ∈ L
  | [], _ => ⟨[], rfl, fun _ h => nomatch h⟩
  | e :: es, h => by
    obtain ⟨st, h1, rfl⟩ := List.mem_map.mp (h e (List.mem_cons_self ..))
    obtain ⟨sts, rfl, h2⟩ := lift_sts fun e he => h e (List.mem_cons_of_mem _ he)
    refine ⟨st :: sts, rfl, fun s hs => ?_⟩
    rcases List.mem_cons.mp hs with rfl | hs
    · exact h1
    · exact h2 s hs
theorem many_pos {ps : List Rng} (h : ∀ p ∈ ps, 1 ≤ span p) : 1 ≤ many ps := by
  have : ∀ (l : List Nat) (a : Nat), 1 ≤ a → (∀ x ∈ l, 1 ≤ x) → 1 ≤ l.foldl (· * ·) a := by
    intro l
    induction l with
    | nil => intro a h _; exact h
    | cons x l ih =>
      intro a ha hl
      rw [List.foldl_cons]
      exact ih _ (Nat.mul_pos ha (hl x (List.mem_cons_self ..))) fun y hy => hl y (List.mem_cons_of_mem _ hy)
  refine this _ 1 (Nat.le_refl _) fun x hx => ?_
  obtain ⟨p, hp, rfl⟩ := List.mem_map.mp hx
  exact h p hp
theorem rowsShp {rs : List Row} (ri : RowsIn rs) : Shp 3 (cellsD rs) := by
  refine shp_tup fun d hd => ?_
  obtain ⟨r, hr, rfl⟩ := List.mem_map.mp hd
  refine shp_tup fun d hd => ?_
  rcases List.mem_cons.mp hd with rfl | hd
  · exact shp_str (ri.nm r hr)
  rcases List.mem_cons.mp hd with rfl | hd
  · exact shp_int _
  rcases List.mem_cons.mp hd with rfl | hd
  · exact shp_int _
  rcases List.mem_cons.mp hd with rfl | hd
  · exact shp_int _
  rcases List.mem_cons.mp hd with rfl | hd
  · exact shp_bl _
  rcases List.mem_cons.mp hd with rfl | hd
  · exact shp_bl _
  · rw [List.mem_singleton.mp hd]
    exact shp_int _
theorem rows_nil (rs : List Row) : PyData.eqv (cellsD rs) (.tuple []) = rs.isEmpty := by
  cases rs with
  | nil => rfl
  | cons r rs => rfl
/-- rows as the law goes over them -/
structure RsOk (rs : List Row) : Prop where
  all : RowsAll rs
  ne : Ne1 rs
  pos : 0 < rs.length
def gOne : PyData → Option PyData
  | .tuple [.tuple [], _, _, _] => none
  | .tuple [a, _, _, _] => some a
  | _ => none
def smR : List (List Row) := (sms.map Sm.rows).filter fun rs => !rs.isEmpty
theorem gOne_one (s : Sm) : gOne s.d = if s.rows.isEmpty = true then none else some (cellsD s.rows) := by
  obtain ⟨rows, rules, p, q⟩ := s
  cases rows <;> rfl
theorem gOne_all (l : List Sm) : (l.map Sm.d).filterMap gOne = ((l.map Sm.rows).filter fun rs => !rs.isEmpty).map cellsD := by
  induction l with
  | nil => rfl
  | cons s l ih =>
    rw [List.map_cons, List.filterMap_cons, gOne_one, List.map_cons, List.filter_cons]
    by_cases h : s.rows.isEmpty = true
    · rw [if_pos h, if_neg (by rw [h]; decide)]; exact ih
    · rw [if_neg h, if_pos (by simpa using h), List.map_cons, ← ih]
theorem smR_ok : ∀ rs ∈ smR, RsOk rs := by
  intro rs h
  obtain ⟨h1, h2⟩ := List.mem_filter.mp h
  obtain ⟨s, hs, rfl⟩ := List.mem_map.mp h1
  refine ⟨sms_all s hs, sms_ne s hs, ?_⟩
  cases e : s.rows with
  | nil => rw [e] at h2; cases h2
  | cons r rs => exact Nat.succ_pos _
def rRr : List PyData → PyData → Prop := fun ds d => ∃ (rs : List Row) (st : St1) (r : Rl), ds = [cellsD rs, r.d, stD st] ∧ RsOk rs ∧ StOk rs st ∧ Gd rs r ∧ d = .bool true
def spLaw (K : PySem.W.Frag) : Sp := fun vs H Q _ => ∃ (sl : Addr) (ns : List Int), vs = [.ref sl] ∧ SqL K H sl (ns.map V.int) ∧ ns.length ≤ 63 ∧ ∀ H', Q (.bl true) H'
set_option maxHeartbeats 4000000 in
theorem ok_law {f fd} (F : Fun M.K "law" "law" s_law f fd) (b : Bl M) (dfe : Dc M "_law_feed" ["_law_script"] 1 (spFeed M.K)) (dsm : Dc M "_law_samples" [] 1 (spSm M.K)) (dro : Dc M "_law_rows" ["_law_feed_here", "_law_most"] 3 (spD preRows rRows M.K)) (dru : Dc M "_law_rule" ["_law_feed_here", "_law_rows_here", "_law_name"] 6 (spD preRule rRule2 M.K))
    (dst : Dc M "_law_states" ["_law_rows_here"] 2 (spL rStates M.K)) (dso : Dc M "_law_some" ["_law_states_now", "_law_most"] 1 (spSome M.K)) (dfx : Dc M "_law_fixed" ["_law_rows_here"] 1 (spFx M.K)) (drr : DcQ M "_law_rule_right" ["_law_rows_here", "_law_rule_here", "_law_state"] 20 (spF rRr M.K)) :
    FnQ M.prog M.w M.K M.mg M.base CX0 21 f fd ["_law_script"] (spLaw M.K) := by
  refine fn_okQ F sc_law (fun vs H Q E h => ?_) (fun H vs Q E h => ?_)
  · obtain ⟨sl, ns, rfl, _⟩ := h
    rfl
  obtain ⟨sl, ns, rfl, hs, hl, k⟩ := h
  tm_at "go"
  refine e_call dfe ?_
  tm_at "go"
  refine ⟨sl, ns, rfl, hs, hl, fun fp cl H1 s1 n1 nc1 f1 => ?_⟩
  tm_at "go"
  refine e_lc (own := [("_law_good", 8)]) (Blk.of (N := N_law) (sc := defScope s_law) rfl rfl (by decide +kernel)) ?_
  refine lcL_F gOne ?_
  refine e_call0 dsm ?_
  refine ⟨rfl, fun l2 us2 H2 s2 n2 g2 h2 => ?_⟩
  refine ⟨l2, us2, _, rfl, .of g2, h2, by decide, fun d x H' hd s hx => ?_, fun l3 us3 H3 s3 n3 g3 h3 => ?_⟩
  · obtain ⟨m, hm, rfl⟩ := List.mem_map.mp hd
    have hxd : Dt M.K H' x (.tuple [cellsD m.rows, .tuple (m.rules.map Rl.d), m.pairs, m.starts]) := hx
    refine g_name (by tm_at "at") ⟨rfl, rfl, ts_one ?_⟩
    tm_at "go"
    refine rx_tup hxd (d := cellsD m.rows) rfl fun vc hc => ?_
    refine e_tupD ?_
    tm_at "go"
    refine tupend (ds := []) .nil (Nat.le_of_ble_eq_true rfl) fun v4 H4 s4 h4 => ?_
    refine ro_neD (hc.mono (tp_same s4)).dp h4.dp ((rowsShp (sms_all m hm).ri).ok (by decide)) (by decide) ?_
    rw [rows_nil]
    refine ⟨_, rfl, s4, ifb (fun c1 => ?_) (fun c1 => ?_)⟩
    · tm_at "go"
      refine rx_tup (hxd.mono (tp_same s4)) (d := cellsD m.rows) rfl fun vc2 hc2 => ?_
      exact ⟨Same.refl _, _, by rw [gOne_one, if_neg (by simpa using c1)], hc2⟩
    · rw [gOne_one, if_pos (by simpa using c1)]
  rw [gOne_all] at h3
  have f3 := f1.same (s2.trans s3)
  refine e_lc (own := [("_law_k", 2)]) (Blk.of (N := N_law) (sc := defScope s_law) rfl rfl (by decide +kernel)) ?_
  refine lc_R1 b.range ?_
  tm_at "go"
  refine ⟨by decide, fun D hD => ?_⟩
  have nD : D ≠ fp := ne_feed f3 (Same.refl _) hD
  have nDc : D ≠ cl := ne_cl f3 (Same.refl _) hD
  have nl : l3 ≠ fp := ne_feed f1 s2 n3
  have nc : l3 ≠ cl := ne_cl f1 s2 n3
  have nDl : D ≠ l3 := fresh_ne g3 (Same.refl _) hD
  refine ⟨fun j acc H' => ∃ rr : List (List Row), acc.length ≤ j ∧ rr.length = j ∧ Kp fp H3 H' ∧ Feed M.K H' fp cl ∧ H' D = some (.lst acc) ∧ DtAll M.K H' acc (rr.map cellsD) ∧ ∀ rs ∈ rr, RsOk rs, ?_, ?_, ?_, ?_⟩
  · exact ⟨[], Nat.le_refl _, rfl, kp_mut (Kp.refl _ _) hD, f3.upd nD nDc, upd_same, .nil, fun _ h => nomatch h⟩
  · rintro j acc H' ⟨rl, h, _⟩
    exact h
  · rintro j acc H6 hj ⟨rr, hl6, hle6, k6, f6, g6, h6, he6⟩
    refine g_name (by tm_at "at") ⟨rfl, ts_nil (ift ?_)⟩
    refine e_callD dro ?_
    tm_at "go"
    refine ⟨fp, cl, _, _, rfl, f6, .cons (.int 24) .nil, ⟨24, rfl, by decide, by decide⟩, ?_⟩
    rintro d v7 H7 ⟨most, rs, e1, rfl, R3⟩ k7 f7 hv7
    have em : most = 24 := by
      have := PyData.int.inj (List.cons.inj e1).1
      omega
    have A : RsOk rs := ⟨rows3_all R3 (by omega), rows3_ne R3, by rw [R3.len]; decide⟩
    have g7 := k7.k _ _ nD g6
    have ku := kp_upd (o' := .lst (acc ++ [v7])) g7 (fun _ e => nomatch e) (fun _ _ e => nomatch e)
    refine ⟨g7, rr ++ [rs], by rw [List.length_append]; exact Nat.succ_le_succ hl6, by rw [List.length_append, hle6]; rfl, kp_mut (k6.trans k7) hD, f7.upd nD nDc, upd_same, ?_, ?_⟩
    · rw [List.map_append]
      exact (h6.mono (k7.t.trans ku.t)).app (.cons (hv7.mono ku.t) .nil)
    · intro q hq
      rcases List.mem_append.mp hq with hq | hq
      · exact he6 q hq
      · rw [List.mem_singleton.mp hq]; exact A
  rintro acc H4 ⟨rr, hl4, hle4, k4, f4, g4, h4, he4⟩
  have g34 := k4.k _ _ nl g3
  have h34 := h3.mono k4.t
  have l34 := h34.len
  have l44 := h4.len
  rw [List.length_map] at l34 l44
  have lsm : ((sms.map Sm.rows).filter fun rs => !rs.isEmpty).length ≤ 7 := by decide +kernel
  refine ro_cat g34 g4 (by omega) fun lq H5 s5 n5 g5 => ?_
  have h5 : DtAll M.K H5 (us3 ++ acc) ((smR ++ rr).map cellsD) := by
    rw [List.map_append]
    exact (h34.mono (tp_same s5)).app (h4.mono (tp_same s5))
  have ok5 : ∀ rs ∈ smR ++ rr, RsOk rs := fun rs h => by
    rcases List.mem_append.mp h with h | h
    · exact smR_ok rs h
    · exact he4 rs h
  have f5 := f4.same s5
  have nq : lq ≠ fp := ne_feed f4 (Same.refl _) n5
  have nqc : lq ≠ cl := ne_cl f4 (Same.refl _) n5
  generalize smR ++ rr = rrs at *
  generalize us3 ++ acc = us5 at *
  tm_at "go"
  refine s_forL ?_
  tm_at "go"
  refine ⟨lq, us5, rfl, .of g5, fun i σ1 H' => ∃ (v2 v4 v5 v6 v7 : Option V), σ1 = [some (.ref sl), some (.ref fp), v2, some (.ref lq), v4, v5, v6, v7, none] ∧ Feed M.K H' fp cl ∧ H' lq = some (.lst us5) ∧ Tp H5 H', ⟨_, _, _, _, _, rfl, f5, g5, Tp.refl _⟩, ?_, ?_, ?_⟩
  · rintro i σ' H' _ ⟨v2, v4, v5, v6, v7, rfl, _, g, _⟩
    exact .of g
  · rintro i x σ' H6 hx ⟨v2, v4, v5, v6, v7, rfl, f6, g6, t6⟩
    obtain ⟨d, hd, hx'⟩ := h5.getV hx
    rw [List.getElem?_map] at hd
    obtain ⟨rs, hs0, rfl⟩ := Option.map_eq_some_iff.mp hd
    have so := ok5 rs (List.mem_of_getElem? hs0)
    have A := so.all
    have hr6 := hx'.mono t6
    refine g_name (by tm_at "at") ?_
    tm_at "go"
    refine e_callL dst ?_
    tm_at "go"
    refine ⟨_, _, .cons hr6 .nil, ⟨rs, rfl, A.sm, rfl⟩, fun l7 us7 H7 s7 n7 g7 h7 => ?_⟩
    have pos7 := many_pos fun p hp => (A.sm.sp p hp).1
    have len7 : (statesOf (rg rs)).length ≤ 256 := by rw [states_len]; exact A.sm.many
    have lus7 := h7.len
    rw [List.length_map] at lus7
    rw [← states_len] at pos7
    have hr7 := hr6.mono (tp_same s7)
    have f7 := f6.same s7
    have g67 := s7 _ _ g6
    have n7p : l7 ≠ fp := ne_feed f6 (Same.refl _) n7
    refine b_cut (fun σ1 H' => ∃ (w2 w6 w7 : Option V), σ1 = [some (.ref sl), some (.ref fp), w2, some (.ref lq), some x, some (.ref l7), w6, w7, none] ∧ Kp fp H7 H' ∧ Feed M.K H' fp cl) ?_ ?_
    · refine s_forR1 b.range ?_
      tm_at "go"
      refine ⟨by decide, by decide, fun i σ1 H' => ∃ (w2 w6 w7 : Option V), σ1 = [some (.ref sl), some (.ref fp), w2, some (.ref lq), some x, some (.ref l7), w6, w7, none] ∧ Kp fp H7 H' ∧ Feed M.K H' fp cl, ⟨_, _, _, rfl, Kp.refl _ _, f7⟩, ?_, ?_⟩
      · rintro j σ' H8 hj ⟨w2, w6, w7, rfl, k8, f8⟩
        refine g_name (by tm_at "at") ?_
        tm_at "go"
        refine e_callD dru ?_
        tm_at "go"
        refine ⟨fp, cl, _, _, rfl, f8, .cons (hr7.mono k8.t) (.cons (.str _) .nil), ⟨rs, "rule", rfl, A.ri, so.pos, by decide +kernel⟩, ?_⟩
        rintro d vu H9 ⟨rs', nm, r, e2, rfl, fit, two, gd2⟩ k9 f9 hvu
        obtain rfl : rs = rs' := cellsD_inj (List.cons.inj e2).1
        have gr : Gd rs r := ⟨fit, two, gd2⟩
        have k79 := k8.trans k9
        have g79 := k79.k _ _ n7p g7
        have h79 := h7.mono k79.t
        have hr9 := hr7.mono k79.t
        tm_at "go"
        refine s_forL ?_
        refine e_call dso ?_
        tm_at "go"
        refine rc_lenL (.of g79) ?_
        refine ro_mod (by omega) ?_
        tm_at "go"
        refine rsl_list (.of g79) fun ld Hd sd nd gd => ?_
        have hcut : ∀ lo : Option Int, DtAll M.K Hd (cutV us7 lo none) ((cutD (statesOf (rg rs)) lo none).map stD) := fun lo => by
          have h := h79.mono (tp_same sd)
          have hle := h.len
          rw [← cutD_map]
          unfold cutV cutD
          rw [hle]
          exact DtAll.take _ (DtAll.drop _ h)
        tm_at "go"
        refine ⟨ld, _, _, 3, rfl, by decide, gd, hcut _, ?_, fun le use es' He se ne ge he me lene => ?_⟩
        · rw [List.length_map]
          exact Nat.le_trans (cutD_sub ..).length_le (by omega)
        have s9e := sd.trans se
        obtain ⟨sts, rfl, hsub⟩ := lift_sts me
        have hin : ∀ st ∈ sts, StOk rs st := fun st h => states_ok A st ((cutD_sub ..).subset (hsub st h))
        refine ⟨le, use, rfl, .of ge, fun i σ1 H' => ∃ (v11 : Option V), σ1 = [some (.ref sl), some (.ref fp), some (.int (j : Int)), some (.ref lq), some x, some (.ref l7), some vu, v11, none] ∧ Same He H', ⟨_, rfl, Same.refl _⟩, ?_, ?_, ?_⟩
        · rintro i σ' H' _ ⟨v11, rfl, s⟩
          exact .of (s _ _ ge)
        · rintro i z σ' Hf hz ⟨v11, rfl, sf⟩
          obtain ⟨d, hd, hz'⟩ := he.getV hz
          rw [List.getElem?_map] at hd
          obtain ⟨st, hst0, rfl⟩ := Option.map_eq_some_iff.mp hd
          have S := hin st (List.mem_of_getElem? hst0)
          have s9f := s9e.trans sf
          refine g_name (by tm_at "at") ?_
          tm_at "go"
          refine t_val ?_
          refine e_callQ drr ?_
          tm_at "go"
          refine ⟨_, _, .cons (hr9.mono (tp_same s9f)) (.cons (hvu.mono (tp_same s9f)) (.cons (hz'.mono (tp_same sf)) .nil)), ⟨rs, st, r, rfl, so, S, gr, rfl⟩, fun vg Hg sg hg => ?_⟩
          cases hg
          refine ⟨true, rfl, iff0 ?_⟩
          tm_at "go"
          exact sf.trans sg
        · rintro σ' Hf ⟨v11, rfl, sf⟩
          exact ⟨_, _, _, rfl, k79.trans (kp_same (s9e.trans sf)), f9.same (s9e.trans sf)⟩
      · rintro σ' H8 ⟨w2, w6, w7, rfl, k8, f8⟩
        exact ⟨_, _, _, rfl, k8, f8⟩
    rintro _ H8 ⟨w2, w6, w7, rfl, k8, f8⟩
    have g78 := k8.k _ _ n7p g7
    have h78 := h7.mono k8.t
    have hr8 := hr7.mono k8.t
    have g68 := k8.k _ _ nq g67
    tm_at "go"
    refine s_forL ?_
    refine e_call dfx ?_
    tm_at "go"
    refine ⟨rs, x, rfl, hr8, A, fun lf usf rlf H9 s9 n9 g9 h9 gd9 len9 => ?_⟩
    refine ⟨lf, usf, rfl, .of g9, fun i σ1 H' => ∃ (w6 : Option V), σ1 = [some (.ref sl), some (.ref fp), w2, some (.ref lq), some x, some (.ref l7), w6, w7, none] ∧ Same H9 H', ⟨_, rfl, Same.refl _⟩, ?_, ?_, ?_⟩
    · rintro i σ' H' _ ⟨w6, rfl, s⟩
      exact .of (s _ _ g9)
    · rintro j y σ' Ha hy ⟨w6, rfl, sa⟩
      obtain ⟨d, hd, hy'⟩ := h9.getV hy
      rw [List.getElem?_map] at hd
      obtain ⟨r, hr0, rfl⟩ := Option.map_eq_some_iff.mp hd
      have gr := gd9 r (List.mem_of_getElem? hr0)
      have s8a := s9.trans sa
      have hlast : ∃ st ∈ statesOf (rg rs), ∃ u, us7[us7.length - 1]? = some u ∧ Dt M.K Ha u (stD st) := by
        have hlt : (statesOf (rg rs)).length - 1 < (statesOf (rg rs)).length := by omega
        obtain ⟨u, hu, hd⟩ := h78.get (i := (statesOf (rg rs)).length - 1) (by rw [List.getElem?_map, List.getElem?_eq_getElem hlt]; rfl)
        exact ⟨_, List.getElem_mem hlt, u, by rw [lus7]; exact hu, hd.mono (tp_same s8a)⟩
      obtain ⟨st, hst, u, hu, hdu⟩ := hlast
      refine g_name (by tm_at "at") ?_
      tm_at "go"
      refine t_val ?_
      refine e_callQ drr ?_
      refine a_cons (e_var (by tm_at "at") (a_cons (e_var (by tm_at "at") (a_cons (e_ix ?_)))))
      tm_at "go"
      refine rx_list (v := u) (.of (s8a _ _ g78)) ?_ ?_
      · unfold atI ixN
        rw [if_neg (by decide), if_pos (by omega)]
        have e : (-1 + (us7.length : Int)).toNat = us7.length - 1 := by omega
        simpa [e] using hu
      tm_at "go"
      refine ⟨_, _, .cons (hr8.mono (tp_same s8a)) (.cons (hy'.mono (tp_same sa)) (.cons hdu .nil)), ⟨rs, st, r, rfl, so, states_ok A st hst, gr, rfl⟩, fun vg Hg sg hg => ?_⟩
      cases hg
      refine ⟨true, rfl, iff0 ?_⟩
      tm_at "go"
      exact sa.trans sg
    · rintro σ' Ha ⟨w6, rfl, sa⟩
      exact ⟨_, _, _, _, _, rfl, f8.same (s9.trans sa), (s9.trans sa) _ _ g68, t6.trans ((tp_same s7).trans (k8.t.trans (tp_same (s9.trans sa))))⟩
  · rintro σ' H6 ⟨v2, v4, v5, v6, v7, rfl, f6, g6, t6⟩
    tm_at "go"
    exact k _
end K

namespace G
open PySem PySem.Spec PyProof.Rows L2
/-! ### objects: attributes, methods, calls of an object, making one with keywords -/
abbrev noE : XK := fun _ _ _ => False
theorem pass0 {X : Cx} : Passes CX0 X noE := fun _ _ _ _ _ _ _ z => z.elim
section
variable {c : Cd} {σ : L2.St} {H : Hp} {Q : VK} {pos apos : Pos}
theorem e_fld {e : Expr} {f : Str} (q : RE c e σ H fun x H1 => ∃ a C dx fs v, x = .ref a ∧ H1 a = some (.ins C dx fs) ∧ Cls c.K C ∧ NoAttr c.K C f ∧ fs.lookup f = some v ∧ Q v H1) (hb : ∀ env, attributeBase e f env (eval e env) = eval e env := by intro _; rfl) :
    RE c (.Attribute e f pos) σ H Q :=
  re_of (t := tFld c.K (RE c e) f) (fun X h => by rw [← h.K]; exact pe_fld (pe_re h) (hb _)) q
theorem s_fld {o value : Expr} {f : Str} {D : Ends} (q : RE c value σ H fun y H1 => RE c o σ H1 fun x H2 => ∃ a C dx fs, x = .ref a ∧ H2 a = some (.ins C dx fs) ∧ Cls c.K C ∧ NoAttr c.K C f ∧ fs.length < 1000 ∧ D.nx σ (upd H2 a (.ins C dx (putF f y fs))))
    (hs : ∀ env, swapsWith value (some (.Attribute o f apos)) pos.line env = pure false := by intro _; rfl) : RS c (.Assign [.Attribute o f apos] value pos) D σ H :=
  rs_of (t := sFld c.K (RE c o) (RE c value) f) (fun X h => by rw [← h.K]; exact ps_fld (pe_re h) (pe_re h) (hs _)) q
/-- a method -/
structure DcM (c : Md) (C : Addr) (m : Str) (ps : List Str) (k : Nat) (sp : Sp) : Prop where
  ex : ∃ (f : Addr) (fd : FuncData), FnG c.prog c.w c.K c.mg c.base CX0 k f fd ps sp ∧ Cls c.K C ∧ Meth c.K C m f ∧ Binds c.K fd ps []
theorem e_meth {C : Addr} {m : Str} {o e : Expr} {es : List Expr} {ps : List Str} {k : Nat} {sp : Sp} {pl : Env → Sem Bool} (D : DcM c.toMd C m ps k sp) (q : RE c o σ H fun x H1 => ∃ a dx fs, x = .ref a ∧ H1 a = some (.ins C dx fs) ∧ fs.lookup m = none ∧ RA c (e :: es) σ H1 fun vs H2 => sp (x :: vs) H2 Q noE)
    (ht : ∀ env, eval (.Call (.Attribute o m apos) (e :: es) [] pos) env = (do
      let ov ← eval o env
      standAt apos.atName
      let (f, first) ← holding [ov] (getMethod ov m (pl env))
      callWith pos f first (backTo pos (starEach (e :: es) env)) (backToKw pos (keywordEach [] env))))
    (hk : k ≤ c.k := by exact Nat.le_of_ble_eq_true rfl) (he : ∀ env, starEach (e :: es) env = (false, eval e env) :: starEach es env := by intro _; rfl) (hpl : ∀ env, (backTo pos (starEach es env)).any (·.1) = false := by intro _; rfl) :
    RE c (.Call (.Attribute o m apos) (e :: es) [] pos) σ H Q := by
  obtain ⟨f, fd, F, hc, hm, hb⟩ := D.ex
  refine re_of (t := tMeth C m sp [] noE (RE c o) (RA c (e :: es))) (fun X h => ?_) ?_
  · refine pe_meth (CX := CX0) (k := k) (f := f) (fd := fd) (ps := ps) (ds := []) (pe_re h) (by rw [h.K]; exact hc) (by rw [h.K]; exact hm) ?_ (h.room.mono hk) (by rw [h.K]; exact hb) .nil pass0 (pa_ra h) (he _) (hpl _) (ht _)
    rw [h.prog, h.w, h.K, h.mg, h.base]; exact F
  · refine RE.mono (fun x H1 z => ?_) q
    obtain ⟨a, dx, fs, e1, e2, e3, z⟩ := z
    refine ⟨a, dx, fs, e1, e2, e3, ?_⟩
    simpa only [List.append_nil] using z
/-- an object is called -/
structure DcC (c : Md) (C : Addr) (k : Nat) (sp : Sp) : Prop where
  ex : ∃ g : Addr, StX.CallO c.K C g ∧ FnR c.prog c.w c.K c.mg c.base CX0 k g sp
theorem e_callO {C : Addr} {fe e : Expr} {es : List Expr} {k : Nat} {sp : Sp} (D : DcC c.toMd C k sp) (q : RE c fe σ H fun y H1 => ∃ a, y = .ref a ∧ RA c (e :: es) σ H1 fun vs H2 => (∃ dx fs, H2 a = some (.ins C dx fs)) ∧ sp (.ref a :: vs) H2 Q noE)
    (ht : ∀ env, eval (.Call fe (e :: es) [] pos) env = (do callWith pos (← eval fe env) [] (backTo pos (starEach (e :: es) env)) (backToKw pos (keywordEach [] env))) := by intro _; rfl)
    (hk : k ≤ c.k := by exact Nat.le_of_ble_eq_true rfl) (he : ∀ env, starEach (e :: es) env = (false, eval e env) :: starEach es env := by intro _; rfl) (hpl : ∀ env, (backTo pos (starEach es env)).any (·.1) = false := by intro _; rfl) :
    RE c (.Call fe (e :: es) [] pos) σ H Q := by
  obtain ⟨g, hc, F⟩ := D.ex
  refine re_of (t := fun σ H Q => RE c fe σ H fun y H1 => ∃ a, y = .ref a ∧ RA c (e :: es) σ H1 fun vs H2 => (∃ dx fs, H2 a = some (.ins C dx fs)) ∧ sp (.ref a :: vs) H2 Q noE) (fun X h => ?_) q
  have z : PE X (.Call fe (e :: es) [] pos) (StX.tCallO X C sp noE (RE c fe) (RA c (e :: es))) := by
    refine StX.pe_callO (CX := CX0) (k := k) (g := g) (pe_re h) (by rw [h.K]; exact hc) ?_ (h.room.mono hk) pass0 (pa_ra h) (ht _) (he _) (hpl _)
    rw [h.prog, h.w, h.K, h.mg, h.base]; exact F
  refine ⟨fun pins s σ H Q I q => z.run pins s σ H Q I (RE.mono (fun y H1 r => ?_) q)⟩
  obtain ⟨a, e1, r⟩ := r
  refine ⟨a, e1, RA.mono (fun vs H2 r => ?_) r⟩
  exact ⟨.inr r.1, r.2⟩
/-- a class that is made with places and keywords -/
structure DcO (c : Md) (x : Str) (C : Addr) (n : Nat) (ks : List Str) (k : Nat) (sp : List V → List V → Hp → VK → Prop) : Prop where
  ex : ∃ f : Addr, Mk c.K C f ∧ c.mg x = some (.ref C) ∧ ∀ (A : Around) (up : List Env) (s : Shared) (H : Hp) (us ws : List Value) (vs zs : List V) (Q : VK), Room k A → Env0 c.prog c.w c.K c.mg c.base A up s H → Vals vs us → Vals zs ws → vs.length = n + 1 → zs.length = ks.length → sp vs zs H Q →
    codeAny (model c.prog c.w) A (.call (.ref f) ⟨us, ks.zip ws⟩) (CR CX0 up c.prog c.w H s Q noE) s
theorem e_make {x : Str} {C : Addr} {p : Pos} {e : Expr} {es : List Expr} {kws : List Keyword} {ks : List Str} {n k : Nat} {sp : List V → List V → Hp → VK → Prop} (D : DcO c.toMd x C n ks k sp)
    (q : RA c (e :: es) σ H fun vs H0 => RPK c kws σ H0 fun zs H1 => vs.length = n ∧ zs.length = ks.length ∧ ∀ x dx, H1 x = none → H1 dx = none → dx ≠ x → sp (.ref x :: vs) zs (upd (upd H1 dx (.own x)) x (.ins C dx [])) (fun v H2 => v = .non ∧ Q (.ref x) H2))
    (hk : k + 1 ≤ c.k := by exact Nat.le_of_ble_eq_true rfl) (hg : c.sc.names.lookup x = some .globalImplicit := by rfl)
    (h1 : ∀ env, (backToKw pos (keywordEach kws env)).all (·.1.isSome) = true := by intro _; rfl) (h2 : ∀ env, (backToKw pos (keywordEach kws env)).filterMap (·.1) = ks := by intro _; rfl) (hdb : (x == ("__debug__" : Str)) = false := by decide)
    (h3 : ∀ env, ((backTo pos (starEach (e :: es) env)).any (·.1) || (backToKw pos (keywordEach kws env)).any (·.1.isNone)) = false := by intro _; rfl) (h4 : ∀ env, starEach (e :: es) env = (false, eval e env) :: starEach es env := by intro _; rfl) : RE c (.Call (.Name x p) (e :: es) kws pos) σ H Q := by
  obtain ⟨f, M, hm, F⟩ := D.ex
  refine re_of (t := fun σ H Q => RA c (e :: es) σ H fun vs H0 => RPK c kws σ H0 fun zs H1 => vs.length = n ∧ zs.length = ks.length ∧ ∀ x dx, H1 x = none → H1 dx = none → dx ≠ x → sp (.ref x :: vs) zs (upd (upd H1 dx (.own x)) x (.ins C dx [])) (fun v H2 => v = .non ∧ Q (.ref x) H2)) (fun X h => ?_) q
  have gl := gl_of h hg
  have hm' : X.mg x = some (.ref C) := by rw [h.mg]; exact hm
  have M' : Mk X.K C f := by rw [h.K]; exact M
  constructor
  intro pins st σ H Q J z
  apply wpAny_Call_Name_kw
  apply ld_glob J gl hm' _ hdb
  refine PySem.W.callWith_KW (h₀ := X.base) J.ok.mod.kin M'.kp (h1 _) ?_ (h3 _) (h4 _)
  refine thn ((pa_ra h (es := e :: es)).run pos pins st σ H _ J z) fun us s0 ⟨vs, H0, J0, rv, z0⟩ => ?_
  refine thn ((pk_rk h (es := kws)).run pos pins s0 σ H0 _ J0 z0) fun ws s1 ⟨zs, H1, J1, rz, lv, lz, q⟩ => ⟨J1.kIn, ?_⟩
  rw [h2]
  have hq := q (s1.heap.objs.size + 1) s1.heap.objs.size (J1.hok.fresh (Nat.le_succ _)) (J1.hok.fresh (Nat.le_refl _)) (Nat.ne_of_lt (Nat.lt_succ_self _))
  have I2 := Inv.made (C := C) J1
  have r2 : Vals (V.ref (s1.heap.objs.size + 1) :: vs) (Value.ref (s1.heap.objs.size + 1) :: us) := .cons rfl rv
  have hr : Room (k + 1) X.A := h.room.mono hk
  have F' := F
  rw [← h.prog, ← h.w, ← h.K, ← h.mg, ← h.base] at F'
  refine wpAny_call (make_map (f := f) J1.kIn M'.makes M'.init (beq_iff_eq.mp M'.fn) (codeAny_mono (F' _ X.stack _ _ (Value.ref (s1.heap.objs.size + 1) :: us) ws _ zs _ (hr.make C us (ks.zip ws)) (I2.env0.make C us (ks.zip ws)) r2 rz (by rw [List.length_cons, lv]) lz hq) fun r s' hq' => ?_))
  match r, hq' with
  | .ok (.ret u), hq' =>
    obtain ⟨v, H', I3, rv, ev, q3⟩ := I2.after hq'
    subst ev
    exact ⟨rv, ⟨V.ref (s1.heap.objs.size + 1), H', I3, rfl, q3⟩⟩
end
end G

namespace K
open PySem PySem.Spec PyProof.Rows L2 G
variable {M : Md}
/-! ### the program's Rule -/
structure Bx (M : Md) : Prop where
  ex : ∃ C, M.mg "Expression" = some (.ref C) ∧ PySem.W.kitOne M.K (.type "int") (.ref C) = some false ∧ PySem.W.kitOne M.K (.type "str") (.ref C) = some false ∧ PySem.W.kitOne M.K (.type "tuple") (.ref C) = some false
theorem rc_isiC {c : Cd} {H : Hp} {Q : VK} {v : V} {d : PyData} {C : Addr} (hp : plainD d) (hx : Dt c.K H v d) (ki : PySem.W.kitOne c.K (.type "int") (.ref C) = some false) (ks : PySem.W.kitOne c.K (.type "str") (.ref C) = some false) (kt : PySem.W.kitOne c.K (.type "tuple") (.ref C) = some false)
    (q : Q (.bl false) H) : RC c (.builtin "isinstance") [v, .ref C] H Q := by
  have go : ∀ {t : Value}, TyX c.K H v t → PySem.W.kitOne c.K t (.ref C) = some false → RC c (.builtin "isinstance") [v, .ref C] H Q := fun ty e =>
    rc_of (r := rIsi c.K) (fun X h => by rw [← h.K]; exact call_isi) ⟨v, _, _, _, false, rfl, .own C, ty, e, q⟩
  cases d with
  | int i => cases hx; exact go (.base (.int i)) ki
  | str s => cases hx; exact go (.base (.str s)) ks
  | tuple ds => obtain ⟨a, xs, rfl, ht, _⟩ := hx.tupE; exact go (ty_tup ht) kt
  | none => exact hp.elim
  | bool => exact hp.elim
  | list => exact hp.elim
  | dict => exact hp.elim
def rFof : List PyData → PyData → Prop := fun ds d => ds = [d] ∧ plainD d
theorem ok_formof {f fd} (F : Fun M.K "form_of" "form_of" s_form_of f fd) (b : Bl M) (bx : Bx M) : FnG M.prog M.w M.K M.mg M.base CX0 1 f fd ["thing"] (spF rFof M.K) := by
  refine fn_ok F sc_form_of (fun vs H Q E h => ?_) (fun H vs Q E h => ?_)
  · obtain ⟨ds, d, h, ⟨rfl, _⟩, _⟩ := h
    exact h.len
  obtain ⟨ds, d, h, ⟨rfl, p⟩, k⟩ := h
  obtain _ | ⟨hv, h⟩ := h
  cases h
  obtain ⟨C, hm, ki, ks, kt⟩ := bx.ex
  tm_at "go"
  refine t_val ?_
  tm_at "go"
  refine e_glob hm (v := .ref C) rfl ?_
  tm_at "go"
  refine rc_isiC p hv ki ks kt ?_
  refine ⟨_, rfl, ?_⟩
  tm_at "go"
  exact k _ _ (Same.refl _) hv
/-- a target: a name, or a table's name with a key -/
def tgD : PyData → Prop
  | .str _ => True
  | .tuple ds => (∀ d ∈ ds, plainD d) ∧ ds.length ≤ 10
  | _ => False
theorem tgD.plain {d : PyData} (h : tgD d) : plainD d := by
  cases d <;> first | exact True.intro | exact h.elim
def rTof : List PyData → PyData → Prop := fun ds d => ds = [d] ∧ tgD d
theorem filt_some : ∀ ds : List PyData, ds.filterMap some = ds
  | [] => rfl
  | d :: ds => by rw [List.filterMap_cons, filt_some ds]
theorem ok_tform {f fd} (F : Fun M.K "_target_form" "_target_form" s__target_form f fd) (b : Bl M) (bx : Bx M) (df : Dc M "form_of" ["thing"] 1 (spF rFof M.K)) : FnG M.prog M.w M.K M.mg M.base CX0 2 f fd ["target"] (spF rTof M.K) := by
  refine fn_ok F sc__target_form (fun vs H Q E h => ?_) (fun H vs Q E h => ?_)
  · obtain ⟨ds, d, h, ⟨rfl, _⟩, _⟩ := h
    exact h.len
  obtain ⟨ds, d, h, ⟨rfl, p⟩, k⟩ := h
  obtain _ | ⟨hv, h⟩ := h
  cases h
  obtain ⟨C, hm, ki, ks, kt⟩ := bx.ex
  tm_at "go"
  refine t_val ?_
  tm_at "go"
  refine e_glob hm (v := .ref C) rfl ?_
  tm_at "go"
  refine rc_isiC p.plain hv ki ks kt ?_
  refine ⟨_, rfl, ?_⟩
  tm_at "go"
  refine t_val ?_
  tm_at "go"
  refine e_bltn (v := .ty "tuple") (u := .type "tuple") b.tuple (by decide +kernel) rfl ?_
  tm_at "go"
  cases d with
  | str s =>
    cases hv
    refine rc_isi (.base (.str s)) rfl ?_
    refine ⟨_, rfl, ?_⟩
    tm_at "go"
    exact k _ _ (Same.refl _) (.str s)
  | tuple ds =>
    obtain ⟨a, xs, e, ht, _⟩ := hv.tupE
    subst e
    refine rc_isi (ty_tup ht) rfl ?_
    refine ⟨_, rfl, ?_⟩
    tm_at "go"
    refine e_lc (own := [("part", 1)]) (Blk.of (N := N__target_form) (sc := defScope s__target_form) rfl rfl (by decide +kernel)) ?_
    refine lcT_F some ?_
    tm_at "go"
    refine ⟨ds, hv, Nat.le_trans p.2 (Nat.le_of_ble_eq_true rfl), fun d x H' hd s hx => ?_, fun l us H2 s2 n2 g2 h2 => ?_⟩
    · refine g_name (by tm_at "at") ?_
      refine ⟨rfl, rfl, ?_⟩
      refine ts_nil ?_
      refine ⟨Same.refl _, ?_⟩
      show RE _ _ _ _ _
      tm_at "go"
      refine e_callF df ?_
      tm_at "go"
      refine ⟨_, _, .cons hx .nil, ⟨rfl, p.1 d hd⟩, fun v H1 s1 hv1 => ?_⟩
      exact ⟨s1, d, rfl, hv1⟩
    · rw [filt_some] at h2
      tm_at "go"
      refine rc_tupL (.of g2) h2 fun v3 H3 s3 h3 => ?_
      exact k _ _ (s2.trans s3) h3
  | _ => exact p.elim
end K

namespace K
open PySem PySem.Spec PyProof.Rows L2 G
variable {M : Md}
theorem bindR (kV doc pm : Value) (an : Option Addr) (cdv ct a b g r : Value) (rs : List Value) : bindArgs (PySem.W.fnOf "__init__" "Rule.__init__" (defArgs s_R_init) (defBody s_R_init) (defScope s_R_init) .none kV doc pm an cdv ct) ⟨a :: b :: r :: rs, [("guard", g)]⟩ =
    (newTuple (r :: rs) >>= fun t => pure ([("self", a), ("name", b), ("guard", g), ("assignments", t)] : List (Str × Value))) := by rfl
def lotD (d : PyData) : Prop := ∃ t e, d = .tuple [t, e] ∧ tgD t ∧ plainD e
def gLot : PyData → Option PyData := some
def spInit (C : Addr) (K : PySem.W.Frag) (vs zs : List V) (H : Hp) (Q : VK) : Prop := ∃ (x dx : Addr) (vn r : V) (rs : List V) (vg : V) (n : Str) (gd : PyData) (ds : List PyData), vs = .ref x :: vn :: r :: rs ∧ zs = [vg] ∧ H x = some (.ins C dx []) ∧ Dt K H vn (.str n) ∧ Dt K H vg gd ∧ plainD gd ∧ DtAll K H (r :: rs) ds ∧ (∀ d ∈ ds, lotD d) ∧ ds.length ≤ 10 ∧
  ∀ H' v, Kp x H H' → H' x = some (.ins C dx [("_form", v)]) → Dt K H' v (.tuple [.str n, gd, .tuple ds]) → Q .non H'
structure RuleC (K : PySem.W.Frag) (C : Addr) : Prop where
  cls : Cls K C
  noat : NoAttr K C "_form"
set_option maxHeartbeats 2000000 in
theorem init_body {C : Addr} (b : Bl M) (rc : RuleC M.K C) (df : Dc M "form_of" ["thing"] 1 (spF rFof M.K)) (dt : Dc M "_target_form" ["target"] 2 (spF rTof M.K)) {H : Hp} {x dx p : Addr} {vn vg : V} {xs : List V} {n : Str} {gd : PyData} {ds : List PyData} {Q : VK}
    (hx : H x = some (.ins C dx [])) (hn : Dt M.K H vn (.str n)) (hg : Dt M.K H vg gd) (pg : plainD gd) (hp : H p = some (.tup xs)) (hd : DtAll M.K H xs ds) (hl : ∀ d ∈ ds, lotD d) (h10 : ds.length ≤ 10)
    (k : ∀ H' v, Kp x H H' → H' x = some (.ins C dx [("_form", v)]) → Dt M.K H' v (.tuple [.str n, gd, .tuple ds]) → Q .non H') :
    RB ⟨M, N_R_init, defScope s_R_init, 2, true, false⟩ (defBody s_R_init) { nx := fun _ H' => Q .non H', rt := Q } (start N_R_init [.ref x, vn, vg, .ref p]) H := by
  refine b_cons (s_setLc (own := [("target", 5), ("value", 6)]) (by tm_at "at") (Blk.of (N := N_R_init) (sc := defScope s_R_init) rfl rfl (by decide +kernel)) ?_)
  refine lcT_F some ?_
  tm_at "go"
  refine ⟨ds, .tup (.inl (.inl hp)) hd, Nat.le_trans h10 (Nat.le_of_ble_eq_true rfl), fun d x H' hd' s hx' => ?_, fun l us H2 s2 n2 g2 h2 => ?_⟩
  · obtain ⟨t, e, rfl, ht, he⟩ := hl d hd'
    refine g_unp2 (by tm_at "at") (by tm_at "at") hx' fun v1 v2 h1 h2 => ?_
    refine ⟨rfl, rfl, ts_nil ?_⟩
    refine ⟨Same.refl _, ?_⟩
    show RE _ _ _ _ _
    refine e_tupD ?_
    tm_at "go"
    refine e_callF dt ?_
    tm_at "go"
    refine ⟨_, _, .cons h1 .nil, ⟨rfl, ht⟩, fun v3 H3 s3 h3 => ?_⟩
    tm_at "go"
    refine e_callF df ?_
    tm_at "go"
    refine ⟨_, _, .cons (h2.mono (tp_same s3)) .nil, ⟨rfl, he⟩, fun v4 H4 s4 h4 => ?_⟩
    tm_at "go"
    refine ⟨_, .cons (h3.mono (tp_same s4)) (.cons h4 .nil), (Nat.le_of_ble_eq_true rfl), fun v5 H5 s5 h5 => ?_⟩
    exact ⟨s3.trans (s4.trans s5), _, rfl, h5⟩
  · rw [filt_some] at h2
    tm_at "go"
    refine s_fld ?_
    refine e_tupD ?_
    tm_at "go"
    refine e_callF df ?_
    tm_at "go"
    refine ⟨_, _, .cons (hg.mono (tp_same s2)) .nil, ⟨rfl, pg⟩, fun v3 H3 s3 h3 => ?_⟩
    tm_at "go"
    refine rc_tupL (.of (s3 _ _ g2)) (h2.mono (tp_same s3)) fun v4 H4 s4 h4 => ?_
    tm_at "go"
    refine ⟨_, .cons (hn.mono (tp_same (s2.trans (s3.trans s4)))) (.cons (h3.mono (tp_same s4)) (.cons h4 .nil)), (Nat.le_of_ble_eq_true rfl), fun v5 H5 s5 h5 => ?_⟩
    tm_at "go"
    have s25 := s2.trans (s3.trans (s4.trans s5))
    have hx5 := s25 _ _ hx
    refine ⟨x, C, dx, [], rfl, hx5, rc.cls, rc.noat, (Nat.le_of_ble_eq_true rfl), ?_⟩
    have ku := kp_upd (o' := .ins C dx (putF "_form" v5 [])) hx5 (fun _ e => nomatch e) (fun _ _ e => nomatch e)
    tm_at "go"
    exact k _ v5 ((kp_same s25).trans ku) upd_same (h5.mono ku.t)
theorem ok_init {C f : Addr} {fd : FuncData} (F : Fun M.K "__init__" "Rule.__init__" s_R_init f fd) (hm : M.mg "Rule" = some (.ref C)) (mk : Mk M.K C f) (b : Bl M) (rc : RuleC M.K C) (df : Dc M "form_of" ["thing"] 1 (spF rFof M.K)) (dt : Dc M "_target_form" ["target"] 2 (spF rTof M.K)) (n : Nat) (hn : 0 < n) :
    DcO M "Rule" C (n + 1) ["guard"] 3 (spInit C M.K) := by
  refine ⟨⟨f, mk, hm, fun A up s H us ws vs zs Q hr e0 r1 r2 l1 l2 want => ?_⟩⟩
  obtain ⟨x, dx, vn, r, rs, vg, nm, gd, ds, rfl, rfl, hx, hnm, hg, pg, hd, hl, h10, k⟩ := want
  obtain ⟨oc, od, kV, doc, pm, an, cdv, ct, osl, rfl, lk, hcd⟩ := F.ex
  match us, r1 with
  | a :: b' :: us, .cons ra (.cons rb rrest) =>
  match ws, r2 with
  | [g], .cons rg .nil =>
  match us, rrest with
  | u :: us, .cons ru rus =>
  have rest : Vals (r :: rs) (u :: us) := .cons ru rus
  have hfree : H s.heap.objs.size = none := e0.hok.fresh (Nat.le_refl _)
  have hlen : (u :: us).length ≤ sizeLine := by
    rw [← rest.length, hd.len]
    exact Nat.le_trans h10 (by rw [sizeLine_eq]; decide)
  have hlen' : (r :: rs).length ≤ sizeLine := by rw [rest.length]; exact hlen
  refine StX.run_bnd lk hcd sc_R_init hr e0 (G := fun xs H2 => ∃ p, H p = none ∧ xs = [.ref x, vn, vg, V.ref p] ∧ H2 = upd H p (.tup (r :: rs))) (fun A' Ex Q' h => ?_) fun s2 H2 xs ⟨p, hp, ex, eH⟩ hr' => ?_
  · show wpAny _ _ (bindArgs _ ⟨a :: b' :: u :: us, [("guard", g)]⟩) _ _ _
    rw [bindR]
    refine wpAny_bind (wpAny_newTuple (wpAny_pure ?_) hlen)
    have new : ObjOk M.prog M.w (upd H s.heap.objs.size (.tup (r :: rs))) (s.heap.push ({ cls := .type "tuple", data := .seq (u :: us).toArray } : Obj)) s.heap.objs.size (.tup (r :: rs)) := ⟨hlen', u :: us, rest, ⟨_, Heap.get?_push_size _ rfl, rfl, _, rfl⟩⟩
    have un := StX.un_laid (fs := frs up) (s := s) (o := ({ cls := .type "tuple", data := .seq (u :: us).toArray } : Obj)) (u := .tup (r :: rs)) hfree
    exact h _ _ [.ref x, vn, vg, V.ref s.heap.objs.size] [a, b', g, Value.ref s.heap.objs.size] (StX.env0_laid e0 new) un rfl (fun e s' z => z.elim) (.cons ra (.cons rb (.cons rg (.cons rfl .nil)))) rfl ⟨_, hfree, rfl, rfl⟩
  · subst ex eH
    have sn : Same H (upd H p (.tup (r :: rs))) := same_new hp
    have tn := tp_same sn
    refine ⟨RB ⟨M, N_R_init, defScope s_R_init, 2, true, false⟩ (defBody s_R_init), (ps_rb (is_cx sc_R_init.nd (fun z => Bool.noConfusion z) hr')).nox, ?_⟩
    exact init_body b rc df dt (sn _ _ hx) (hnm.mono tn) (hg.mono tn) pg upd_same (hd.mono tn) hl h10 fun H' v k1 k2 k3 => k H' v ((kp_same sn).trans k1) k2 k3
/-! ### its methods -/
def spRas (C : Addr) (K : PySem.W.Frag) : Sp := fun vs H Q _ => ∃ (x dx : Addr) (v vc vst : V) (rs : List Row) (st : St1) (r : Rl), vs = [.ref x, vc, vst] ∧ H x = some (.ins C dx [("_form", v)]) ∧ Dt K H v r.d ∧ Dt K H vc (cellsD rs) ∧ Dt K H vst (stD st) ∧ StOk rs st ∧ FitR rs r ∧
  ∀ u H', Same H H' → Dt K H' u (asgD (asg rs st r)) → Q u H'
theorem ok_Rasg {C f : Addr} {fd : FuncData} (F : Fun M.K "assigned" "Rule.assigned" s_R_assigned f fd) (rc : RuleC M.K C) (da : dcAsg M) : FnG M.prog M.w M.K M.mg M.base CX0 15 f fd ["self", "cells", "state"] (spRas C M.K) := by
  refine fn_ok F sc_R_assigned (fun vs H Q E h => ?_) (fun H vs Q E h => ?_)
  · obtain ⟨x, dx, v, vc, vst, rs, st, r, rfl, _⟩ := h
    rfl
  obtain ⟨x, dx, v, vc, vst, rs, st, r, rfl, hx, hv, hc, hst, S, R, k⟩ := h
  tm_at "go"
  refine e_callZ da ?_
  tm_at "go"
  refine e_fld ?_
  tm_at "go"
  refine ⟨x, C, dx, _, v, rfl, hx, rc.cls, rc.noat, rfl, ?_⟩
  tm_at "go"
  exact ⟨_, _, .cons hc (.cons hv (.cons hst .nil)), ⟨rs, st, r, rfl, S, R, rfl⟩, fun u H1 s1 hu _ => k u H1 s1 hu⟩
def spRca (C : Addr) (K : PySem.W.Frag) : Sp := fun vs H Q _ => ∃ (x dx : Addr) (v vc vst : V) (rs : List Row) (st : St1) (r : Rl), vs = [.ref x, vc, vst] ∧ H x = some (.ins C dx [("_form", v)]) ∧ Dt K H v r.d ∧ Dt K H vc (cellsD rs) ∧ Dt K H vst (stD st) ∧ StOk rs st ∧ FitR rs r ∧
  ∀ u H', Same H H' → Dt K H' u (stD (beh rs st r)) → Q u H'
theorem ok_Rcall {C f : Addr} {fd : FuncData} (F : Fun M.K "__call__" "Rule.__call__" s_R_call f fd) (rc : RuleC M.K C) (db : Dc M "behind" ["cells", "rule", "state"] 15 (spF rBeh M.K)) : FnG M.prog M.w M.K M.mg M.base CX0 16 f fd ["self", "cells", "state"] (spRca C M.K) := by
  refine fn_ok F sc_R_call (fun vs H Q E h => ?_) (fun H vs Q E h => ?_)
  · obtain ⟨x, dx, v, vc, vst, rs, st, r, rfl, _⟩ := h
    rfl
  obtain ⟨x, dx, v, vc, vst, rs, st, r, rfl, hx, hv, hc, hst, S, R, k⟩ := h
  tm_at "go"
  refine e_callF db ?_
  tm_at "go"
  refine e_fld ?_
  tm_at "go"
  refine ⟨x, C, dx, _, v, rfl, hx, rc.cls, rc.noat, rfl, ?_⟩
  tm_at "go"
  exact ⟨_, _, .cons hc (.cons hv (.cons hst .nil)), ⟨rs, st, r, rfl, S, R, rfl⟩, fun u H1 s1 hu => k u H1 s1 hu⟩
end K

namespace G
open PySem PySem.Spec PyProof.Rows L2
/-! ### t[::-1] of a tuple -/
theorem adj_back (n : Nat) : Builtin.Slice.sliceAdjust none none (-1) (n : Int) = ((n : Int) - 1, -1) := by
  unfold Builtin.Slice.sliceAdjust
  simp
theorem plc_back (n : Nat) : Builtin.Slice.slicePlaces ((n : Int) - 1) (-1) (-1) = n := by
  unfold Builtin.Slice.slicePlaces
  simp
  omega
theorem fm_congr {α β : Type} {f g : α → Option β} : ∀ {l : List α}, (∀ x ∈ l, f x = g x) → l.filterMap f = l.filterMap g
  | [], _ => rfl
  | x :: l, h => by rw [List.filterMap_cons, List.filterMap_cons, h x (List.mem_cons_self ..), fm_congr fun y hy => h y (List.mem_cons_of_mem _ hy)]
theorem pick_back (xs : Array Value) : ((List.range xs.size).filterMap fun (m : Nat) => xs[((xs.size : Int) - 1 + (m : Int) * (-1)).toNat]?) = xs.toList.reverse := by
  have e1 : ((List.range xs.size).filterMap fun (m : Nat) => xs[((xs.size : Int) - 1 + (m : Int) * (-1)).toNat]?) = (List.range xs.size).filterMap fun m => xs.toList.reverse[m]? := by
    refine fm_congr fun m hm => ?_
    have hlt := List.mem_range.mp hm
    rw [show ((xs.size : Int) - 1 + (m : Int) * (-1)).toNat = xs.size - 1 - m by omega, List.getElem?_reverse (by rw [Array.length_toList]; exact hlt), Array.length_toList, Array.getElem?_toList]
  have e2 : ∀ (l : List Value) (n : Nat), n = l.length → (List.range n).filterMap (fun m => l[m]?) = l := by
    intro l n h
    subst h
    refine List.ext_getElem? fun j => ?_
    have e3 : (List.range l.length).filterMap (fun m => l[m]?) = (List.range l.length).map fun m => l.getD m .none := by
      rw [← List.filterMap_eq_map]
      refine fm_congr fun m hm => ?_
      have hlt := List.mem_range.mp hm
      simp [List.getD, List.getElem?_eq_getElem hlt]
    rw [e3, List.getElem?_map]
    by_cases hj : j < l.length
    · rw [List.getElem?_range hj]
      simp [List.getD, List.getElem?_eq_getElem hj]
    · rw [List.getElem?_eq_none (by rw [List.length_range]; omega), List.getElem?_eq_none (by omega)]
      rfl
  rw [e1]
  exact e2 _ _ (by rw [List.length_reverse, Array.length_toList])
section
variable {prog : Program} {w : World} {A : Around} {E : Value → Shared → Prop} {s : Shared}
theorem applied_back {b : Addr} {step : Value} {n : Nat} {Q : Int × Int × Nat → Shared → Prop} (at_ : s.heap.IsSliceOf b .none .none step) (p : IsPart step (some (-1))) (k : Q ((n : Int) - 1, -1, n) s) : wpAny (model prog w) A (Builtin.Slice.sliceApplied (.ref b) (pure (n : Int))) Q E s := by
  obtain ⟨o, g1, g2, g3⟩ := id at_
  unfold Builtin.Slice.sliceApplied Builtin.Slice.sliceFields
  refine wpAny_bind (wpAny_bind (wpAny_field g1 g3 (x := .none) rfl ?_))
  refine wpAny_bind (wpAny_field g1 g3 (x := .none) rfl ?_)
  refine wpAny_bind (wpAny_field g1 g3 (x := step) rfl (wpAny_pure ?_))
  refine wpAny_bind (HT.slicePart_ p ?_)
  show wpAny _ _ (if ((-1 : Int) == 0) = true then _ else _) _ _ s
  rw [if_neg (by decide)]
  refine wpAny_bind (slicePart_none ?_)
  refine wpAny_bind (slicePart_none ?_)
  refine wpAny_bind (wpAny_pure ?_)
  show wpAny _ _ (match Builtin.Slice.sliceAdjust none none (-1) (n : Int) with | (lo, hi) => pure (lo, (-1 : Int), Builtin.Slice.slicePlaces lo hi (-1))) _ _ s
  rw [adj_back]
  show wpAny _ _ (pure ((n : Int) - 1, (-1 : Int), Builtin.Slice.slicePlaces ((n : Int) - 1) (-1) (-1))) _ _ s
  rw [plc_back]
  exact wpAny_pure k
theorem getItem_back {t b : Addr} {items : Array Value} {step : Value} {Q : Value → Shared → Prop} (ht : IsTup s.heap t items) (at_ : s.heap.IsSliceOf b .none .none step) (p : IsPart step (some (-1)))
    (k : Q (.ref s.heap.objs.size) { s with heap := s.heap.push { cls := .type "tuple", data := .seq items.toList.reverse.toArray } }) (fits : items.size ≤ sizeLine) : wpAny (model prog w) A (getItem (.ref t) (.ref b)) Q E s := by
  have room : sizeOk (.seq items.toList.reverse.toArray) := by
    show items.toList.reverse.toArray.size ≤ sizeLine
    rw [List.size_toArray, List.length_reverse, Array.length_toList]
    exact fits
  obtain ⟨o, g1, g2, g3⟩ := id at_
  have kind : s.TypeIs (.ref b) "slice" := ⟨o, g1, g2⟩
  unfold getItem
  try with_reducible refine wpAny_holding ?_
  first | refine wpAny_bind (wpAny_pure ?_) | skip
  refine wpAny_bind (wpAny_sequenceKey ht.typeIs (by decide) ?_)
  refine wpAny_bind (wpAny_callSpecial?_slot (name := Str.ofString "__getitem__") ht.typeIs slot_tuple_getitem (wpAny_call_entry slot_tuple_getitem ht.typeIs entry_tuple_getitem ?_ (args_tuple_getitem _ _)))
  show wpAny _ _ (Builtin.Tuple.tupleItemsOf (.ref t) >>= _) _ _ s
  refine wpAny_bind (tupleItemsOf_ ht (wpAny_bind (wpAny_typeOf kind ?_)))
  rw [if_pos (by decide)]
  refine wpAny_bind (applied_back at_ p ?_)
  show wpAny _ _ (if (((items.size : Int) - 1) == 0 && (-1 : Int) == 1 && items.size == items.size) = true then _ else _) _ _ s
  rw [if_neg (by simp), pick_back]
  first
    | exact wpAny_bind (m := Builtin.Tuple.tupleExact _) (wpAny_newObj_type (wpAny_pure ⟨_, rfl, wpAny_pure k⟩) room)
    | exact wpAny_bind (m := Builtin.Tuple.tupleExact _) (wpAny_newObj_type (wpAny_bind (wpAny_pure (wpAny_pure ⟨_, rfl, wpAny_pure k⟩))) room)
    | exact wpAny_bind (wpAny_bind (m := Builtin.Tuple.tupleExact _) (wpAny_newObj_type (wpAny_pure (wpAny_pure ⟨_, rfl, wpAny_pure k⟩)) room))
    | exact wpAny_bind (wpAny_bind (m := Builtin.Tuple.tupleExact _) (wpAny_newObj_type (wpAny_pure ⟨_, rfl, wpAny_pure k⟩) room))
end
def tRevT (K : PySem.W.Frag) (te : TE) : TE := fun σ H Q => te σ H fun x H1 => ∃ a xs, x = .ref a ∧ SqT K H1 a xs ∧ ∀ p, H1 p = none → Q (.ref p) (upd H1 p (.tup xs.reverse))
theorem pe_revT {X : Cx} {e : Expr} {te : TE} {k : Nat} {p1 p2 p3 pos : Pos} (he : PE X e te) : PE X (.Subscript e (.Slice none none (some (.UnaryOp .USub (.Constant (.int 1) k p1) p2)) p3) pos) (tRevT X.K te) := by
  constructor
  intro pins st σ H Q J z
  refine Subscript_ (thn (he.run pins st σ H _ J z) fun v s1 ⟨x, H1, J1, r1, a, xs, ex, hx, q⟩ => ?_)
  subst ex
  obtain rfl : v = Value.ref a := r1
  have third : PO X (some (.UnaryOp .USub (.Constant (.int 1) k p1) p2)) (tPart (tUn (rU fun i => .int (-i)) (tC (.int 1)))) := po_some (pe_un un_neg pe_int)
  refine wpAny_Slice (thn (po_none.run pins s1 σ H1 (fun o H2 => o = none ∧ H2 = H1) J1 ⟨rfl, rfl⟩) fun vl s2 ⟨l, H2, J2, pl, el, e2⟩ => ?_)
  subst el e2
  cases pl
  refine thn (po_none.run pins s2 σ H2 (fun o H3 => o = none ∧ H3 = H2) J2 ⟨rfl, rfl⟩) fun vu s3 ⟨u, H3, J3, pu, eu, e3⟩ => ?_
  subst eu e3
  cases pu
  refine thn (third.run pins s3 σ H3 (fun o H4 => o = some (-1) ∧ H4 = H3) J3 ⟨1, rfl, -1, rfl, rfl, rfl⟩) fun vs s4 ⟨o, H4, J4, ps, eo, e4⟩ => ?_
  subst eo e4
  have J5 : Inv X pins σ H4 { s4 with heap := s4.heap.push { cls := .type "slice", data := .fields #[.none, .none, vs] } } := J4.kept (t' := s4.toks) fun b ob q => Heap.get?_push_of_some _ q
  obtain ⟨its, r, ht, hz⟩ := J5.tuple hx
  have same := r.length
  show wpAny (model X.prog X.w) X.A (subscriptTail e (.Slice none none (some (.UnaryOp .USub (.Constant (.int 1) k p1) p2)) p3) (.ref a) (.ref s4.heap.objs.size)) (EP X pins σ Q) X.xe { s4 with heap := s4.heap.push { cls := .type "slice", data := .fields #[.none, .none, vs] } }
  refine tail_any (ops := [.ref a, .ref s4.heap.objs.size]) ht.typeIs slot_tuple_getitem.lookup ?_ (by with_unfolding_all rfl)
  refine getItem_back ht (Heap.IsSliceOf.new _ .none .none vs) ps ?_ (by rw [List.size_toArray]; omega)
  refine ⟨.ref _, _, J5.laid (t' := s4.toks) (o := .tup xs.reverse) (fun b ob q => Heap.get?_push_of_some _ q) (Nat.le_refl _) ?_, rfl, q _ (J5.hok.fresh (Nat.le_refl _))⟩
  exact ⟨by rw [List.length_reverse]; exact hz, _, r.reverse, IsTup.new _ _⟩
theorem DtAll.rev {K : PySem.W.Frag} {H : Hp} : ∀ {ds : List PyData} {vs : List V}, DtAll K H vs ds → DtAll K H vs.reverse ds.reverse
  | [], _, h => by cases h; exact .nil
  | d :: ds, _, h => by
    cases h with
    | cons h1 h2 =>
      rw [List.reverse_cons, List.reverse_cons]
      exact (DtAll.rev h2).app (.cons h1 .nil)
theorem e_revT {c : Cd} {σ : L2.St} {H : Hp} {Q : VK} {e : Expr} {k : Nat} {p1 p2 p3 pos : Pos} (q : RE c e σ H fun x H1 => ∃ ds, Dt c.K H1 x (.tuple ds) ∧ ∀ v H2, Same H1 H2 → Dt c.K H2 v (.tuple ds.reverse) → Q v H2) : RE c (.Subscript e (.Slice none none (some (.UnaryOp .USub (.Constant (.int 1) k p1) p2)) p3) pos) σ H Q := by
  refine re_of (t := tRevT c.K (RE c e)) (fun X h => by rw [← h.K]; exact pe_revT (pe_re h)) (RE.mono (fun x H1 z => ?_) q)
  obtain ⟨ds, hx, z⟩ := z
  obtain ⟨a, xs, rfl, ht, hd⟩ := hx.tupE
  exact ⟨a, xs, rfl, ht, fun p hp => z _ _ (same_new hp) (.tup (.of upd_same) (hd.rev.mono (tp_same (same_new hp))))⟩
end G

namespace K
open PySem PySem.Spec PyProof.Rows L2 G
variable {M : Md}
/-! ### sorted(xs) of pairs that are data; repr of none or pairs -/
theorem entD_inj {p q : Int × Int} (h : entD p = entD q) : p = q := by
  unfold entD at h
  have h1 := PyData.tuple.inj h
  have h2 := List.cons.inj h1
  exact Prod.ext (PyData.int.inj h2.1) (PyData.int.inj (List.cons.inj h2.2).1)
theorem dt_ent {K : PySem.W.Frag} {H : Hp} {v : V} {p : Int × Int} (h : Dt K H v (entD p)) : ∃ t, v = .ref t ∧ SqT K H t [.int p.1, .int p.2] := by
  obtain ⟨a, xs, rfl, ht, hd⟩ := Dt.tupE (show Dt K H v (.tuple [.int p.1, .int p.2]) from h)
  obtain _ | ⟨h1, hd⟩ := hd
  obtain _ | ⟨h2, hd⟩ := hd
  cases hd
  cases h1
  cases h2
  exact ⟨a, rfl, ht⟩
open Classical in
noncomputable def keyD (K : PySem.W.Frag) (H : Hp) (v : V) : Int × Int := if z : ∃ p : Int × Int, Dt K H v (entD p) then z.choose else (0, 0)
def rSoD (K : PySem.W.Frag) : List V → Hp → VK → Prop := fun vs H Q => ∃ (a : Addr) (xs : List V) (es : List (Int × Int)), vs = [V.ref a] ∧ SqL K H a xs ∧ DtAll K H xs (es.map entD) ∧
  ∀ ys p, H p = none → DtAll K H ys ((sortE es).map entD) → Q (.ref p) (upd H p (.lst ys))
theorem cr_soD {X : Cx} : CallR X (.builtin "sorted") (rSoD X.K) := by
  intro pins st σ H args us Q J rv z
  obtain ⟨a, xs, es, rfl, hs, hd, k⟩ := z
  obtain rfl := Vals.ref1 rv
  obtain ⟨its, rel, plain, few⟩ := J.list hs
  have key : ∀ v p, Dt X.K H v (entD p) → keyD X.K H v = p := fun v p hp => by
    have z : ∃ p : Int × Int, Dt X.K H v (entD p) := ⟨p, hp⟩
    unfold keyD
    rw [dif_pos z]
    obtain ⟨t, rfl, ht⟩ := dt_ent hp
    obtain ⟨t', e, ht'⟩ := dt_ent z.choose_spec
    cases e
    have same := J.tuple_inj ht' ht
    have s1 := List.cons.inj same
    exact Prod.ext (V.int.inj s1.1) (V.int.inj (List.cons.inj s1.2).1)
  have has : ∀ v ∈ xs, Dt X.K H v (entD (keyD X.K H v)) := fun v hv => by
    obtain ⟨i, hi⟩ := List.mem_iff_getElem?.mp hv
    obtain ⟨d, hd', hx⟩ := hd.getV hi
    rw [List.getElem?_map] at hd'
    obtain ⟨p, _, rfl⟩ := Option.map_eq_some_iff.mp hd'
    rw [key v p hx]
    exact hx
  have ees : xs.map (keyD X.K H) = es := by
    refine List.ext_getElem? fun i => ?_
    rw [List.getElem?_map]
    cases hi : xs[i]? with
    | none =>
      have h1 := List.getElem?_eq_none_iff.mp hi
      have h2 := hd.len
      rw [List.length_map] at h2
      exact (List.getElem?_eq_none_iff.mpr (by omega)).symm
    | some v =>
      obtain ⟨d, hd', hx⟩ := hd.getV hi
      rw [List.getElem?_map] at hd'
      obtain ⟨p, hp, rfl⟩ := Option.map_eq_some_iff.mp hd'
      rw [hp]
      exact congrArg some (key v p hx)
  obtain ⟨back, refs⟩ := refs_back rel fun x m => let ⟨t, e, _⟩ := dt_ent (has x m); ⟨t, e⟩
  refine SrtO.sorted_pairsO (k := fun u => keyD X.K H (backV u)) plain.isList (by rw [← rel.length]; exact few) (fun v hv => ?_) fun h' d out h1 h2 kp hdd new => ?_
  · obtain ⟨t, rfl⟩ := refs v hv
    have inx : V.ref t ∈ xs := by rw [back]; exact List.mem_map.mpr ⟨_, hv, rfl⟩
    obtain ⟨t', e, ht⟩ := dt_ent (has _ inx)
    cases e
    obtain ⟨its2, r2, ⟨o, g1, g2, n, g3⟩, _⟩ := J.tuple ht
    obtain ⟨u1, u2, rfl, ⟨t1, rfl⟩, ⟨t2, rfl⟩⟩ := vals2 r2
    exact ⟨t, o, t1, t2, n, rfl, g1, g2, g3⟩
  · obtain ⟨n, made⟩ := new
    have stb : SrtO.Stb (ltP (keyD X.K H)) (out.map backV) xs := by
      rw [back]
      exact SrtO.Stb.map (ltP_swo (keyD X.K H)) backV h2
    have srt : SrtO.Srtd (ltP (keyD X.K H)) (out.map backV) := SrtO.srtd_map h1
    have big : (out.map backV).length ≤ sizeLine := by rw [stb.len]; exact few
    have e : (out.map backV).map (keyD X.K H) = sortE es := by
      refine sortE_uniq ?_ ?_
      · rw [← ees]; exact stb.perm.map _
      · rw [List.pairwise_map]
        refine srt.imp fun {a b} h => ?_
        unfold leB
        rw [show SrtO.lexB (keyD X.K H b) (keyD X.K H a) = false from h]
        rfl
    have all : ∀ zs : List V, (∀ v ∈ zs, v ∈ xs) → DtAll X.K H zs (zs.map (entD ∘ keyD X.K H)) := by
      intro zs
      induction zs with
      | nil => intro _; exact .nil
      | cons z zs ih => exact fun h => .cons (has z (h z (List.mem_cons_self ..))) (ih fun v hv => h v (List.mem_cons_of_mem _ hv))
    refine ⟨.ref d, upd H d (.lst (out.map backV)), J.laid (t' := st.toks) (o := .lst (out.map backV)) kp hdd ⟨big, out, n, vals_back fun u hu => refs u (h2.perm.mem_iff.mp hu), made⟩, rfl, k _ d (J.hok.fresh hdd) ?_⟩
    rw [← e, List.map_map]
    exact all _ fun v hv => stb.perm.mem_iff.mp hv
theorem rc_sortedD {c : Cd} {H : Hp} {Q : VK} {l : Addr} {us : List V} {es : List (Int × Int)} (hl : H l = some (.lst us)) (hd : DtAll c.K H us (es.map entD))
    (q : ∀ p ys H', Same H H' → H p = none → H' p = some (.lst ys) → DtAll c.K H' ys ((sortE es).map entD) → Q (.ref p) H') : RC c (.builtin "sorted") [.ref l] H Q :=
  rc_of (r := rSoD c.K) (fun X h => by rw [← h.K]; exact cr_soD) ⟨l, us, es, rfl, .of hl, hd, fun ys p hn h => q p ys _ (same_new hn) hn upd_same (h.mono (tp_same (same_new hn)))⟩
theorem cr_reprN {X : Cx} : CallR X (.builtin "repr") (fun vs H Q => vs = [.non] ∧ Q (.str "None") H) := by
  intro pins st σ H vs us Q J rv z
  obtain ⟨rfl, k⟩ := z
  obtain ⟨u, rfl, ru⟩ := vals1 rv
  obtain rfl : u = Value.none := ru
  exact P.repr_of_none ⟨.str "None", H, J.tok _, ⟨_, rfl⟩, k⟩
theorem rc_reprN {c : Cd} {H : Hp} {Q : VK} (q : Q (.str "None") H) : RC c (.builtin "repr") [.non] H Q := rc_of (fun _ _ => cr_reprN) ⟨rfl, q⟩
theorem ro_neSame {c : Cd} {H : Hp} {Q : VK} {x y : V} {d e : PyData} {n : Nat} (hx : Dt c.K H x d) (hy : Dt c.K H y e) (h : e = d) (s1 : Shp n d) (hn : n ≤ 64) (q : Q (.bl false) H) : RQ c .NotEq x y H Q := by
  subst h
  refine ro_neD hx.dp hy.dp (s1.ok hn) (s1.ok hn) ?_
  rw [PySem.SeqAt.eqv_refl _ s1.lay]
  exact q
theorem ro_eqSame {c : Cd} {H : Hp} {Q : VK} {x y : V} {d e : PyData} {n : Nat} (hx : Dt c.K H x d) (hy : Dt c.K H y e) (h : e = d) (s1 : Shp n d) (hn : n ≤ 64) (q : Q (.bl true) H) : RQ c .Eq x y H Q := by
  subst h
  refine ro_eqD hx.dp hy.dp (s1.ok hn) (s1.ok hn) ?_
  rw [PySem.SeqAt.eqv_refl _ s1.lay]
  exact q
end K

namespace K
open PySem PySem.Spec PyProof.Rows L2 G
variable {M : Md}
/-! ### one rule in one state: what is known of the values -/
theorem fit_guard {rs : List Row} {r : Rl} {g : Ex} (F : FitR rs r) (h : Fit rs g ∧ g.dep ≤ 4) : FitR rs ⟨r.name, g, r.as⟩ := ⟨F.nm, h, F.len, F.ne, F.as⟩
theorem fit_name {rs : List Row} {r : Rl} {n : Str} (F : FitR rs r) (h : PyData.strOk n = true) : FitR rs ⟨n, r.guard, r.as⟩ := ⟨h, F.guard, F.len, F.ne, F.as⟩
theorem fit_rev {rs : List Row} {r : Rl} (F : FitR rs r) : FitR rs ⟨r.name, r.guard, r.as.reverse⟩ := ⟨F.nm, F.guard, by rw [List.length_reverse]; exact F.len, fun h => F.ne (List.reverse_eq_nil_iff.mp h), fun p hp => F.as p (List.mem_reverse.mp hp)⟩
theorem fit_one {rs : List Row} {r : Rl} {p : Tg × Ex} (F : FitR rs r) (hp : p ∈ r.as) : FitR rs ⟨r.name, r.guard, [p]⟩ := ⟨F.nm, F.guard, (by decide : 1 ≤ 10), fun h => List.cons_ne_nil _ _ h, fun q hq => by rw [List.mem_singleton.mp hq]; exact F.as p hp⟩
theorem mem_and : ("and" : Str) ∈ bins := by decide +kernel
theorem mem_not : ("not" : Str) ∈ uns := by decide +kernel
theorem g_and {rs : List Row} {g : Ex} {i : Int} (h : Fit rs g) (k : g.dep ≤ 2) (hi : -1000000 ≤ i ∧ i ≤ 1000000) : Fit rs (.bin "and" g (.int i)) ∧ (Ex.bin "and" g (.int i)).dep ≤ 4 := ⟨⟨mem_and, h, hi⟩, by show max g.dep 0 + 1 ≤ 4; omega⟩
theorem g_nn {rs : List Row} {g : Ex} (h : Fit rs g) (k : g.dep ≤ 2) : Fit rs (.un "not" (.un "not" g)) ∧ (Ex.un "not" (.un "not" g)).dep ≤ 4 := ⟨⟨mem_not, mem_not, h⟩, by show g.dep + 1 + 1 ≤ 4; omega⟩
theorem g_if {rs : List Row} {g : Ex} (h : Fit rs g) (k : g.dep ≤ 2) : Fit rs (.ite g (.int 1) (.int 0)) ∧ (Ex.ite g (.int 1) (.int 0)).dep ≤ 4 := ⟨⟨h, (by decide : (-1000000 : Int) ≤ 1 ∧ (1 : Int) ≤ 1000000), (by decide : (-1000000 : Int) ≤ 0 ∧ (0 : Int) ≤ 1000000)⟩, by show max g.dep (max 0 0) + 1 ≤ 4; omega⟩
theorem asgShp (o : Option (List (Int × Int))) : Shp 3 (asgD o) := by
  cases o with
  | none => exact shp_non
  | some es =>
    refine shp_tup fun d hd => ?_
    obtain ⟨p, _, rfl⟩ := List.mem_map.mp hd
    refine shp_tup fun d hd => ?_
    rcases List.mem_cons.mp hd with rfl | hd
    · exact shp_int _
    · rw [List.mem_singleton.mp hd]; exact shp_int _
theorem stShp (st : St1) : Shp 2 (stD st) := by
  refine shp_tup fun d hd => ?_
  obtain ⟨j, _, rfl⟩ := List.mem_map.mp hd
  exact shp_int j
theorem looksShp (st : St1) (L : List Int) : Shp 3 (looksD st L) := by
  refine shp_tup fun d hd => ?_
  obtain ⟨j, _, rfl⟩ := List.mem_map.mp hd
  exact lookShp st j
theorem asg_val {rs : List Row} {st : St1} {r : Rl} {es : List (Int × Int)} (A : RowsAll rs) (h : asg rs st r = some es) : ∀ p ∈ es, -10 ≤ p.2 ∧ p.2 ≤ 10 := by
  obtain ⟨h1, _⟩ := asg_in h
  intro p hp
  obtain ⟨⟨p0, p1⟩, hin⟩ := h1 p hp
  obtain ⟨q, hq, _, e⟩ := rg_get p0 p1
  rw [e, Bool.and_eq_true] at hin
  have a1 := of_decide_eq_true hin.1
  have a2 := of_decide_eq_true hin.2
  obtain ⟨_, b1, b2⟩ := A.sm.sp q (List.mem_of_getElem? hq)
  omega
theorem pairShw {i j : Int} (h1 : -1000 ≤ i ∧ i ≤ 1000) (h2 : -1000 ≤ j ∧ j ≤ 1000) : Shw 1 (2 * (13 + 2) + 3) (.tuple [.int i, .int j]) := by
  have i0 : ∀ i : Int, -1000 ≤ i ∧ i ≤ 1000 → Shw 0 13 (.int i) := fun i h => sw_int (Nat.lt_of_le_of_lt (show i.natAbs ≤ 1000 by omega) (by decide))
  refine sw_tup (m := 0) (n := 13) (k := 2) (fun d hd => ?_) (Nat.le_of_ble_eq_true rfl)
  rcases List.mem_cons.mp hd with rfl | hd
  · exact i0 _ h1
  · rw [List.mem_singleton.mp hd]; exact i0 _ h2
theorem asgShw {rs : List Row} {st : St1} {r : Rl} {es : List (Int × Int)} (A : RowsAll rs) (S : StOk rs st) (R : FitR rs r) (e : asg rs st r = some es) : Shw 60 1000000 (.tuple (es.map entD)) := by
  have tot := S.tot
  obtain ⟨b1, b2, _⟩ := asg_in e
  have b3 := asg_val A e
  have b4 := R.len
  refine (sw_tup (m := 1) (n := 2 * (13 + 2) + 3) (k := 10) (fun d hd => ?_) (by rw [List.length_map]; omega)).up (by decide) (by decide)
  obtain ⟨p, hp, rfl⟩ := List.mem_map.mp hd
  obtain ⟨⟨p0, p1⟩, _⟩ := b1 p hp
  exact pairShw (by omega) (by have := b3 p hp; omega)
def al (rs : List Row) (st : St1) (r : Rl) (p : Tg × Ex) : Option (List (Int × Int)) := asg rs st ⟨r.name, r.guard, [p]⟩
theorem al_eq (rs : List Row) (st : St1) (r : Rl) (p : Tg × Ex) : al rs st r p = if tru rs st r.guard = true then asgA rs st [p] else none := asg_tru ..
theorem asg_r (rs : List Row) (st : St1) (r : Rl) : asg rs st r = if tru rs st r.guard = true then asgA rs st r.as else none := asg_tru rs st r.name r.guard r.as
theorem two_cases {as : List (Tg × Ex)} (h : as.length ≤ 2) (ne : as ≠ []) : (∃ p, as = [p]) ∨ ∃ p q, as = [p, q] := by
  match as, h, ne with
  | [p], _, _ => exact .inl ⟨p, rfl⟩
  | [p, q], _, _ => exact .inr ⟨p, q, rfl⟩
theorem al_none {rs : List Row} {st : St1} {r : Rl} (two : r.as.length ≤ 2) (ne : r.as ≠ []) (h : ∃ p ∈ r.as, al rs st r p = none) : asg rs st r = none := by
  rw [asg_r]
  by_cases t : tru rs st r.guard = true
  · rw [if_pos t]
    obtain ⟨p, hp, e⟩ := h
    rw [al_eq, if_pos t] at e
    rcases two_cases two ne with ⟨a, ea⟩ | ⟨a, b, ea⟩ <;> rw [ea] at hp ⊢
    · rw [← List.mem_singleton.mp hp]; exact e
    · rcases List.mem_cons.mp hp with rfl | hp
      · exact asgA_none1 e
      · rw [List.mem_singleton.mp hp] at e; exact asgA_none2 e
  · rw [if_neg t]
def kz (e : Int × Int) : Key × V := (Sum.inl e.1, .int 0)
theorem al_all {rs : List Row} {st : St1} {r : Rl} (two : r.as.length ≤ 2) (ne : r.as ≠ []) (h : ∀ p ∈ r.as, al rs st r p ≠ none) : ∃ es : List (Int × Int), r.as.map (al rs st r) = es.map (fun e => some [e]) ∧ es.length ≤ 2 ∧
    asg rs st r = if (mergeK [] (es.map kz)).length = es.length then some (sortE es) else none := by
  have t : tru rs st r.guard = true := by
    rcases two_cases two ne with ⟨a, ea⟩ | ⟨a, b, ea⟩ <;>
    · have := h a (by rw [ea]; exact List.mem_cons_self ..)
      rw [al_eq] at this
      by_cases t : tru rs st r.guard = true
      · exact t
      · rw [if_neg t] at this; exact absurd rfl this
  have got : ∀ p ∈ r.as, ∃ e, al rs st r p = some [e] ∧ asgA rs st [p] = some [e] := fun p hp => by
    have := h p hp
    rw [al_eq, if_pos t] at this
    cases e : asgA rs st [p] with
    | none => exact absurd e this
    | some o =>
      obtain ⟨j, v, rfl, _⟩ := asgA_one e
      exact ⟨(j, v), by rw [al_eq, if_pos t, e], rfl⟩
  rw [asg_r, if_pos t]
  rcases two_cases two ne with ⟨a, ea⟩ | ⟨a, b, ea⟩ <;> rw [ea] at got ⊢
  · obtain ⟨e, h1, h2⟩ := got a (List.mem_cons_self ..)
    refine ⟨[e], by rw [List.map_cons, h1]; rfl, (by show (1 : Nat) ≤ 2; decide), ?_⟩
    rw [h2, if_pos (by rfl)]
    exact congrArg some (sortE_uniq (List.Perm.refl _) (List.pairwise_singleton _ _) : [e] = sortE [e])
  · obtain ⟨⟨j, v⟩, h1, h2⟩ := got a (List.mem_cons_self ..)
    obtain ⟨⟨k, w⟩, h3, h4⟩ := got b (List.mem_cons_of_mem _ (List.mem_cons_self ..))
    refine ⟨[(j, v), (k, w)], by rw [List.map_cons, List.map_cons, h1, h3]; rfl, (by show (2 : Nat) ≤ 2; decide), ?_⟩
    rw [asgA_both h2 h4]
    have e : (mergeK [] ([(j, v), (k, w)].map kz)).length = if j = k then 1 else 2 := by
      by_cases e : j = k
      · subst e
        simp [kz, mergeK, putK]
      · have e2 : ¬ (Sum.inl j : Key) = Sum.inl k := fun h => e (Sum.inl.inj h)
        simp [kz, mergeK, putK, e, e2]
    rw [e]
    by_cases e : j = k
    · rw [if_pos e, if_neg (by rw [if_pos e]; show ¬ (1 : Nat) = 2; decide)]
    · rw [if_neg e, if_pos (by rw [if_neg e]; rfl)]
theorem none_in {rs : List Row} {st : St1} {r : Rl} : ((r.as.map fun p => asgD (al rs st r p)).any fun z => PyData.eqv z .none) = true ↔ ∃ p ∈ r.as, al rs st r p = none := by
  rw [List.any_eq_true]
  constructor
  · rintro ⟨d, hd, e⟩
    obtain ⟨p, hp, rfl⟩ := List.mem_map.mp hd
    refine ⟨p, hp, ?_⟩
    cases q : al rs st r p with
    | none => rfl
    | some es => rw [q] at e; simp [asgD, PyData.eqv] at e
  · rintro ⟨p, hp, e⟩
    refine ⟨_, List.mem_map.mpr ⟨p, hp, rfl⟩, ?_⟩
    rw [e]
    simp [asgD, PyData.eqv]
def gSp : PyData → Option PyData
  | .tuple (.tuple (d :: _) :: _) => some d
  | _ => none
def gFst : PyData → Option PyData
  | .tuple (d :: _) => some d
  | _ => none
def gKz : PyData → Option PyData
  | .int i => some (.tuple [.int i, .int 0])
  | _ => none
theorem gSp_all (es : List (Int × Int)) : (es.map fun e => asgD (some [e])).filterMap gSp = (es.map (·.1)).map .int := by
  induction es with
  | nil => rfl
  | cons p es ih => rw [List.map_cons, List.filterMap_cons, List.map_cons, List.map_cons, ← ih]; rfl
theorem gFst_all (es : List (Int × Int)) : (es.map fun e => asgD (some [e])).filterMap gFst = es.map entD := by
  induction es with
  | nil => rfl
  | cons p es ih => rw [List.map_cons, List.filterMap_cons, List.map_cons, ← ih]; rfl
theorem gKz_all (es : List (Int × Int)) : ((es.map (·.1)).map PyData.int).filterMap gKz = (es.map fun e => (e.1, (0 : Int))).map entD := by
  induction es with
  | nil => rfl
  | cons p es ih => rw [List.map_cons, List.map_cons, List.filterMap_cons, List.map_cons, List.map_cons, ← ih]; rfl
theorem ents_refs {K : PySem.W.Frag} {H : Hp} : ∀ {es : List (Int × Int)} {us : List V}, DtAll K H us (es.map entD) → ∃ ts : List Addr, us = ts.map V.ref ∧ Paired (fun p kv => SqT K H p [kV kv.1, kv.2]) ts (es.map kvE)
  | [], _, h => by cases h; exact ⟨[], rfl, .nil⟩
  | (i, j) :: es, _, h => by
    obtain _ | ⟨h1, h2⟩ := h
    obtain ⟨ts, rfl, hp⟩ := ents_refs h2
    obtain ⟨a, xs, rfl, ht, hd⟩ := (show Dt K H _ (.tuple [.int i, .int j]) from h1).tupE
    obtain _ | ⟨e1, hd⟩ := hd
    obtain _ | ⟨e2, hd⟩ := hd
    cases hd
    cases e1
    cases e2
    exact ⟨a :: ts, rfl, .cons ht hp⟩
theorem rc_dictL {c : Cd} {H : Hp} {Q : VK} {a : Addr} {ts : List Addr} {kvs : List (Key × V)} (hl : SqL c.K H a (ts.map V.ref)) (hp : Paired (fun p kv => SqT c.K H p [kV kv.1, kv.2]) ts kvs) (q : ∀ p H', Same H H' → H p = none → H' p = some (.dK (mergeK [] kvs)) → Q (.ref p) H') : RC c (.type "dict") [.ref a] H Q :=
  rc_of (r := fun xs H Q => ∃ (a : Addr) (ps : List Addr) (kvs : List (Key × V)), xs = [.ref a] ∧ SqL c.K H a (ps.map V.ref) ∧ Paired (fun p kv => SqT c.K H p [kV kv.1, kv.2]) ps kvs ∧ ∀ p, H p = none → Q (.ref p) (upd H p (.dK (mergeK [] kvs)))) (fun X h => by rw [← h.K]; exact call_dictP h.calm) ⟨a, ts, kvs, rfl, hl, hp, fun p hn => q p _ (same_new hn) hn upd_same⟩
theorem rc_lenK {c : Cd} {H : Hp} {Q : VK} {a : Addr} {kvs : List (Key × V)} (h : H a = some (.dK kvs)) (q : Q (.int kvs.length) H) : RC c (.builtin "len") [.ref a] H Q :=
  rc_of (r := fun xs H Q => ∃ a kvs, xs = [V.ref a] ∧ H a = some (.dK kvs) ∧ Q (.int kvs.length) H) (fun X h => call_lenD) ⟨a, kvs, rfl, h, q⟩
theorem kz_kvE (es : List (Int × Int)) : (es.map fun e => (e.1, (0 : Int))).map kvE = es.map kz := by rw [List.map_map]; rfl
theorem tg_ok {rs : List Row} {t : Tg} (h : FitT rs t) : tgD t.d := by
  cases t with
  | nm s => exact True.intro
  | «at» t e =>
    refine ⟨fun d hd => ?_, (by show (2 : Nat) ≤ 10; decide)⟩
    rcases List.mem_cons.mp hd with rfl | hd
    · exact True.intro
    · rw [List.mem_singleton.mp hd]; exact e.plain
theorem lot_ok {rs : List Row} {r : Rl} (F : FitR rs r) : ∀ d ∈ r.as.map asD, lotD d := fun d hd => by
  obtain ⟨p, hp, rfl⟩ := List.mem_map.mp hd
  exact ⟨_, _, rfl, tg_ok (F.as p hp).1, p.2.plain⟩
end K

local macro_rules | `(tactic| tm_at "st") => `(tactic| repeat (first | (refine gRA ?_; refine a_cons ?_) | (refine gRE ?_; first | refine e_var (by tm_at "at") ?_ | refine e_str ?_ | refine e_int ?_)))
namespace K
open PySem PySem.Spec PyProof.Rows L2 G
variable {M : Md}
structure Bl2 (M : Md) : Prop where
  repr : M.mg "repr" = none
theorem lcT_M {c : Cd} {σ : L2.St} {H : Hp} {Q : VK} {elt tg iter : Expr} {ifs : List Expr} {scope : Scope} {vs : List Nat} (es : List PyData) (q : RE c iter σ H fun x H1 => ∃ ds, Dt c.K H1 x (.tuple ds) ∧ ds.length ≤ 1000 ∧ es.length = ds.length ∧
      (∀ (i : Nat) d e x H', ds[i]? = some d → es[i]? = some e → Same H1 H' → Dt c.K H' x d → TurnF (blkCd c scope) tg ifs elt vs σ c.K x H' (some e)) ∧ ∀ p us H2, Same H1 H2 → H1 p = none → H2 p = some (.lst us) → DtAll c.K H2 us es → Q (.ref p) H2) :
    tLc (RI c tg iter) (RG (blkCd c scope) tg) (RTs (blkCd c scope) ifs) (RE (blkCd c scope) elt) vs σ H Q := by
  refine lc_T (RE.mono (fun x H1 z => ?_) q)
  obtain ⟨ds, hx, hl, le, t, k⟩ := z
  obtain ⟨a, xs, rfl, ht, ha⟩ := hx.tupE
  have hle := ha.len
  refine ⟨a, xs, rfl, ht, by omega, fun D hD => ⟨fun i acc H' => acc.length ≤ i ∧ H' D = some (.lst acc) ∧ Same H1 H' ∧ DtAll c.K H' acc (es.take i), ⟨Nat.le_refl _, upd_same, same_new hD, .nil⟩, ?_, ?_, ?_⟩⟩
  · rintro i acc H' _ ⟨l, _, s, _⟩
    exact ⟨(tp_same s).sqt ht, l⟩
  · rintro i x acc H' hx ⟨l, h1, s, h2⟩
    obtain ⟨d, hd, hx'⟩ := ha.getV hx
    have hi : i < es.length := by rw [le]; exact (List.getElem?_eq_some_iff.mp hd).1
    have T := TurnF.one hD s h1 h2 (t i d es[i] x H' hd (List.getElem?_eq_getElem hi) s (hx'.mono (tp_same s)))
    have step : es.take i ++ (some es[i]).toList = es.take (i + 1) := (List.take_succ_eq_append_getElem hi).symm
    refine RG.mono (fun σ2 H2 z => ⟨z.1, RTs.mono (fun b H3 z => ?_) z.2⟩) T
    cases b with
    | true => exact RE.mono (fun y H4 z => ⟨z.1, by rw [List.length_append, List.length_singleton]; omega, z.2.1, z.2.2.1, by rw [← step]; exact z.2.2.2⟩) z
    | false => exact ⟨by omega, z.1, z.2.1, by rw [← step]; exact z.2.2⟩
  · rintro acc H' ⟨l, h1, s, h2⟩
    refine k D acc H' s hD h1 ?_
    rw [List.take_of_length_le (by omega)] at h2
    exact h2
theorem ifnb {k : Bool} {A B : Prop} (h1 : k = false → A) (h2 : k = true → B) : if (!k) = true then A else B := by
  cases k with
  | true => exact h2 rfl
  | false => exact h1 rfl
theorem same_made {H H' : Hp} {x dx : Addr} {o : HO} (nx : H x = none) (nd : H dx = none) (kk : Kp x (upd (upd H dx (.own x)) x o) H') : Same H H' := fun b u h =>
  kk.k _ _ (ne_of_none h nx) (by rw [upd_ne (ne_of_none h nx), upd_ne (ne_of_none h nd)]; exact h)
def shownA : Option (List (Int × Int)) → Str
  | none => "None"
  | some es => (PyData.tuple (es.map entD)).shown
theorem rc_reprA {c : Cd} {H : Hp} {Q : VK} {v : V} {o : Option (List (Int × Int))} (hd : Dt c.K H v (asgD o)) (sw : ∀ es, o = some es → Shw 60 1000000 (.tuple (es.map entD))) (q : ∀ s : Str, s = shownA o → Q (.str s) H) (hq : c.g = true := by rfl) : RC c (.builtin "repr") [v] H Q := by
  cases o with
  | none => cases hd; exact rc_reprN (q _ rfl)
  | some es =>
    obtain ⟨a, xs, rfl, ht, hs⟩ := Dt.tupE (show Dt c.K H v (.tuple (es.map entD)) from hd)
    exact rc_repr (Dt.dp (.tup ht hs)) (sw es rfl) (q _ rfl) hq
set_option maxHeartbeats 8000000 in
theorem ok_right {f fd} {C : Addr} (F : Fun M.K "_law_rule_right" "_law_rule_right" s__law_rule_right f fd) (b : Bl M) (b2 : Bl2 M) (das : dcAsg M) (dbe : Dc M "behind" ["cells", "rule", "state"] 15 (spF rBeh M.K)) (dlo : Dc M "looks_of" ["cells", "rule", "state"] 14 (spZ rLof M.K))
    (dex : Dc M "_law_expected" ["_law_rows_here", "_law_rule_here", "_law_state"] 12 (spF rExp M.K)) (del : Dc M "_law_expected_looks" ["_law_rows_here", "_law_rule_here", "_law_state"] 12 (spF rEl M.K)) (dmk : DcO M "Rule" C 2 ["guard"] 3 (spInit C M.K)) (dmk3 : DcO M "Rule" C 3 ["guard"] 3 (spInit C M.K))
    (dma : DcM M C "assigned" ["self", "cells", "state"] 15 (spRas C M.K)) (dmc : DcC M C 16 (spRca C M.K)) : FnQ M.prog M.w M.K M.mg M.base CX0 20 f fd ["_law_rows_here", "_law_rule_here", "_law_state"] (spF rRr M.K) := by
  refine fn_okQ F sc__law_rule_right (fun vs H Q E h => ?_) (fun H vs Q E h => ?_)
  · obtain ⟨ds, d, h, ⟨rs, st, r, rfl, _⟩, _⟩ := h
    exact h.len
  obtain ⟨ds, d, h, ⟨rs, st, r, rfl, A, S, G, rfl⟩, k⟩ := h
  have h0 := h
  obtain _ | ⟨hc, h⟩ := h
  obtain _ | ⟨hr, h⟩ := h
  obtain _ | ⟨hst, h⟩ := h
  cases h
  rename_i vc vr vst
  have R := G.fit
  refine b_cons (s_asg ?_)
  tm_at "go"
  refine g_unp3 (by tm_at "at") (by tm_at "at") (by tm_at "at") (show Dt M.K H vr (.tuple [.str r.name, r.guard.d, .tuple (r.as.map asD)]) from hr) fun vn vg vl hn hg hl => ?_
  have hne : ∀ {H'}, Same H H' → DtAll M.K H' [vc, vr, vst] [cellsD rs, r.d, stD st] := fun s => h0.mono (tp_same s)
  cases hn
  tm_at "go"
  refine e_callZ das ?_
  tm_at "go"
  refine ⟨_, _, h0, ⟨rs, st, r, rfl, S, R, rfl⟩, fun va H1 s1 ha _ => ?_⟩
  tm_at "go"
  refine e_callB (id := "repr") b2.repr (by decide +kernel) ?_
  tm_at "go"
  refine rc_reprA ha (fun es e => asgShw A.all S R e) fun sh1 eh1 => ?_
  refine e_callB (id := "repr") b2.repr (by decide +kernel) ?_
  tm_at "go"
  refine e_callF dex ?_
  tm_at "go"
  refine ⟨_, _, hne s1, ⟨rs, st, r, rfl, S, R, G.gd2, rfl⟩, fun v2 H2 s2 h2 => ?_⟩
  tm_at "go"
  refine rc_reprA h2 (fun es e => asgShw A.all S R e) fun sh2 eh2 => ?_
  obtain rfl : sh1 = sh2 := eh1.trans eh2.symm
  clear eh1 eh2
  refine ro_ne rfl ?_
  refine ⟨_, rfl, ifnF rfl ?_⟩
  tm_at "go"
  refine e_callZ dlo ?_
  tm_at "go"
  have s12 := s1.trans s2
  refine ⟨_, _, hne s12, ⟨rs, st, r, rfl, S, R, rfl⟩, fun v3 H3 s3 h3 _ => ?_⟩
  tm_at "go"
  refine e_callF del ?_
  tm_at "go"
  have s13 := s12.trans s3
  refine ⟨_, _, hne s13, ⟨rs, st, r, rfl, S, R, A.ne, G.gd2, rfl⟩, fun v4 H4 s4 h4 => ?_⟩
  refine ro_neSame (h3.mono (tp_same s4)) h4 rfl (looksShp _ _) (by decide) ?_
  refine ⟨_, rfl, iff0 ?_⟩
  have s14 := s13.trans s4
  have ha4 := ha.mono (tp_same (s2.trans (s3.trans s4)))
  have hg4 := hg.mono (tp_same s14)
  have hl4 := hl.mono (tp_same s14)
  have h04 := hne s14
  clear h2 h3 h4 s2 s3 s4 s12 s13 s1 ha
  tm_at "go"
  refine e_lstD ?_
  tm_at "go"
  refine e_tupD ?_
  tm_at "st"
  refine e_revT ?_
  tm_at "st"
  refine ⟨_, hl4, fun v5 H5 s5 h5 => ?_⟩
  refine a_nil ?_
  refine tupend (ds := [.str r.name, r.guard.d, _]) (.cons (.str _) (.cons (hg4.mono (tp_same s5)) (.cons h5 .nil))) (Nat.le_of_ble_eq_true rfl) fun v6 H6 s6 h6 => ?_
  have s46 := s5.trans s6
  tm_at "st"
  refine e_tupD ?_
  tm_at "st"
  refine e_tupD ?_
  tm_at "go"
  refine tupend (ds := [.str "and", r.guard.d, .int 1]) (.cons (.str _) (.cons (hg4.mono (tp_same s46)) (.cons (.int _) .nil))) (Nat.le_of_ble_eq_true rfl) fun v7 H7 s7 h7 => ?_
  have s47 := s46.trans s7
  tm_at "go"
  refine tupend (ds := [.str r.name, .tuple [.str "and", r.guard.d, .int 1], .tuple (r.as.map asD)]) (.cons (.str _) (.cons h7 (.cons (hl4.mono (tp_same s47)) .nil))) (Nat.le_of_ble_eq_true rfl) fun v8 H8 s8 h8 => ?_
  have s48 := s47.trans s8
  tm_at "go"
  refine ⟨(Nat.le_of_ble_eq_true rfl), fun lo H9 s9 n9 g9 => ?_⟩
  have s49 := s48.trans s9
  have h69 := h6.mono (tp_same (s7.trans (s8.trans s9)))
  have h89 := h8.mono (tp_same s9)
  clear h5 h7 h6 h8
  tm_at "go"
  refine s_expr (e_app ?_)
  tm_at "go"
  refine ⟨lo, _, rfl, g9, ?_⟩
  refine e_tupD ?_
  tm_at "st"
  refine e_tupD ?_
  tm_at "st"
  refine e_tupD ?_
  tm_at "go"
  refine tupend (ds := [.str "not", r.guard.d]) (.cons (.str _) (.cons (hg4.mono (tp_same s49)) .nil)) (Nat.le_of_ble_eq_true rfl) fun v10 H10 s10 h10 => ?_
  tm_at "go"
  refine tupend (ds := [.str "not", .tuple [.str "not", r.guard.d]]) (.cons (.str _) (.cons h10 .nil)) (Nat.le_of_ble_eq_true rfl) fun v11 H11 s11 h11 => ?_
  have s4b := s49.trans (s10.trans s11)
  tm_at "go"
  refine tupend (ds := [.str r.name, .tuple [.str "not", .tuple [.str "not", r.guard.d]], .tuple (r.as.map asD)]) (.cons (.str _) (.cons h11 (.cons (hl4.mono (tp_same s4b)) .nil))) (Nat.le_of_ble_eq_true rfl) fun v12 H12 s12 h12 => ?_
  have s9c := s10.trans (s11.trans s12)
  have gc := s9c _ _ g9
  refine ⟨_, gc, (Nat.le_of_ble_eq_true rfl), ?_⟩
  have ku := kp_upd (o' := .lst ([v6, v8] ++ [v12])) gc (fun _ e => nomatch e) (fun _ _ e => nomatch e)
  have s4d : Same H4 (upd H12 lo (.lst ([v6, v8] ++ [v12]))) := same_mut (s49.trans s9c) (same_none s48 n9)
  have hd : DtAll M.K (upd H12 lo (.lst ([v6, v8] ++ [v12]))) ([v6, v8] ++ [v12]) [(Rl.mk r.name r.guard r.as.reverse).d, (Rl.mk r.name (.bin "and" r.guard (.int 1)) r.as).d, (Rl.mk r.name (.un "not" (.un "not" r.guard)) r.as).d] :=
    .cons (by
      have := (h69.mono (tp_same s9c)).mono ku.t
      rw [← List.map_reverse] at this
      exact this) (.cons ((h89.mono (tp_same s9c)).mono ku.t) (.cons (h12.mono ku.t) .nil))
  have gd : (upd H12 lo (.lst ([v6, v8] ++ [v12]))) lo = some (.lst ([v6, v8] ++ [v12])) := upd_same
  clear ku gc s9c h12 s12 s4b h11 s11 h10 s10 g9 n9 h69 h89 s49 s48 s47 s46 s5 s6 s7 s8 s9
  revert s4d hd gd
  generalize upd H12 lo (.lst ([v6, v8] ++ [v12])) = Hd
  generalize [v6, v8] ++ [v12] = od
  intro s4d hd gd
  have odl := hd.len
  tm_at "go"
  refine s_forL ?_
  tm_at "go"
  refine e_lstD ?_
  tm_at "st"
  refine e_tupD ?_
  tm_at "go"
  refine tupend (ds := [.str "other", r.guard.d, .tuple (r.as.map asD)]) (.cons (.str _) (.cons (hg4.mono (tp_same s4d)) (.cons (hl4.mono (tp_same s4d)) .nil))) (Nat.le_of_ble_eq_true rfl) fun v13 He se he => ?_
  tm_at "go"
  refine ⟨(Nat.le_of_ble_eq_true rfl), fun lp Hf sf nf gf => ?_⟩
  refine ro_cat (sf _ _ (se _ _ gd)) gf (by rw [odl]; exact (Nat.le_of_ble_eq_true rfl)) fun lq Hg sg ng gg => ?_
  have sdg := se.trans (sf.trans sg)
  have s4g := s4d.trans sdg
  have hall : DtAll M.K Hg (od ++ [v13]) ([(Rl.mk r.name r.guard r.as.reverse).d, (Rl.mk r.name (.bin "and" r.guard (.int 1)) r.as).d, (Rl.mk r.name (.un "not" (.un "not" r.guard)) r.as).d] ++ [(Rl.mk "other" r.guard r.as).d]) :=
    (hd.mono (tp_same sdg)).app (.cons (he.mono (tp_same (sf.trans sg))) .nil)
  have ok : ∀ d ∈ ([(Rl.mk r.name r.guard r.as.reverse).d, (Rl.mk r.name (.bin "and" r.guard (.int 1)) r.as).d, (Rl.mk r.name (.un "not" (.un "not" r.guard)) r.as).d] ++ [(Rl.mk "other" r.guard r.as).d]), ∃ r' : Rl, d = r'.d ∧ FitR rs r' ∧ asg rs st r' = asg rs st r := by
    intro d hd
    have e0 := asg_r rs st r
    rcases List.mem_append.mp hd with hd | hd
    · rcases List.mem_cons.mp hd with rfl | hd
      · exact ⟨_, rfl, fit_rev R, by rw [asg_tru, asgA_rev G.two, e0]⟩
      rcases List.mem_cons.mp hd with rfl | hd
      · exact ⟨_, rfl, fit_guard R (g_and R.guard.1 G.gd2 (by decide)), by rw [asg_tru, tru_and1, e0]⟩
      · rw [List.mem_singleton.mp hd]
        exact ⟨_, rfl, fit_guard R (g_nn R.guard.1 G.gd2), by rw [asg_tru, tru_notnot, e0]⟩
    · rw [List.mem_singleton.mp hd]
      exact ⟨_, rfl, fit_name R (by decide +kernel), by rw [asg_tru, e0]⟩
  revert hall ok
  generalize [(Rl.mk r.name r.guard r.as.reverse).d, (Rl.mk r.name (.bin "and" r.guard (.int 1)) r.as).d, (Rl.mk r.name (.un "not" (.un "not" r.guard)) r.as).d] ++ [(Rl.mk "other" r.guard r.as).d] = dall
  intro hall ok
  clear hd gd he
  generalize od ++ [v13] = oall at hall gg
  have three : ∀ {H'}, Same Hg H' → Dt M.K H' vc (cellsD rs) ∧ Dt M.K H' vst (stD st) ∧ Dt M.K H' va (asgD (asg rs st r)) := fun s => ⟨hc.mono (tp_same ((by assumption : Same H H4).trans (s4g.trans s))), hst.mono (tp_same ((by assumption : Same H H4).trans (s4g.trans s))), ha4.mono (tp_same (s4g.trans s))⟩
  refine ⟨lq, _, rfl, .of gg, fun i σ1 H' => ∃ v8, σ1 = [some vc, some vr, some vst, some (.str r.name), some vg, some vl, some va, some (.ref lo), v8, none, none, none, none, none, none, none] ∧ Same Hg H', ⟨_, rfl, Same.refl _⟩, ?_, ?_, ?_⟩
  · rintro i σ' H' _ ⟨v8, rfl, s⟩
    exact .of (s _ _ gg)
  · rintro i x σ' Hh hx ⟨v8, rfl, sh⟩
    obtain ⟨d, hd, hx'⟩ := hall.getV hx
    obtain ⟨r', rfl, F', ea⟩ := ok d (List.mem_of_getElem? hd)
    obtain ⟨c1, c2, c3⟩ := three sh
    refine g_name (by tm_at "at") ?_
    tm_at "go"
    refine e_callZ das ?_
    tm_at "go"
    refine ⟨_, _, .cons c1 (.cons (hx'.mono (tp_same sh)) (.cons c2 .nil)), ⟨rs, st, r', rfl, S, F', rfl⟩, fun v H' s h _ => ?_⟩
    rw [ea] at h
    tm_at "go"
    refine ro_neSame h (c3.mono (tp_same s)) rfl (asgShp _) (by decide) ?_
    refine ⟨_, rfl, iff0 ?_⟩
    tm_at "go"
    exact sh.trans s
  rintro σ' Hh ⟨v8', rfl, sh⟩
  obtain ⟨c1, c2, c3⟩ := three sh
  have hgh := hg4.mono (tp_same (s4g.trans sh))
  have hlh := hl4.mono (tp_same (s4g.trans sh))
  tm_at "go"
  refine e_callZ das ?_
  tm_at "st"
  refine e_tupD ?_
  tm_at "st"
  refine e_tupD ?_
  tm_at "go"
  refine tupend (ds := [.str "if", r.guard.d, .int 1, .int 0]) (.cons (.str _) (.cons hgh (.cons (.int _) (.cons (.int _) .nil)))) (Nat.le_of_ble_eq_true rfl) fun v21 Ha sa ha => ?_
  tm_at "go"
  refine tupend (ds := [.str r.name, .tuple [.str "if", r.guard.d, .int 1, .int 0], .tuple (r.as.map asD)]) (.cons (.str _) (.cons ha (.cons (hlh.mono (tp_same sa)) .nil))) (Nat.le_of_ble_eq_true rfl) fun v22 Hb sb hb => ?_
  tm_at "go"
  have sab := sa.trans sb
  refine ⟨_, _, .cons (c1.mono (tp_same sab)) (.cons hb (.cons (c2.mono (tp_same sab)) .nil)), ⟨rs, st, ⟨r.name, .ite r.guard (.int 1) (.int 0), r.as⟩, rfl, S, fit_guard R (g_if R.guard.1 G.gd2), rfl⟩, fun v23 Hc sc h3 _ => ?_⟩
  rw [asg_tru, tru_if, ← asg_r] at h3
  have sac := sab.trans sc
  tm_at "go"
  refine ro_neSame h3 (c3.mono (tp_same sac)) rfl (asgShp _) (by decide) ?_
  refine ⟨_, rfl, iff0 ?_⟩
  tm_at "go"
  refine e_callZ das ?_
  tm_at "st"
  refine e_tupD ?_
  tm_at "st"
  refine e_tupD ?_
  tm_at "go"
  refine tupend (ds := [.str "and", r.guard.d, .int 0]) (.cons (.str _) (.cons (hgh.mono (tp_same sac)) (.cons (.int _) .nil))) (Nat.le_of_ble_eq_true rfl) fun v24 Hd2 sd hd2 => ?_
  have sad := sac.trans sd
  tm_at "go"
  refine tupend (ds := [.str r.name, .tuple [.str "and", r.guard.d, .int 0], .tuple (r.as.map asD)]) (.cons (.str _) (.cons hd2 (.cons (hlh.mono (tp_same sad)) .nil))) (Nat.le_of_ble_eq_true rfl) fun v25 He2 se2 he2 => ?_
  have sae := sad.trans se2
  tm_at "go"
  refine ⟨_, _, .cons (c1.mono (tp_same sae)) (.cons he2 (.cons (c2.mono (tp_same sae)) .nil)), ⟨rs, st, ⟨r.name, .bin "and" r.guard (.int 0), r.as⟩, rfl, S, fit_guard R (g_and R.guard.1 G.gd2 (by decide)), rfl⟩, fun v26 Hf2 sf2 h6 _ => ?_⟩
  rw [asg_tru, tru_and0, if_neg (by decide)] at h6
  cases (show Dt _ _ v26 .none from h6)
  have saf := sae.trans sf2
  tm_at "go"
  have shf := sh.trans saf
  have hgf := hgh.mono (tp_same saf)
  have hlf := hlh.mono (tp_same saf)
  have cf := three shf
  clear h3 h6 he2 hd2 hb ha c1 c2 c3 hgh hlh saf sf2 sae se2 sad sd sac sc sab sb sa sh hall ok
  refine (s_setLc (own := [("_law_own", 14)]) (by tm_at "at") (Blk.of (N := N__law_rule_right) (sc := defScope s__law_rule_right) rfl rfl (by decide +kernel)) ?_)
  refine lcT_M (r.as.map fun p => asgD (al rs st r p)) ?_
  tm_at "go"
  refine ⟨_, hlf, by rw [List.length_map]; exact Nat.le_trans R.len (Nat.le_of_ble_eq_true rfl), by rw [List.length_map, List.length_map], fun i d e x H' hd he s hx => ?_, fun la us Ha sa na ga ha => ?_⟩
  · rw [List.getElem?_map] at hd he
    obtain ⟨p, hp, rfl⟩ := Option.map_eq_some_iff.mp hd
    rw [hp] at he
    cases he
    have hp' := List.mem_of_getElem? hp
    refine g_name (by tm_at "at") ⟨rfl, rfl, ts_nil ⟨Same.refl _, ?_⟩⟩
    show RE _ _ _ _ _
    refine e_callZ das ?_
    tm_at "st"
    refine e_tupD ?_
    tm_at "st"
    refine e_tupD ?_
    tm_at "go"
    refine tupend (ds := [asD p]) (.cons hx .nil) (Nat.le_of_ble_eq_true rfl) fun v1 Hb sb hb => ?_
    tm_at "go"
    refine tupend (ds := [.str r.name, r.guard.d, .tuple [asD p]]) (.cons (.str _) (.cons (hgf.mono (tp_same (s.trans sb))) (.cons hb .nil))) (Nat.le_of_ble_eq_true rfl) fun v2 Hc sc h2 => ?_
    tm_at "go"
    obtain ⟨c1, c2, _⟩ := three (shf.trans (s.trans (sb.trans sc)))
    refine ⟨_, _, .cons c1 (.cons h2 (.cons c2 .nil)), ⟨rs, st, ⟨r.name, r.guard, [p]⟩, rfl, S, fit_one R hp', rfl⟩, fun v3 Hd3 sd h3 _ => ?_⟩
    exact ⟨sb.trans (sc.trans sd), _, rfl, h3⟩
  have al3 : ∀ e ∈ (r.as.map fun p => asgD (al rs st r p)), Shp 3 e := fun e he => by
    obtain ⟨p, _, rfl⟩ := List.mem_map.mp he
    exact asgShp _
  have sha := shf.trans sa
  refine b_cut (fun σ1 H' => ∃ (w9 w10 w11 w12 : Option V), σ1 = [some vc, some vr, some vst, some (.str r.name), some vg, some vl, some va, some (.ref lo), v8', w9, w10, w11, w12, none, none, none] ∧ Same Hg H') ?_ ?_
  · tm_at "go"
    refine ro_notInDL (n := 3) .non ga ha shp_non al3 (by decide) ?_
    refine ⟨_, rfl, ?_⟩
    refine ifnb (fun c => ?_) (fun c => ?_)
    · have all : ∀ p ∈ r.as, al rs st r p ≠ none := fun p hp e => by
        have := none_in.mpr ⟨p, hp, e⟩
        rw [c] at this
        cases this
      obtain ⟨es, e1, e2, e3⟩ := al_all G.two R.ne all
      have e4 : (r.as.map fun p => asgD (al rs st r p)) = es.map fun e => asgD (some [e]) := by
        have := congrArg (List.map asgD) e1
        rw [List.map_map, List.map_map] at this
        exact this
      rw [e4] at ha
      refine b_cons (s_setLc (own := [("_law_own", 14)]) (by tm_at "at") (Blk.of (N := N__law_rule_right) (sc := defScope s__law_rule_right) rfl rfl (by decide +kernel)) ?_)
      refine lcL_F gSp ?_
      tm_at "go"
      refine ⟨la, us, _, rfl, .of ga, ha, by rw [List.length_map]; exact Nat.le_trans e2 (Nat.le_of_ble_eq_true rfl), fun d x H' hd s hx => ?_, fun lb ub Hb sb nb gb hb => ?_⟩
      · obtain ⟨e, he, rfl⟩ := List.mem_map.mp hd
        refine g_name (by tm_at "at") ⟨rfl, rfl, ts_nil ⟨Same.refl _, ?_⟩⟩
        show RE _ _ _ _ _
        tm_at "go"
        refine rx_tup (show Dt M.K H' x (.tuple [entD e]) from hx) (d := entD e) rfl fun v1 h1 => ?_
        tm_at "go"
        exact ⟨Same.refl _, _, rfl, .int _⟩
      rw [gSp_all] at hb
      tm_at "go"
      refine e_lc (own := [("_law_k", 15)]) (Blk.of (N := N__law_rule_right) (sc := defScope s__law_rule_right) rfl rfl (by decide +kernel)) ?_
      refine lcL_F gKz ?_
      tm_at "go"
      refine ⟨lb, ub, _, rfl, .of gb, hb, by rw [List.length_map, List.length_map]; exact Nat.le_trans e2 (Nat.le_of_ble_eq_true rfl), fun d x H' hd s hx => ?_, fun lc uc Hc sc nc gc hc2 => ?_⟩
      · obtain ⟨i, hi, rfl⟩ := List.mem_map.mp hd
        cases hx
        refine g_name (by tm_at "at") ⟨rfl, rfl, ts_nil ⟨Same.refl _, ?_⟩⟩
        show RE _ _ _ _ _
        refine e_tupD ?_
        tm_at "go"
        refine tupend (ds := [.int i, .int 0]) (.cons (.int _) (.cons (.int _) .nil)) (Nat.le_of_ble_eq_true rfl) fun v1 H1 s1 h1 => ?_
        exact ⟨s1, _, rfl, h1⟩
      rw [gKz_all] at hc2
      obtain ⟨ts, rfl, hp⟩ := ents_refs hc2
      tm_at "go"
      refine rc_dictL (.of gc) hp fun pd Hd3 sd3 nd3 gd3 => ?_
      rw [kz_kvE] at gd3
      tm_at "go"
      refine rc_lenK gd3 ?_
      tm_at "go"
      refine rc_lenL (.of ((sc.trans sd3) _ _ gb)) ?_
      have lub := hb.len
      rw [List.length_map, List.length_map] at lub
      have sad3 := sb.trans (sc.trans sd3)
      have had := ha.mono (tp_same sad3)
      have gad := sad3 _ _ ga
      have szd := sha.trans sad3
      have c3d := (three szd).2.2
      clear hc2 hp gd3 gc
      tm_at "go"
      refine t_val ?_
      tm_at "go"
      refine ifd (fun c1 => ?_) (fun c1 => ?_)
      · have e5 : asg rs st r = some (sortE es) := by rw [e3, if_pos (by omega)]
        tm_at "go"
        refine e_lc (own := [("_law_own", 14)]) (Blk.of (N := N__law_rule_right) (sc := defScope s__law_rule_right) rfl rfl (by decide +kernel)) ?_
        refine lcL_F gFst ?_
        tm_at "go"
        refine ⟨la, us, _, rfl, .of gad, had, by rw [List.length_map]; exact Nat.le_trans e2 (Nat.le_of_ble_eq_true rfl), fun d x H' hd s hx => ?_, fun lf uf Hf sf nf gf hf => ?_⟩
        · obtain ⟨e, he, rfl⟩ := List.mem_map.mp hd
          refine g_name (by tm_at "at") ⟨rfl, rfl, ts_nil ⟨Same.refl _, ?_⟩⟩
          show RE _ _ _ _ _
          tm_at "go"
          refine rx_tup (show Dt M.K H' x (.tuple [entD e]) from hx) (d := entD e) rfl fun v1 h1 => ?_
          exact ⟨Same.refl _, _, rfl, h1⟩
        rw [gFst_all] at hf
        tm_at "go"
        refine rc_sortedD gf hf fun lg ug Hg2 sg2 ng2 gg2 hg2 => ?_
        tm_at "go"
        refine rc_tupL (.of gg2) hg2 fun vd Hh2 sh2 hd2 => ?_
        have s3 := sf.trans (sg2.trans sh2)
        tm_at "go"
        refine ro_neSame (c3d.mono (tp_same s3)) hd2 (by rw [e5]; rfl) (asgShp _) (by decide) ?_
        refine ⟨_, rfl, iff0 ?_⟩
        tm_at "go"
        exact ⟨_, _, _, _, rfl, szd.trans s3⟩
      · have e5 : asg rs st r = none := by rw [e3, if_neg (by omega)]
        tm_at "go"
        refine ro_neSame c3d (.non : Dt M.K Hd3 .non .none) (by rw [e5]; rfl) (asgShp _) (by decide) ?_
        refine ⟨_, rfl, iff0 ?_⟩
        tm_at "go"
        exact ⟨_, _, _, _, rfl, szd⟩
    · have no := al_none G.two R.ne (none_in.mp c)
      have e0 : va = .non := by
        have := ha4
        rw [no] at this
        exact Dt.nonE this
      subst e0
      tm_at "go"
      exact ⟨_, _, _, _, rfl, sha⟩
  rintro _ Hz ⟨w9, w10, w11, w12, rfl, sz⟩
  have hgz := hg4.mono (tp_same (s4g.trans sz))
  have hlz := hl4.mono (tp_same (s4g.trans sz))
  have hrz := (show Dt M.K H vr r.d from hr).mono (tp_same ((by assumption : Same H H4).trans (s4g.trans sz)))
  refine b_cut (fun σ1 H' => ∃ (x dx : Addr) (v : V), σ1 = [some vc, some vr, some vst, some (.str r.name), some vg, some vl, some va, some (.ref lo), v8', w9, w10, w11, w12, some (.ref x), none, none] ∧ Same Hz H' ∧ H' x = some (.ins C dx [("_form", v)]) ∧ Dt M.K H' v r.d) ?_ ?_
  · tm_at "go"
    refine rc_lenT hlz ?_
    tm_at "go"
    refine ifd (fun c1 => ?_) (fun c1 => ?_)
    · have e1 : ∃ p, r.as = [p] := by
        rcases two_cases G.two R.ne with h | ⟨p, q, h⟩
        · exact h
        · rw [h] at c1; exact absurd c1 (by simp)
      obtain ⟨p, ep⟩ := e1
      refine e_make dmk ?_
      tm_at "go"
      refine rx_tup hlz (d := asD p) (by rw [ep]; rfl) fun v1 h1 => ?_
      tm_at "go"
      refine k_cons ?_
      tm_at "go"
      refine k_nil ⟨rfl, rfl, fun x dx nx nd ne => ?_⟩
      have tn := (tp_same (same_new (o := .own x) nd)).trans (tp_same (same_new (o := .ins C dx []) (show upd Hz dx (.own x) x = none by rw [upd_ne (Ne.symm ne)]; exact nx)))
      refine ⟨x, dx, _, v1, [], vg, r.name, r.guard.d, [asD p], rfl, rfl, upd_same, .str _, hgz.mono tn, r.guard.plain, .cons (h1.mono tn) .nil, fun d hd => lot_ok R d (by rw [ep]; exact hd), (Nat.le_of_ble_eq_true rfl), fun H' v kk kx kv => ⟨rfl, ?_⟩⟩
      tm_at "go"
      exact ⟨x, dx, v, rfl, same_made nx nd kk, kx, by rw [Rl.d, ep]; exact kv⟩
    · have e1 : ∃ p q, r.as = [p, q] := by
        rcases two_cases G.two R.ne with ⟨p, h⟩ | h
        · rw [h] at c1; exact absurd rfl c1
        · exact h
      obtain ⟨p, q, ep⟩ := e1
      refine e_make dmk3 ?_
      tm_at "go"
      refine rx_tup hlz (d := asD p) (by rw [ep]; rfl) fun v1 h1 => ?_
      tm_at "go"
      refine rx_tup hlz (d := asD q) (by rw [ep]; rfl) fun v2 h2 => ?_
      tm_at "go"
      refine k_cons ?_
      tm_at "go"
      refine k_nil ⟨rfl, rfl, fun x dx nx nd ne => ?_⟩
      have tn := (tp_same (same_new (o := .own x) nd)).trans (tp_same (same_new (o := .ins C dx []) (show upd Hz dx (.own x) x = none by rw [upd_ne (Ne.symm ne)]; exact nx)))
      refine ⟨x, dx, _, v1, [v2], vg, r.name, r.guard.d, [asD p, asD q], rfl, rfl, upd_same, .str _, hgz.mono tn, r.guard.plain, .cons (h1.mono tn) (.cons (h2.mono tn) .nil), fun d hd => lot_ok R d (by rw [ep]; exact hd), (Nat.le_of_ble_eq_true rfl), fun H' v kk kx kv => ⟨rfl, ?_⟩⟩
      tm_at "go"
      exact ⟨x, dx, v, rfl, same_made nx nd kk, kx, by rw [Rl.d, ep]; exact kv⟩
  rintro _ Hy ⟨x, dx, v, rfl, sy, hx, hv⟩
  obtain ⟨c1, c2, c3⟩ := three (sz.trans sy)
  have hry := hrz.mono (tp_same sy)
  tm_at "go"
  refine e_meth dma ?_ (ht := fun _ => rfl)
  tm_at "go"
  refine ⟨x, dx, _, rfl, hx, rfl, ?_⟩
  tm_at "go"
  refine ⟨x, dx, v, _, _, rs, st, r, rfl, hx, hv, c1, c2, S, R, fun u Hx sx hu => ?_⟩
  tm_at "go"
  refine ro_eqSame hu (c3.mono (tp_same sx)) rfl (asgShp _) (by decide) ?_
  refine ⟨_, rfl, iff0 ?_⟩
  tm_at "go"
  refine e_callF dbe ?_
  tm_at "go"
  refine ⟨_, _, .cons (c1.mono (tp_same sx)) (.cons (hry.mono (tp_same sx)) (.cons (c2.mono (tp_same sx)) .nil)), ⟨rs, st, r, rfl, S, R, rfl⟩, fun v5 H5 s5 h5 => ?_⟩
  tm_at "go"
  have sx5 := sx.trans s5
  refine e_callO dmc ?_
  tm_at "go"
  have hx5 := sx5 _ _ hx
  refine ⟨⟨dx, _, hx5⟩, x, dx, v, _, _, rs, st, r, rfl, hx5, hv.mono (tp_same sx5), c1.mono (tp_same sx5), c2.mono (tp_same sx5), S, R, fun u2 H6 s6 hu2 => ?_⟩
  refine ro_eqSame (h5.mono (tp_same s6)) hu2 rfl (stShp _) (by decide) ?_
  exact k _ _ ((by assumption : Same H H4).trans (s4g.trans (sz.trans (sy.trans (sx5.trans s6))))) (.bl true)
end K

namespace G
open PySem PySem.Spec PyProof.Rows L2
/-! ### the law's call, for a def that is proved where no text of an object is being written -/
section
variable {P : Program} {w : World} {K : PySem.W.Frag} {mg mb : Str → Option Value} {k : Nat}
variable {fa sc : Addr} {fd : FuncData} {x : Str} {sp : Sp} {st : Shared} {us : List Value} {ns : List Int}
abbrev scrO (us : List Value) : Obj := { cls := .type "list", data := .seq us.toArray }
/-- how the call ends -/
abbrev Ended (st : Shared) : Result → Shared → Prop := fun r s2 =>
  r = .ok (.ret (.bool true)) ∧ OldK st.heap s2.heap ∧ s2.os = st.os ∧ AllBare s2.gens
theorem begun {H : Hp} (kin : K.In st.heap) (nsg : st.heap.Ns mainGlobals mg) (nsb : st.heap.Ns builtinsNs mb)
    (bis : ∀ y : Str, y ≠ "__name__" → mb y = bootBuiltins y) (lim : st.heap.NoLimit) (gens : st.gens = #[])
    (obj : st.heap.get? sc = some (scrO us)) (ars : IntsAre us ns) (few : ns.length ≤ sizeLine) (room : Room k callerA)
    (F : ∀ bs : Heap, K.In bs → bs.Ns mainGlobals mg → FnQ P w K mg bs CX0 k fa fd [x] sp)
    (bnd : ∀ (s : Shared) (u : Value), BindsTo s fd ⟨[u], []⟩ [(x, u)])
    (seen : ∀ b u, H b = some u → b = sc ∧ K.lookup sc = none ∧ u = .frz (scrO us) (.lst (ns.map V.int)))
    (want : sp [.ref sc] H (fun v _ => v = .bl true) fun _ _ _ => False) :
    codeAny (model P w) callerA (.call (.ref fa) ⟨[.ref sc], []⟩) (Ended st) st := by
  have clear : ∀ {b : Addr}, b ≠ sc → H b = none := fun {b} nb => by
    cases e : H b with
    | none => rfl
    | some u => exact absurd (seen b u e).1 nb
  have far : ∀ {b : Addr} {m : Str → Option Value}, st.heap.Ns b m → (hidT st.heap H).Ns b m := by
    rintro b m ⟨o, es, ep, e, isd, r⟩
    refine ⟨o, es, ep, hidT_get e (clear fun q => ?_), isd, r⟩
    subst q
    cases obj.symm.trans e
    have isd2 : Data.seq us.toArray _ = Data.dict es ep := isd
    cases isd2
  have mod : Mod K mg (hidT st.heap H) := by
    refine ⟨fun b o e => hidT_get (kin b o e) ?_, far nsg, ⟨mb, far nsb, bis⟩, ?_⟩
    · cases q : H b with
      | none => rfl
      | some u =>
        obtain ⟨rfl, non, _⟩ := seen b u q
        cases non.symm.trans e
    · obtain ⟨mc, l1, l2⟩ := lim
      exact ⟨mc, far l1, l2⟩
  have laid : HOk P w H st.heap := fun b u q => by
    obtain ⟨rfl, _, rfl⟩ := seen b u q
    exact ⟨obj, by rw [List.length_map]; exact few, us, _, vals_ints ars, obj⟩
  have env : Env0 P w K mg (hidT st.heap H) callerA [] st H :=
    { frames := rfl
      mod := mod
      bs := fun _ _ => of_hidT
      bsz := Nat.le_of_eq (hidT_size ..)
      funs := trivial
      frf := fun b q => absurd (show b ∈ ([] : List Addr) from q) List.not_mem_nil
      hok := laid
      bare := .of_eq gens }
  have run := (F _ mod.kin mod.glob).run callerA [] st H ⟨[.ref sc], []⟩ [.ref sc] [.ref sc] _ _ rfl room env (bnd st _) (.cons rfl .nil) want
  refine codeAny_mono run fun r s2 z => ?_
  match r, z with
  | .ok (.ret u), ⟨v, H2, os2, bare2, un2, laid2, rv2, q2⟩ =>
    obtain rfl : v = .bl true := q2
    obtain rfl : u = Value.bool true := rv2
    refine ⟨rfl, .of_keep fun b o e => ?_, os2, bare2⟩
    cases q : H b with
    | none => exact un2.keep b o e q (fun m => absurd (show b ∈ ([] : List Addr) from m) List.not_mem_nil) List.not_mem_nil
    | some y =>
      obtain ⟨rfl, _, rfl⟩ := seen b y q
      obtain ⟨e2, _⟩ := laid2 b _ (un2.frzs b _ _ q)
      cases obj.symm.trans e
      exact e2
theorem begunAll (kin : K.In st.heap) (nsg : st.heap.Ns mainGlobals mg) (nsb : st.heap.Ns builtinsNs mb)
    (bis : ∀ y : Str, y ≠ "__name__" → mb y = bootBuiltins y) (lim : st.heap.NoLimit) (gens : st.gens = #[])
    (obj : st.heap.get? sc = some (scrO us)) (ars : IntsAre us ns) (few : ns.length ≤ sizeLine) (room : Room k callerA)
    (F : ∀ bs : Heap, K.In bs → bs.Ns mainGlobals mg → FnQ P w K mg bs CX0 k fa fd [x] sp)
    (bnd : ∀ (s : Shared) (u : Value), BindsTo s fd ⟨[u], []⟩ [(x, u)])
    (want : ∀ H : Hp, SqL K H sc (ns.map V.int) → sp [.ref sc] H (fun v _ => v = .bl true) fun _ _ _ => False) :
    codeAny (model P w) callerA (.call (.ref fa) ⟨[.ref sc], []⟩) (Ended st) st := by
  cases lk : K.lookup sc with
  | none =>
    let H1 : Hp := fun b => if b = sc then some (.frz (scrO us) (.lst (ns.map V.int))) else none
    have h1 : H1 sc = some (.frz (scrO us) (.lst (ns.map V.int))) := if_pos rfl
    refine begun (H := H1) kin nsg nsb bis lim gens obj ars few room F bnd (fun b u q => ?_) (want H1 (.inl (.inr ⟨_, h1⟩)))
    by_cases e : b = sc
    · subst e
      exact ⟨rfl, lk, Option.some.inj (q.symm.trans h1)⟩
    · have q2 : H1 b = none := if_neg e
      cases q2.symm.trans q
  | some o =>
    have len := ars.length
    cases obj.symm.trans (kin sc o lk)
    have sq : SqL K (fun _ => none) sc (ns.map V.int) := by
      refine .inr ⟨_, us.toArray, _, lk, rfl, rfl, rfl, ?_, ?_⟩
      · rw [List.size_toArray, len]
        exact few
      · simpa using vals_ints ars
    exact begun (H := fun _ => none) kin nsg nsb bis lim gens obj ars few room F bnd (fun _ _ q => nomatch q) (want _ sq)
end
end G
namespace G
open PySem PySem.Spec PyProof.Rows L2
theorem walk_begun {l : PySem.W.OpenLaw} {n k : Nat} {q : Program} {loose : List Str} {d : DefRec} {x : Str}
    {XP : (Str → Option Value) → Heap → Prop} {YP : World → Heap → Prop} (most : l.most = some n) (small : n ≤ sizeLine) (nod : d.params.defaults = [])
    (room : Room k callerA) (F : ∀ (w : World) (mg : Str → Option Value) (fa : Addr) (h : Heap), YP w h → h.Ns mainGlobals mg →
      mg d.name = some (.ref fa) → ∃ (K : PySem.W.Frag) (fd : FuncData) (sp : Sp), K.In h ∧
        (∀ (s : Shared) (u : Value), BindsTo s fd ⟨[u], []⟩ [(x, u)]) ∧
        (∀ (H : Hp) (a : Addr) (ns : List Int), ns.length ≤ n → SqL K H a (ns.map V.int) →
          sp [.ref a] H (fun v _ => v = .bl true) fun _ _ _ => False) ∧
        ∀ bs : Heap, K.In bs → bs.Ns mainGlobals mg → FnQ l.prog w K mg bs CX0 k fa fd [x] sp) :
    PySem.W.WalkO q loose XP YP l.row.toRowW d [] (fun f vs => PySem.call f vs) := by
  refine Att.attach_call most nod ?_
  intro w s0 s1 mg mb fa o pm cd doc a vs ns T Y _ _ _ hmg obj ars len gens
  obtain ⟨K, fd, sp, kin, bnd, want, ok⟩ := F w mg fa _ Y T.T.g hmg
  exact begunAll kin T.T.g T.T.b T.T.builtins T.T.nolimit gens obj ars (Nat.le_trans len small) room ok bnd fun H sq => want H a ns len sq
end G

namespace K
open PySem PySem.Spec PyProof.Rows L2 G
theorem fun_of {F : PySem.W.Frag} {x qual : Str} {st : Stmt} {f : Addr} {fd : FuncData} {kws : List (Str × V)} (z : FunD F x qual (defArgs st) (defBody st) (defScope st) [] kws f fd) : Fun F x qual st f fd := by
  obtain ⟨oc, od, dV, kV, doc, pm, an, cdv, ct, osl, e, lk, hcd, hD, _⟩ := z.ex
  rcases hD with ⟨_, rfl⟩ | ⟨h, _⟩
  · exact ⟨⟨oc, od, kV, doc, pm, an, cdv, ct, osl, e, lk, hcd⟩, z.kp⟩
  · exact absurd rfl h
theorem dc_of {M : Md} {x : Str} {st : Stmt} {f : Addr} {fd : FuncData} {ps : List Str} {k : Nat} {sp : Sp} (z : FunD M.K x x (defArgs st) (defBody st) (defScope st) [] [] f fd) (hm : M.mg x = some (.ref f))
    (hb : ∀ (kV doc pm : Value) (an : Option Addr) (cdv ct : Value) (us : List Value), us.length = ps.length → bindArgs (PySem.W.fnOf x x (defArgs st) (defBody st) (defScope st) .none kV doc pm an cdv ct) ⟨us, []⟩ = pure (ps.zip us))
    (ok : Fun M.K x x st f fd → FnG M.prog M.w M.K M.mg M.base CX0 k f fd ps sp) : Dc M x ps k sp := ⟨f, fd, ok (fun_of z), hm, z.kp, z.bindsN hb⟩
theorem kw_ofG {K : PySem.W.Frag} {x : Str} {st : Stmt} {f : Addr} {fd : FuncData} {kws : List (Str × V)} {ag : Args} {bs : List (Str × Value)} (z : FunD K x x (defArgs st) (defBody st) (defScope st) [] kws f fd)
    (h : ∀ (kV doc pm : Value) (an : Option Addr) (cdv ct : Value), bindArgs (PySem.W.fnOf x x (defArgs st) (defBody st) (defScope st) .none kV doc pm an cdv ct) ag = pure bs) (s : Shared) : BindsTo s fd ag bs := by
  obtain ⟨_, _, _, kV, doc, pm, an, cdv, ct, _, e, _, _, hD, _⟩ := z.ex
  subst e
  rcases hD with ⟨_, e⟩ | ⟨e, _⟩
  · subst e
    exact .of_eq (h kV doc pm an cdv ct)
  · exact absurd rfl e
set_option maxHeartbeats 4000000 in
theorem whole {M : Md} (b : Bl M) (b2 : Bl2 M) (lz : Lz M) (bx : Bx M) (hR : M.mg "Rule" = some (.ref (He.ga M.K "Rule"))) (hA : M.mg "assigned_rules" = some (.ref (He.ga M.K "assigned_rules"))) (rc : RuleC M.K (He.ga M.K "Rule")) (mk : Mk M.K (He.ga M.K "Rule") (He.ma M.K (He.ga M.K "Rule") "__init__"))
    (ma : Meth M.K (He.ga M.K "Rule") "assigned" (He.ma M.K (He.ga M.K "Rule") "assigned")) (co : StX.CallO M.K (He.ga M.K "Rule") (He.ma M.K (He.ga M.K "Rule") "__call__"))
    (D : ∀ (i : Nat) (d : He.DefD), fns[i]? = some d → ∃ fd, FunD M.K d.name d.qual d.params d.body d.scope (d.dvs M.K) (d.kws M.K) (He.fAd M.K d.at_) fd) (g : ∀ (i : Nat) (x : Str), fas[i]? = some (.glo x) → M.mg x = some (.ref (He.ga M.K x)))
    {fd : FuncData} (zl : FunD M.K "law" "law" (defArgs s_law) (defBody s_law) (defScope s_law) [] [] (He.ga M.K "law") fd) : FnQ M.prog M.w M.K M.mg M.base CX0 21 (He.ga M.K "law") fd ["_law_script"] (spLaw M.K) := by
  obtain ⟨w__wall, z__wall⟩ : ∃ fd, FunD M.K "_wall" "_wall" (defArgs s__wall) (defBody s__wall) (defScope s__wall) [] [] (He.ga M.K "_wall") fd := D 0 _ rfl
  have m__wall : M.mg "_wall" = some (.ref (He.ga M.K "_wall")) := g 0 _ rfl
  obtain ⟨w_row_width, z_row_width⟩ : ∃ fd, FunD M.K "row_width" "row_width" (defArgs s_row_width) (defBody s_row_width) (defScope s_row_width) [] [] (He.ga M.K "row_width") fd := D 1 _ rfl
  have m_row_width : M.mg "row_width" = some (.ref (He.ga M.K "row_width")) := g 1 _ rfl
  obtain ⟨w_cell_ranges, z_cell_ranges⟩ : ∃ fd, FunD M.K "cell_ranges" "cell_ranges" (defArgs s_cell_ranges) (defBody s_cell_ranges) (defScope s_cell_ranges) [] [] (He.ga M.K "cell_ranges") fd := D 2 _ rfl
  have m_cell_ranges : M.mg "cell_ranges" = some (.ref (He.ga M.K "cell_ranges")) := g 2 _ rfl
  obtain ⟨w_found_index, z_found_index⟩ : ∃ fd, FunD M.K "found_index" "found_index" (defArgs s_found_index) (defBody s_found_index) (defScope s_found_index) [] [] (He.ga M.K "found_index") fd := D 3 _ rfl
  have m_found_index : M.mg "found_index" = some (.ref (He.ga M.K "found_index")) := g 3 _ rfl
  obtain ⟨w_cell_index, z_cell_index⟩ : ∃ fd, FunD M.K "cell_index" "cell_index" (defArgs s_cell_index) (defBody s_cell_index) (defScope s_cell_index) [] [("key", V.non)] (He.ga M.K "cell_index") fd := D 4 _ rfl
  have m_cell_index : M.mg "cell_index" = some (.ref (He.ga M.K "cell_index")) := g 4 _ rfl
  obtain ⟨w_value_in, z_value_in⟩ : ∃ fd, FunD M.K "value_in" "value_in" (defArgs s_value_in) (defBody s_value_in) (defScope s_value_in) [] [] (He.ga M.K "value_in") fd := D 5 _ rfl
  have m_value_in : M.mg "value_in" = some (.ref (He.ga M.K "value_in")) := g 5 _ rfl
  obtain ⟨w_looked_at, z_looked_at⟩ : ∃ fd, FunD M.K "looked_at" "looked_at" (defArgs s_looked_at) (defBody s_looked_at) (defScope s_looked_at) [] [] (He.ga M.K "looked_at") fd := D 6 _ rfl
  have m_looked_at : M.mg "looked_at" = some (.ref (He.ga M.K "looked_at")) := g 6 _ rfl
  obtain ⟨w_first_looks, z_first_looks⟩ : ∃ fd, FunD M.K "first_looks" "first_looks" (defArgs s_first_looks) (defBody s_first_looks) (defScope s_first_looks) [] [] (He.ga M.K "first_looks") fd := D 7 _ rfl
  have m_first_looks : M.mg "first_looks" = some (.ref (He.ga M.K "first_looks")) := g 7 _ rfl
  obtain ⟨w_evaluated, z_evaluated⟩ : ∃ fd, FunD M.K "evaluated" "evaluated" (defArgs s_evaluated) (defBody s_evaluated) (defScope s_evaluated) [] [] (He.ga M.K "evaluated") fd := D 8 _ rfl
  have m_evaluated : M.mg "evaluated" = some (.ref (He.ga M.K "evaluated")) := g 8 _ rfl
  obtain ⟨w_keyed_index, z_keyed_index⟩ : ∃ fd, FunD M.K "keyed_index" "keyed_index" (defArgs s_keyed_index) (defBody s_keyed_index) (defScope s_keyed_index) [] [] (He.ga M.K "keyed_index") fd := D 9 _ rfl
  have m_keyed_index : M.mg "keyed_index" = some (.ref (He.ga M.K "keyed_index")) := g 9 _ rfl
  obtain ⟨w__lazy_value, z__lazy_value⟩ : ∃ fd, FunD M.K "_lazy_value" "_lazy_value" (defArgs s__lazy_value) (defBody s__lazy_value) (defScope s__lazy_value) [] [] (He.ga M.K "_lazy_value") fd := D 10 _ rfl
  have m__lazy_value : M.mg "_lazy_value" = some (.ref (He.ga M.K "_lazy_value")) := g 10 _ rfl
  obtain ⟨w__full_value, z__full_value⟩ : ∃ fd, FunD M.K "_full_value" "_full_value" (defArgs s__full_value) (defBody s__full_value) (defScope s__full_value) [] [] (He.ga M.K "_full_value") fd := D 11 _ rfl
  have m__full_value : M.mg "_full_value" = some (.ref (He.ga M.K "_full_value")) := g 11 _ rfl
  obtain ⟨w__of_one, z__of_one⟩ : ∃ fd, FunD M.K "_of_one" "_of_one" (defArgs s__of_one) (defBody s__of_one) (defScope s__of_one) [] [] (He.ga M.K "_of_one") fd := D 12 _ rfl
  have m__of_one : M.mg "_of_one" = some (.ref (He.ga M.K "_of_one")) := g 12 _ rfl
  obtain ⟨w_value_of_two, z_value_of_two⟩ : ∃ fd, FunD M.K "value_of_two" "value_of_two" (defArgs s_value_of_two) (defBody s_value_of_two) (defScope s_value_of_two) [] [] (He.ga M.K "value_of_two") fd := D 13 _ rfl
  have m_value_of_two : M.mg "value_of_two" = some (.ref (He.ga M.K "value_of_two")) := g 13 _ rfl
  obtain ⟨w__compared, z__compared⟩ : ∃ fd, FunD M.K "_compared" "_compared" (defArgs s__compared) (defBody s__compared) (defScope s__compared) [] [] (He.ga M.K "_compared") fd := D 14 _ rfl
  have m__compared : M.mg "_compared" = some (.ref (He.ga M.K "_compared")) := g 14 _ rfl
  obtain ⟨w_assigned, z_assigned⟩ : ∃ fd, FunD M.K "assigned" "assigned" (defArgs s_assigned) (defBody s_assigned) (defScope s_assigned) [] [] (He.ga M.K "assigned") fd := D 15 _ rfl
  have m_assigned : M.mg "assigned" = some (.ref (He.ga M.K "assigned")) := g 15 _ rfl
  obtain ⟨w_behind, z_behind⟩ : ∃ fd, FunD M.K "behind" "behind" (defArgs s_behind) (defBody s_behind) (defScope s_behind) [] [] (He.ga M.K "behind") fd := D 16 _ rfl
  have m_behind : M.mg "behind" = some (.ref (He.ga M.K "behind")) := g 16 _ rfl
  obtain ⟨w_looks_of, z_looks_of⟩ : ∃ fd, FunD M.K "looks_of" "looks_of" (defArgs s_looks_of) (defBody s_looks_of) (defScope s_looks_of) [] [] (He.ga M.K "looks_of") fd := D 17 _ rfl
  have m_looks_of : M.mg "looks_of" = some (.ref (He.ga M.K "looks_of")) := g 17 _ rfl
  obtain ⟨w__worked_out, z__worked_out⟩ : ∃ fd, FunD M.K "_worked_out" "_worked_out" (defArgs s__worked_out) (defBody s__worked_out) (defScope s__worked_out) [] [] (He.ga M.K "_worked_out") fd := D 18 _ rfl
  have m__worked_out : M.mg "_worked_out" = some (.ref (He.ga M.K "_worked_out")) := g 18 _ rfl
  obtain ⟨w__target_index, z__target_index⟩ : ∃ fd, FunD M.K "_target_index" "_target_index" (defArgs s__target_index) (defBody s__target_index) (defScope s__target_index) [] [] (He.ga M.K "_target_index") fd := D 19 _ rfl
  have m__target_index : M.mg "_target_index" = some (.ref (He.ga M.K "_target_index")) := g 19 _ rfl
  obtain ⟨w_is_integer, z_is_integer⟩ : ∃ fd, FunD M.K "is_integer" "is_integer" (defArgs s_is_integer) (defBody s_is_integer) (defScope s_is_integer) [] [] (He.ga M.K "is_integer") fd := D 20 _ rfl
  have m_is_integer : M.mg "is_integer" = some (.ref (He.ga M.K "is_integer")) := g 20 _ rfl
  obtain ⟨w_is_name, z_is_name⟩ : ∃ fd, FunD M.K "is_name" "is_name" (defArgs s_is_name) (defBody s_is_name) (defScope s_is_name) [] [] (He.ga M.K "is_name") fd := D 21 _ rfl
  have m_is_name : M.mg "is_name" = some (.ref (He.ga M.K "is_name")) := g 21 _ rfl
  obtain ⟨w_part_count, z_part_count⟩ : ∃ fd, FunD M.K "part_count" "part_count" (defArgs s_part_count) (defBody s_part_count) (defScope s_part_count) [] [] (He.ga M.K "part_count") fd := D 22 _ rfl
  have m_part_count : M.mg "part_count" = some (.ref (He.ga M.K "part_count")) := g 22 _ rfl
  obtain ⟨w_as_expression, z_as_expression⟩ : ∃ fd, FunD M.K "as_expression" "as_expression" (defArgs s_as_expression) (defBody s_as_expression) (defScope s_as_expression) [] [] (He.ga M.K "as_expression") fd := D 23 _ rfl
  have m_as_expression : M.mg "as_expression" = some (.ref (He.ga M.K "as_expression")) := g 23 _ rfl
  obtain ⟨w_as_target, z_as_target⟩ : ∃ fd, FunD M.K "as_target" "as_target" (defArgs s_as_target) (defBody s_as_target) (defScope s_as_target) [] [] (He.ga M.K "as_target") fd := D 24 _ rfl
  have m_as_target : M.mg "as_target" = some (.ref (He.ga M.K "as_target")) := g 24 _ rfl
  obtain ⟨w_is_integer_word, z_is_integer_word⟩ : ∃ fd, FunD M.K "is_integer_word" "is_integer_word" (defArgs s_is_integer_word) (defBody s_is_integer_word) (defScope s_is_integer_word) [] [] (He.ga M.K "is_integer_word") fd := D 25 _ rfl
  have m_is_integer_word : M.mg "is_integer_word" = some (.ref (He.ga M.K "is_integer_word")) := g 25 _ rfl
  obtain ⟨w_take_expression, z_take_expression⟩ : ∃ fd, FunD M.K "take_expression" "take_expression" (defArgs s_take_expression) (defBody s_take_expression) (defScope s_take_expression) [] [] (He.ga M.K "take_expression") fd := D 26 _ rfl
  have m_take_expression : M.mg "take_expression" = some (.ref (He.ga M.K "take_expression")) := g 26 _ rfl
  obtain ⟨w_take_rule, z_take_rule⟩ : ∃ fd, FunD M.K "take_rule" "take_rule" (defArgs s_take_rule) (defBody s_take_rule) (defScope s_take_rule) [] [] (He.ga M.K "take_rule") fd := D 27 _ rfl
  have m_take_rule : M.mg "take_rule" = some (.ref (He.ga M.K "take_rule")) := g 27 _ rfl
  obtain ⟨w__take_form, z__take_form⟩ : ∃ fd, FunD M.K "_take_form" "_take_form" (defArgs s__take_form) (defBody s__take_form) (defScope s__take_form) [] [] (He.ga M.K "_take_form") fd := D 28 _ rfl
  have m__take_form : M.mg "_take_form" = some (.ref (He.ga M.K "_take_form")) := g 28 _ rfl
  obtain ⟨w__take_target, z__take_target⟩ : ∃ fd, FunD M.K "_take_target" "_take_target" (defArgs s__take_target) (defBody s__take_target) (defScope s__take_target) [] [] (He.ga M.K "_take_target") fd := D 29 _ rfl
  have m__take_target : M.mg "_take_target" = some (.ref (He.ga M.K "_take_target")) := g 29 _ rfl
  obtain ⟨w_expression_text, z_expression_text⟩ : ∃ fd, FunD M.K "expression_text" "expression_text" (defArgs s_expression_text) (defBody s_expression_text) (defScope s_expression_text) [] [] (He.ga M.K "expression_text") fd := D 30 _ rfl
  have m_expression_text : M.mg "expression_text" = some (.ref (He.ga M.K "expression_text")) := g 30 _ rfl
  obtain ⟨w_rule_text, z_rule_text⟩ : ∃ fd, FunD M.K "rule_text" "rule_text" (defArgs s_rule_text) (defBody s_rule_text) (defScope s_rule_text) [] [] (He.ga M.K "rule_text") fd := D 31 _ rfl
  have m_rule_text : M.mg "rule_text" = some (.ref (He.ga M.K "rule_text")) := g 31 _ rfl
  obtain ⟨w__assignment_text, z__assignment_text⟩ : ∃ fd, FunD M.K "_assignment_text" "_assignment_text" (defArgs s__assignment_text) (defBody s__assignment_text) (defScope s__assignment_text) [] [] (He.ga M.K "_assignment_text") fd := D 32 _ rfl
  have m__assignment_text : M.mg "_assignment_text" = some (.ref (He.ga M.K "_assignment_text")) := g 32 _ rfl
  obtain ⟨w_form_of, z_form_of⟩ : ∃ fd, FunD M.K "form_of" "form_of" (defArgs s_form_of) (defBody s_form_of) (defScope s_form_of) [] [] (He.ga M.K "form_of") fd := D 33 _ rfl
  have m_form_of : M.mg "form_of" = some (.ref (He.ga M.K "form_of")) := g 33 _ rfl
  obtain ⟨w__target_form, z__target_form⟩ : ∃ fd, FunD M.K "_target_form" "_target_form" (defArgs s__target_form) (defBody s__target_form) (defScope s__target_form) [] [] (He.ga M.K "_target_form") fd := D 34 _ rfl
  have m__target_form : M.mg "_target_form" = some (.ref (He.ga M.K "_target_form")) := g 34 _ rfl
  obtain ⟨w__cell_name, z__cell_name⟩ : ∃ fd, FunD M.K "_cell_name" "_cell_name" (defArgs s__cell_name) (defBody s__cell_name) (defScope s__cell_name) [] [] (He.ga M.K "_cell_name") fd := D 35 _ rfl
  have m__cell_name : M.mg "_cell_name" = some (.ref (He.ga M.K "_cell_name")) := g 35 _ rfl
  obtain ⟨w__law_feed, z__law_feed⟩ : ∃ fd, FunD M.K "_law_feed" "_law_feed" (defArgs s__law_feed) (defBody s__law_feed) (defScope s__law_feed) [] [] (He.ga M.K "_law_feed") fd := D 36 _ rfl
  have m__law_feed : M.mg "_law_feed" = some (.ref (He.ga M.K "_law_feed")) := g 36 _ rfl
  obtain ⟨w__law_draw, z__law_draw⟩ : ∃ fd, FunD M.K "_law_draw" "_law_draw" (defArgs s__law_draw) (defBody s__law_draw) (defScope s__law_draw) [] [] (He.ga M.K "_law_draw") fd := D 37 _ rfl
  have m__law_draw : M.mg "_law_draw" = some (.ref (He.ga M.K "_law_draw")) := g 37 _ rfl
  obtain ⟨w__law_plans, z__law_plans⟩ : ∃ fd, FunD M.K "_law_plans" "_law_plans" (defArgs s__law_plans) (defBody s__law_plans) (defScope s__law_plans) [] [] (He.ga M.K "_law_plans") fd := D 38 _ rfl
  have m__law_plans : M.mg "_law_plans" = some (.ref (He.ga M.K "_law_plans")) := g 38 _ rfl
  obtain ⟨w__law_ranges, z__law_ranges⟩ : ∃ fd, FunD M.K "_law_ranges" "_law_ranges" (defArgs s__law_ranges) (defBody s__law_ranges) (defScope s__law_ranges) [] [] (He.ga M.K "_law_ranges") fd := D 39 _ rfl
  have m__law_ranges : M.mg "_law_ranges" = some (.ref (He.ga M.K "_law_ranges")) := g 39 _ rfl
  obtain ⟨w__law_states, z__law_states⟩ : ∃ fd, FunD M.K "_law_states" "_law_states" (defArgs s__law_states) (defBody s__law_states) (defScope s__law_states) [] [] (He.ga M.K "_law_states") fd := D 40 _ rfl
  have m__law_states : M.mg "_law_states" = some (.ref (He.ga M.K "_law_states")) := g 40 _ rfl
  obtain ⟨w__law_some, z__law_some⟩ : ∃ fd, FunD M.K "_law_some" "_law_some" (defArgs s__law_some) (defBody s__law_some) (defScope s__law_some) [] [] (He.ga M.K "_law_some") fd := D 41 _ rfl
  have m__law_some : M.mg "_law_some" = some (.ref (He.ga M.K "_law_some")) := g 41 _ rfl
  obtain ⟨w__law_power, z__law_power⟩ : ∃ fd, FunD M.K "_law_power" "_law_power" (defArgs s__law_power) (defBody s__law_power) (defScope s__law_power) [] [] (He.ga M.K "_law_power") fd := D 42 _ rfl
  have m__law_power : M.mg "_law_power" = some (.ref (He.ga M.K "_law_power")) := g 42 _ rfl
  obtain ⟨w__law_menu, z__law_menu⟩ : ∃ fd, FunD M.K "_law_menu" "_law_menu" (defArgs s__law_menu) (defBody s__law_menu) (defScope s__law_menu) [] [] (He.ga M.K "_law_menu") fd := D 43 _ rfl
  have m__law_menu : M.mg "_law_menu" = some (.ref (He.ga M.K "_law_menu")) := g 43 _ rfl
  obtain ⟨w__law_rows, z__law_rows⟩ : ∃ fd, FunD M.K "_law_rows" "_law_rows" (defArgs s__law_rows) (defBody s__law_rows) (defScope s__law_rows) [] [] (He.ga M.K "_law_rows") fd := D 44 _ rfl
  have m__law_rows : M.mg "_law_rows" = some (.ref (He.ga M.K "_law_rows")) := g 44 _ rfl
  obtain ⟨w__law_leaf, z__law_leaf⟩ : ∃ fd, FunD M.K "_law_leaf" "_law_leaf" (defArgs s__law_leaf) (defBody s__law_leaf) (defScope s__law_leaf) [] [] (He.ga M.K "_law_leaf") fd := D 45 _ rfl
  have m__law_leaf : M.mg "_law_leaf" = some (.ref (He.ga M.K "_law_leaf")) := g 45 _ rfl
  obtain ⟨w__law_formula, z__law_formula⟩ : ∃ fd, FunD M.K "_law_formula" "_law_formula" (defArgs s__law_formula) (defBody s__law_formula) (defScope s__law_formula) [] [] (He.ga M.K "_law_formula") fd := D 46 _ rfl
  have m__law_formula : M.mg "_law_formula" = some (.ref (He.ga M.K "_law_formula")) := g 46 _ rfl
  obtain ⟨w__law_goal, z__law_goal⟩ : ∃ fd, FunD M.K "_law_goal" "_law_goal" (defArgs s__law_goal) (defBody s__law_goal) (defScope s__law_goal) [] [] (He.ga M.K "_law_goal") fd := D 47 _ rfl
  have m__law_goal : M.mg "_law_goal" = some (.ref (He.ga M.K "_law_goal")) := g 47 _ rfl
  obtain ⟨w__law_rule, z__law_rule⟩ : ∃ fd, FunD M.K "_law_rule" "_law_rule" (defArgs s__law_rule) (defBody s__law_rule) (defScope s__law_rule) [] [] (He.ga M.K "_law_rule") fd := D 48 _ rfl
  have m__law_rule : M.mg "_law_rule" = some (.ref (He.ga M.K "_law_rule")) := g 48 _ rfl
  obtain ⟨w__law_samples, z__law_samples⟩ : ∃ fd, FunD M.K "_law_samples" "_law_samples" (defArgs s__law_samples) (defBody s__law_samples) (defScope s__law_samples) [] [] (He.ga M.K "_law_samples") fd := D 49 _ rfl
  have m__law_samples : M.mg "_law_samples" = some (.ref (He.ga M.K "_law_samples")) := g 49 _ rfl
  obtain ⟨w__law_expected, z__law_expected⟩ : ∃ fd, FunD M.K "_law_expected" "_law_expected" (defArgs s__law_expected) (defBody s__law_expected) (defScope s__law_expected) [] [] (He.ga M.K "_law_expected") fd := D 50 _ rfl
  have m__law_expected : M.mg "_law_expected" = some (.ref (He.ga M.K "_law_expected")) := g 50 _ rfl
  obtain ⟨w__law_expected_looks, z__law_expected_looks⟩ : ∃ fd, FunD M.K "_law_expected_looks" "_law_expected_looks" (defArgs s__law_expected_looks) (defBody s__law_expected_looks) (defScope s__law_expected_looks) [] [] (He.ga M.K "_law_expected_looks") fd := D 51 _ rfl
  have m__law_expected_looks : M.mg "_law_expected_looks" = some (.ref (He.ga M.K "_law_expected_looks")) := g 51 _ rfl
  obtain ⟨w__law_rule_right, z__law_rule_right⟩ : ∃ fd, FunD M.K "_law_rule_right" "_law_rule_right" (defArgs s__law_rule_right) (defBody s__law_rule_right) (defScope s__law_rule_right) [] [] (He.ga M.K "_law_rule_right") fd := D 52 _ rfl
  have m__law_rule_right : M.mg "_law_rule_right" = some (.ref (He.ga M.K "_law_rule_right")) := g 52 _ rfl
  obtain ⟨w__law_fixed, z__law_fixed⟩ : ∃ fd, FunD M.K "_law_fixed" "_law_fixed" (defArgs s__law_fixed) (defBody s__law_fixed) (defScope s__law_fixed) [] [] (He.ga M.K "_law_fixed") fd := D 53 _ rfl
  have m__law_fixed : M.mg "_law_fixed" = some (.ref (He.ga M.K "_law_fixed")) := g 53 _ rfl
  obtain ⟨w_law, z_law⟩ : ∃ fd, FunD M.K "law" "law" (defArgs s_law) (defBody s_law) (defScope s_law) [] [] (He.ga M.K "law") fd := D 54 _ rfl
  have m_law : M.mg "law" = some (.ref (He.ga M.K "law")) := g 54 _ rfl
  obtain ⟨w_assigned_rules, z_assigned_rules⟩ : ∃ fd, FunD M.K "assigned" "assigned" (defArgs s_assigned) (defBody s_assigned) (defScope s_assigned) [] [] (He.ga M.K "assigned_rules") fd := D 55 _ rfl
  have m_assigned_rules : M.mg "assigned_rules" = some (.ref (He.ga M.K "assigned_rules")) := hA
  obtain ⟨w_R_init, z_R_init⟩ : ∃ fd, FunD M.K "__init__" "Rule.__init__" (defArgs s_R_init) (defBody s_R_init) (defScope s_R_init) [] [("guard", V.int 1)] (He.ma M.K (He.ga M.K "Rule") "__init__") fd := D 56 _ rfl
  obtain ⟨w_R_assigned, z_R_assigned⟩ : ∃ fd, FunD M.K "assigned" "Rule.assigned" (defArgs s_R_assigned) (defBody s_R_assigned) (defScope s_R_assigned) [] [] (He.ma M.K (He.ga M.K "Rule") "assigned") fd := D 57 _ rfl
  obtain ⟨w_R_call, z_R_call⟩ : ∃ fd, FunD M.K "__call__" "Rule.__call__" (defArgs s_R_call) (defBody s_R_call) (defScope s_R_call) [] [] (He.ma M.K (He.ga M.K "Rule") "__call__") fd := D 58 _ rfl
  have dw := dc_of (st := s_row_width) z_row_width m_row_width (fun _ _ _ _ _ _ us hl => match us, hl with | [_], _ => rfl) (fun F => ok_width F b)
  have dfi := dc_of (st := s_found_index) z_found_index m_found_index (fun _ _ _ _ _ _ us hl => match us, hl with | [_, _, _], _ => rfl) (fun F => ok_found F dw)
  have dr := dc_of (st := s_cell_ranges) z_cell_ranges m_cell_ranges (fun _ _ _ _ _ _ us hl => match us, hl with | [_], _ => rfl) (fun F => ok_ranges F b dw)
  have dcm := dc_of (st := s__compared) z__compared m__compared (fun _ _ _ _ _ _ us hl => match us, hl with | [_, _, _], _ => rfl) (fun F => ok_cmp F b)
  have d1 := dc_of (st := s__of_one) z__of_one m__of_one (fun _ _ _ _ _ _ us hl => match us, hl with | [_, _], _ => rfl) (fun F => ok_one F b)
  obtain ⟨w_with_assigned, z_with_assigned⟩ : ∃ fd, FunD M.K "with_assigned" "with_assigned" (defArgs s_with_assigned) (defBody s_with_assigned) (defScope s_with_assigned) [] [] (He.ga M.K "with_assigned") fd := D 59 _ rfl
  have m_with_assigned : M.mg "with_assigned" = some (.ref (He.ga M.K "with_assigned")) := g 80 _ rfl
  have dwa := dc_of (st := s_with_assigned) z_with_assigned m_with_assigned (fun _ _ _ _ _ _ us hl => match us, hl with | [_, _], _ => rfl) (fun F => ok_wa F b)
  have d2 := dc_of (st := s_value_of_two) z_value_of_two m_value_of_two (fun _ _ _ _ _ _ us hl => match us, hl with | [_, _, _], _ => rfl) (fun F => ok_two F b dcm)
  obtain ⟨ixd, ixv, ixb⟩ := z_cell_index.binds0 (ps := ["cells", "name", "key"]) 2 (by simp) rfl (fun Dk doc pm an cdv ct us ks hu hk => match us, ks, hu, hk with | [_, _], [_], _, _ => ⟨_, _, _, _, _, _, rfl, rfl, rfl⟩)
  have dx : dcIx M := ⟨_, _, ixd, ok_index (fun_of z_cell_index) b dfi, m_cell_index, z_cell_index.kp, ixb, ixv⟩
  have de : ∀ n, dcEv M n := fun n => Nat.rec (motive := fun n => dcEv M n) (dc_of (st := s_evaluated) z_evaluated m_evaluated (fun _ _ _ _ _ _ us hl => match us, hl with | [_, _, _], _ => rfl) (fun F => ok_ev 0 F b lz dx (fun m h => by omega))) (fun n ih => dc_of (st := s_evaluated) z_evaluated m_evaluated (fun _ _ _ _ _ _ us hl => match us, hl with | [_, _, _], _ => rfl) (fun F => ok_ev (n + 1) F b lz dx (fun m h => match m, Nat.succ.inj h with | _, rfl => ⟨dc_of (st := s_keyed_index) z_keyed_index m_keyed_index (fun _ _ _ _ _ _ us hl => match us, hl with | [_, _, _, _], _ => rfl) (fun F => ok_keyed n F b dfi ih), dc_of (st := s__lazy_value) z__lazy_value m__lazy_value (fun _ _ _ _ _ _ us hl => match us, hl with | [_, _, _], _ => rfl) (fun F => ok_lazy n F b ih), dc_of (st := s__full_value) z__full_value m__full_value (fun _ _ _ _ _ _ us hl => match us, hl with | [_, _, _], _ => rfl) (fun F => ok_full n F b ih d1 d2)⟩))) n
  have dfl := dc_of (st := s_first_looks) z_first_looks m_first_looks (fun _ _ _ _ _ _ us hl => match us, hl with | [_, _], _ => rfl) (fun F => ok_first F b)
  have dk2 := dc_of (st := s_keyed_index) z_keyed_index m_keyed_index (fun _ _ _ _ _ _ us hl => match us, hl with | [_, _, _, _], _ => rfl) (fun F => ok_keyed 2 F b dfi (de 2))
  have dtg := dc_of (st := s__target_index) z__target_index m__target_index (fun _ _ _ _ _ _ us hl => match us, hl with | [_, _, _], _ => rfl) (fun F => ok_tgt F b dfi dk2)
  have dwk := dc_of (st := s__worked_out) z__worked_out m__worked_out (fun _ _ _ _ _ _ us hl => match us, hl with | [_, _, _], _ => rfl) (fun F => ok_work F b (de 2) (de 4) dtg)
  have das : dcAsg M := ⟨_, _, ok_assigned (fun_of z_assigned_rules) b dwk dr, m_assigned_rules, z_assigned_rules.kp, z_assigned_rules.bindsN (fun _ _ _ _ _ _ us hl => match us, hl with | [_, _, _], _ => rfl)⟩
  have dbe := dc_of (st := s_behind) z_behind m_behind (fun _ _ _ _ _ _ us hl => match us, hl with | [_, _, _], _ => rfl) (fun F => ok_behind F b das dwa)
  have dlo := dc_of (st := s_looks_of) z_looks_of m_looks_of (fun _ _ _ _ _ _ us hl => match us, hl with | [_, _, _], _ => rfl) (fun F => ok_lof F b dwk dfl)
  have dv3 := dc_of (st := s_value_in) z_value_in m_value_in (fun _ _ _ _ _ _ us hl => match us, hl with | [_, _, _], _ => rfl) (fun F => ok_value 3 F b (de 3))
  have dl3 := dc_of (st := s_looked_at) z_looked_at m_looked_at (fun _ _ _ _ _ _ us hl => match us, hl with | [_, _, _], _ => rfl) (fun F => ok_looked 3 F b (de 3) dfl)
  have dfe := dc_of (st := s__law_feed) z__law_feed m__law_feed (fun _ _ _ _ _ _ us hl => match us, hl with | [_], _ => rfl) (fun F => ok_feed F b)
  have dd := dc_of (st := s__law_draw) z__law_draw m__law_draw (fun _ _ _ _ _ _ us hl => match us, hl with | [_, _], _ => rfl) (fun F => ok_draw F b)
  have dpl := dc_of (st := s__law_plans) z__law_plans m__law_plans (fun _ _ _ _ _ _ us hl => match us, hl with | [], _ => rfl) (fun F => ok_plans F b)
  have dlr := dc_of (st := s__law_ranges) z__law_ranges m__law_ranges (fun _ _ _ _ _ _ us hl => match us, hl with | [_], _ => rfl) (fun F => ok_lranges F b)
  have dst := dc_of (st := s__law_states) z__law_states m__law_states (fun _ _ _ _ _ _ us hl => match us, hl with | [_], _ => rfl) (fun F => ok_states F b dlr)
  have dso := dc_of (st := s__law_some) z__law_some m__law_some (fun _ _ _ _ _ _ us hl => match us, hl with | [_, _], _ => rfl) (fun F => ok_some F b)
  have dpw := dc_of (st := s__law_power) z__law_power m__law_power (fun _ _ _ _ _ _ us hl => match us, hl with | [_, _], _ => rfl) (fun F => ok_power F b)
  have dme := dc_of (st := s__law_menu) z__law_menu m__law_menu (fun _ _ _ _ _ _ us hl => match us, hl with | [_], _ => rfl) (fun F => ok_menu F b dd)
  have dro := dc_of (st := s__law_rows) z__law_rows m__law_rows (fun _ _ _ _ _ _ us hl => match us, hl with | [_, _], _ => rfl) (fun F => ok_rows F b dd dme dpw)
  have dle := dc_of (st := s__law_leaf) z__law_leaf m__law_leaf (fun _ _ _ _ _ _ us hl => match us, hl with | [_, _], _ => rfl) (fun F => ok_leaf F b dd)
  have dfo : ∀ n, dcForm M n := fun n => Nat.rec (motive := fun n => dcForm M n) (dc_of (st := s__law_formula) z__law_formula m__law_formula (fun _ _ _ _ _ _ us hl => match us, hl with | [_, _, _], _ => rfl) (fun F => ok_form 0 F b dd dle dpl (fun m h => by omega))) (fun n ih => dc_of (st := s__law_formula) z__law_formula m__law_formula (fun _ _ _ _ _ _ us hl => match us, hl with | [_, _, _], _ => rfl) (fun F => ok_form (n + 1) F b dd dle dpl (fun m h => match m, Nat.succ.inj h with | _, rfl => ih))) n
  have dgo := dc_of (st := s__law_goal) z__law_goal m__law_goal (fun _ _ _ _ _ _ us hl => match us, hl with | [_, _], _ => rfl) (fun F => ok_goal F b dd (dfo 1))
  have dru := dc_of (st := s__law_rule) z__law_rule m__law_rule (fun _ _ _ _ _ _ us hl => match us, hl with | [_, _, _], _ => rfl) (fun F => ok_rule2 F b dd (dfo 2) dgo)
  have dsm := dc_of (st := s__law_samples) z__law_samples m__law_samples (fun _ _ _ _ _ _ us hl => match us, hl with | [], _ => rfl) (fun F => ok_samples F b)
  have dfx := dc_of (st := s__law_fixed) z__law_fixed m__law_fixed (fun _ _ _ _ _ _ us hl => match us, hl with | [_], _ => rfl) (fun F => ok_fixed F b)
  have dxk : DcP M "cell_index" ["cells", "name", "key"] 2 ["key"] key2 3 (spF rIndex2 M.K) := ⟨_, _, fun us ws => us ++ ws, ok_index2 (fun_of z_cell_index) b dfi, m_cell_index, z_cell_index.kp, fun s us ws l1 l2 => match us, ws, l1, l2 with | [_, _], [_], _, _ => kw_ofG z_cell_index (fun _ _ _ _ _ _ => rfl) s, fun vs zs us ws r1 r2 _ _ => r1.append r2⟩
  have dex := dc_of (st := s__law_expected) z__law_expected m__law_expected (fun _ _ _ _ _ _ us hl => match us, hl with | [_, _, _], _ => rfl) (fun F => ok_expected F b dv3 dxk dr)
  have del := dc_of (st := s__law_expected_looks) z__law_expected_looks m__law_expected_looks (fun _ _ _ _ _ _ us hl => match us, hl with | [_, _, _], _ => rfl) (fun F => ok_elooks F b dv3 dl3)
  have dfof := dc_of (st := s_form_of) z_form_of m_form_of (fun _ _ _ _ _ _ us hl => match us, hl with | [_], _ => rfl) (fun F => ok_formof F b bx)
  have dtf := dc_of (st := s__target_form) z__target_form m__target_form (fun _ _ _ _ _ _ us hl => match us, hl with | [_], _ => rfl) (fun F => ok_tform F b bx dfof)
  have dmk : DcO M "Rule" (He.ga M.K "Rule") 2 ["guard"] 3 (spInit (He.ga M.K "Rule") M.K) := ok_init (fun_of z_R_init) hR mk b rc dfof dtf 1 (by decide)
  have dmk3 : DcO M "Rule" (He.ga M.K "Rule") 3 ["guard"] 3 (spInit (He.ga M.K "Rule") M.K) := ok_init (fun_of z_R_init) hR mk b rc dfof dtf 2 (by decide)
  have dma : DcM M (He.ga M.K "Rule") "assigned" ["self", "cells", "state"] 15 (spRas (He.ga M.K "Rule") M.K) := ⟨_, _, ok_Rasg (fun_of z_R_assigned) rc das, rc.cls, ma, z_R_assigned.bindsN (fun _ _ _ _ _ _ us hl => match us, hl with | [_, _, _], _ => rfl)⟩
  have dmc : DcC M (He.ga M.K "Rule") 16 (spRca (He.ga M.K "Rule") M.K) := ⟨_, co, ((ok_Rcall (fun_of z_R_call) rc dbe).raw (z_R_call.bindsN (fun _ _ _ _ _ _ us hl => match us, hl with | [_, _, _], _ => rfl)) .nil).imp fun vs H Q E h => by simpa only [List.append_nil] using h⟩
  have drr : DcQ M "_law_rule_right" ["_law_rows_here", "_law_rule_here", "_law_state"] 20 (spF rRr M.K) := ⟨_, _, ok_right (fun_of z__law_rule_right) b b2 das dbe dlo dex del dmk dmk3 dma dmc, m__law_rule_right, z__law_rule_right.kp, z__law_rule_right.bindsN (fun _ _ _ _ _ _ us hl => match us, hl with | [_, _, _], _ => rfl)⟩
  exact ok_law (fun_of zl) b dfe dsm dro dru dst dso dfx drr
end K

namespace K
open PySem PySem.Spec PyProof.Rows L2 G
theorem facts {P : Program} {w : World} {F : PySem.W.Frag} {h : Heap} {mg : Str → Option Value} {f : Addr} (X : F.In h) (N : h.Ns mainGlobals mg) (hf : mg ("law" : Str) = some (.ref f)) (c : He.SaysD fas fns F) (tl : ruleB F = true) :
    ∃ fd : FuncData, (∀ (s : Shared) (v : Value), BindsTo s fd ⟨[v], []⟩ [("_law_script", v)]) ∧ ∀ base : Heap, F.In base → base.Ns mainGlobals mg → FnQ P w F mg base CX0 21 f fd ["_law_script"] (spLaw F) := by
  have glo : ∀ (i : Nat) (x : Str), fas[i]? = some (.glo x) → mg x = some (.ref (He.ga F x)) := fun i x hx => He.glo_ok X N (c.fact i hx)
  have fre : ∀ (i : Nat) (x : Str), fas[i]? = some (.free x) → mg x = none := fun i x hx => He.free_ok X N (c.fact i hx)
  obtain ⟨fd, zl⟩ : ∃ fd, FunD F "law" "law" (defArgs s_law) (defBody s_law) (defScope s_law) [] [] (He.ga F "law") fd := c.def_ 54 rfl
  have e := hf.symm.trans (glo 54 _ rfl)
  cases e
  obtain ⟨t1, t2⟩ := He.ba tl
  obtain ⟨t3, t4⟩ := He.ba t2
  obtain ⟨t5, t6⟩ := He.ba t4
  obtain ⟨t7, t8⟩ := He.ba t6
  have called := He.meth_ok (x := "Rule") (m := "__call__") (c.fact 78 rfl)
  refine ⟨fd, fun s v => FunD.bindsA (ps := ["_law_script"]) zl (fun _ _ _ _ _ _ us hl => match us, hl with | [_], _ => rfl) s [v] rfl, fun base _ _ => ?_⟩
  exact whole (M := ⟨P, w, F, mg, base⟩) ⟨fre 55 _ rfl, fre 56 _ rfl, fre 57 _ rfl, fre 58 _ rfl, fre 59 _ rfl, fre 60 _ rfl, fre 61 _ rfl, fre 62 _ rfl, fre 63 _ rfl, fre 64 _ rfl, fre 65 _ rfl, fre 66 _ rfl, fre 67 _ rfl⟩ ⟨fre 70 _ rfl⟩ ⟨_, glo 71 _ rfl, fun H => He.tupB_ok t1 H⟩
    ⟨_, glo 74 _ rfl, of_decide_eq_true t3, of_decide_eq_true t5, of_decide_eq_true t7⟩ (glo 73 _ rfl) (glo 72 _ rfl) ⟨He.cls_ok (c.fact 75 rfl), He.noat_ok (c.fact 79 rfl)⟩ (He.mkr_ok (c.fact 76 rfl)) (He.meth_ok (c.fact 77 rfl)) ⟨called.at_, called.fn, t8⟩ (fun i d hd => c.def_ i hd) glo zl
end K
open PySem PySem.W PySem.Calls PyProof.Rows
set_option maxHeartbeats 0 in
theorem PySem.Challenge.cw_orderless_k10_whole_rules_by_expressions_holds : PySem.Challenge.rw_orderless_k10_whole_rules_by_expressions.Holds := by
  w_on; o_law
  refine HandSHeadRun.head_any (r := K.Rw) (q := view K.Rw.prog [K.lawAt]) (H := K.ownHook) (ob := K.obT) (M := 9000) (loose := K.loose) (d := HandSHeadRun.topDef K.Rw.prog K.lawAt) (kwd := []) K.obT_eq
    (by kernel_rfl) (fun s => by kernel_rfl) K.topRun (by kernel_rfl) (by kernel_rfl) (by kernel_rfl) (by rfl) (by first | assumption | decide +kernel) (by decide +kernel) ⟨rfl, rfl, rfl, rfl, rfl, by decide +kernel⟩ ?hw ?hc
  case hw => w_witness2
  case hc =>
    refine G.walk_begun (l := PySem.Challenge.rw_orderless_k10_whole_rules_by_expressions) (n := 63) (k := 21) (x := "_law_script") rfl (by decide) (by kernel_rfl) ⟨rfl, by decide, by decide⟩ ?F
    intro w mg fa h Y N hmg0
    obtain ⟨F, FX, c, tl⟩ := Y
    have nm : (HandSHeadRun.topDef K.Rw.prog K.lawAt).name = ("law" : PySem.Str) := by kernel_rfl
    rw [nm] at hmg0
    obtain ⟨fd, hb, ok⟩ := K.facts (P := PySem.Challenge.rw_orderless_k10_whole_rules_by_expressions.prog) (w := w) FX N hmg0 c tl
    exact ⟨F, fd, K.spLaw F, FX, hb, fun H a ns few is => ⟨a, ns, rfl, is, few, fun _ => rfl⟩, ok⟩

