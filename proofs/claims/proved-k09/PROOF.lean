import PyProof.Rows.All
import Wide.All
import OpenK.AllK
import Wide.FinOn
import KE.KStateDown
import HandS.Ends
import HandS.Exc
import HandS.WordsExc
import HandS.Defaults
import HandS.Head0
import HandS.Head1
import HandS.Head2
import HandS.HeadHook1
import HandS.HeadHook2
import HandS.Base
import HandS.Call
import HandS.List
import HandS.Comp
import HandS.Dict
import HandS.Iter
import HandS.Words
import HandS.IsInst
import HandS.Wide
import HandS.Flow
import HandS.TupAny
import HandS.Deep
import HandS.Style
import HandS.Zip
import HandS.SortRule
import KE.KDictPairs
import HandS.WordsDict
import PyProof.P3Eq
import HandS.DictTup
import HandS.SortOrd
import HandS.HeadEnd
import PySem.Challenge.RW_orderless_k09_whole_looks_decide
set_option Elab.async false
set_option linter.all false
set_option maxRecDepth 100000
namespace K
open PySem L2
def top (i : Nat) : Stmt := PySem.Challenge.pw_orderless_k09_whole_looks_decide.main.body.getD i (.Pass ⟨0, 0, 0, 0⟩)
abbrev s_row_width : Stmt := top 5
-- 0:row
abbrev N_row_width : List Str := ["row"]
theorem sc_row_width : FnScope N_row_width ["row"] (defScope s_row_width) := ⟨rfl, rfl, rfl, by decide +kernel, rfl, by decide +kernel, by decide +kernel⟩
abbrev s_cell_ranges : Stmt := top 6
-- 0:cells 1:ranges 2:row
abbrev N_cell_ranges : List Str := ["cells", "ranges", "row"]
theorem sc_cell_ranges : FnScope N_cell_ranges ["cells"] (defScope s_cell_ranges) := ⟨rfl, rfl, rfl, by decide +kernel, rfl, by decide +kernel, by decide +kernel⟩
abbrev s_found_index : Stmt := top 7
-- 0:cells 1:name 2:key 3:begin 4:row
abbrev N_found_index : List Str := ["cells", "name", "key", "begin", "row"]
theorem sc_found_index : FnScope N_found_index ["cells", "name", "key"] (defScope s_found_index) := ⟨rfl, rfl, rfl, by decide +kernel, rfl, by decide +kernel, by decide +kernel⟩
abbrev s_cell_index : Stmt := top 8
-- 0:cells 1:name 2:key 3:index
abbrev N_cell_index : List Str := ["cells", "name", "key", "index"]
theorem sc_cell_index : FnScope N_cell_index ["cells", "name", "key"] (defScope s_cell_index) := ⟨rfl, rfl, rfl, by decide +kernel, rfl, by decide +kernel, by decide +kernel⟩
abbrev s_value_in : Stmt := top 11
-- 0:cells 1:state 2:expression 3:value 4:_
abbrev N_value_in : List Str := ["cells", "state", "expression", "value", "_"]
theorem sc_value_in : FnScope N_value_in ["cells", "state", "expression"] (defScope s_value_in) := ⟨rfl, rfl, rfl, by decide +kernel, rfl, by decide +kernel, by decide +kernel⟩
abbrev s_looked_at : Stmt := top 12
-- 0:cells 1:state 2:expression 3:_ 4:looks
abbrev N_looked_at : List Str := ["cells", "state", "expression", "_", "looks"]
theorem sc_looked_at : FnScope N_looked_at ["cells", "state", "expression"] (defScope s_looked_at) := ⟨rfl, rfl, rfl, by decide +kernel, rfl, by decide +kernel, by decide +kernel⟩
abbrev s_first_looks : Stmt := top 13
-- 0:state 1:looks 2:seen 3:index
abbrev N_first_looks : List Str := ["state", "looks", "seen", "index"]
theorem sc_first_looks : FnScope N_first_looks ["state", "looks"] (defScope s_first_looks) := ⟨rfl, rfl, rfl, by decide +kernel, rfl, by decide +kernel, by decide +kernel⟩
abbrev s_evaluated : Stmt := top 14
-- 0:cells 1:state 2:expression 3:index 4:looks
abbrev N_evaluated : List Str := ["cells", "state", "expression", "index", "looks"]
theorem sc_evaluated : FnScope N_evaluated ["cells", "state", "expression"] (defScope s_evaluated) := ⟨rfl, rfl, rfl, by decide +kernel, rfl, by decide +kernel, by decide +kernel⟩
abbrev s_keyed_index : Stmt := top 15
-- 0:cells 1:state 2:table 3:key 4:value 5:looks
abbrev N_keyed_index : List Str := ["cells", "state", "table", "key", "value", "looks"]
theorem sc_keyed_index : FnScope N_keyed_index ["cells", "state", "table", "key"] (defScope s_keyed_index) := ⟨rfl, rfl, rfl, by decide +kernel, rfl, by decide +kernel, by decide +kernel⟩
abbrev s__lazy_value : Stmt := top 16
-- 0:cells 1:state 2:expression 3:op 4:test 5:looks 6:holds 7:value 8:more
abbrev N__lazy_value : List Str := ["cells", "state", "expression", "op", "test", "looks", "holds", "value", "more"]
theorem sc__lazy_value : FnScope N__lazy_value ["cells", "state", "expression"] (defScope s__lazy_value) := ⟨rfl, rfl, rfl, by decide +kernel, rfl, by decide +kernel, by decide +kernel⟩
abbrev s__full_value : Stmt := top 17
-- 0:cells 1:state 2:expression 3:values 4:looks 5:part 6:value 7:more
abbrev N__full_value : List Str := ["cells", "state", "expression", "values", "looks", "part", "value", "more"]
theorem sc__full_value : FnScope N__full_value ["cells", "state", "expression"] (defScope s__full_value) := ⟨rfl, rfl, rfl, by decide +kernel, rfl, by decide +kernel, by decide +kernel⟩
abbrev s__of_one : Stmt := top 18
-- 0:op 1:value
abbrev N__of_one : List Str := ["op", "value"]
theorem sc__of_one : FnScope N__of_one ["op", "value"] (defScope s__of_one) := ⟨rfl, rfl, rfl, by decide +kernel, rfl, by decide +kernel, by decide +kernel⟩
abbrev s_value_of_two : Stmt := top 19
-- 0:op 1:one 2:other
abbrev N_value_of_two : List Str := ["op", "one", "other"]
theorem sc_value_of_two : FnScope N_value_of_two ["op", "one", "other"] (defScope s_value_of_two) := ⟨rfl, rfl, rfl, by decide +kernel, rfl, by decide +kernel, by decide +kernel⟩
abbrev s__compared : Stmt := top 20
-- 0:op 1:one 2:other
abbrev N__compared : List Str := ["op", "one", "other"]
theorem sc__compared : FnScope N__compared ["op", "one", "other"] (defScope s__compared) := ⟨rfl, rfl, rfl, by decide +kernel, rfl, by decide +kernel, by decide +kernel⟩
abbrev s_assigned : Stmt := top 22
-- 0:cells 1:rule 2:state 3:entries 4:_ 5:index 6:indexes 7:ranges 8:value 9:low 10:high
abbrev N_assigned : List Str := ["cells", "rule", "state", "entries", "_", "index", "indexes", "ranges", "value", "low", "high"]
theorem sc_assigned : FnScope N_assigned ["cells", "rule", "state"] (defScope s_assigned) := ⟨rfl, rfl, rfl, by decide +kernel, rfl, by decide +kernel, by decide +kernel⟩
abbrev s_behind : Stmt := top 23
-- 0:cells 1:rule 2:state
abbrev N_behind : List Str := ["cells", "rule", "state"]
theorem sc_behind : FnScope N_behind ["cells", "rule", "state"] (defScope s_behind) := ⟨rfl, rfl, rfl, by decide +kernel, rfl, by decide +kernel, by decide +kernel⟩
abbrev s_with_assigned : Stmt := top 24
-- 0:state 1:entries 2:values 3:index 4:value
abbrev N_with_assigned : List Str := ["state", "entries", "values", "index", "value"]
theorem sc_with_assigned : FnScope N_with_assigned ["state", "entries"] (defScope s_with_assigned) := ⟨rfl, rfl, rfl, by decide +kernel, rfl, by decide +kernel, by decide +kernel⟩
abbrev s_looks_of : Stmt := top 25
-- 0:cells 1:rule 2:state 3:_ 4:looks
abbrev N_looks_of : List Str := ["cells", "rule", "state", "_", "looks"]
theorem sc_looks_of : FnScope N_looks_of ["cells", "rule", "state"] (defScope s_looks_of) := ⟨rfl, rfl, rfl, by decide +kernel, rfl, by decide +kernel, by decide +kernel⟩
abbrev s__worked_out : Stmt := top 26
-- 0:cells 1:rule 2:state 3:_ 4:guard 5:assignments 6:value 7:looks 8:entries 9:target 10:part 11:index 12:more
abbrev N__worked_out : List Str := ["cells", "rule", "state", "_", "guard", "assignments", "value", "looks", "entries", "target", "part", "index", "more"]
theorem sc__worked_out : FnScope N__worked_out ["cells", "rule", "state"] (defScope s__worked_out) := ⟨rfl, rfl, rfl, by decide +kernel, rfl, by decide +kernel, by decide +kernel⟩
abbrev s__target_index : Stmt := top 27
-- 0:cells 1:state 2:target
abbrev N__target_index : List Str := ["cells", "state", "target"]
theorem sc__target_index : FnScope N__target_index ["cells", "state", "target"] (defScope s__target_index) := ⟨rfl, rfl, rfl, by decide +kernel, rfl, by decide +kernel, by decide +kernel⟩
abbrev s__law_feed : Stmt := top 29
-- 0:_law_script
abbrev N__law_feed : List Str := ["_law_script"]
theorem sc__law_feed : FnScope N__law_feed ["_law_script"] (defScope s__law_feed) := ⟨rfl, rfl, rfl, by decide +kernel, rfl, by decide +kernel, by decide +kernel⟩
abbrev s__law_draw : Stmt := top 30
-- 0:_law_feed_here 1:_law_many 2:_law_digit 3:_law_at 4:_law_cell 5:_law_mixed
abbrev N__law_draw : List Str := ["_law_feed_here", "_law_many", "_law_digit", "_law_at", "_law_cell", "_law_mixed"]
theorem sc__law_draw : FnScope N__law_draw ["_law_feed_here", "_law_many"] (defScope s__law_draw) := ⟨rfl, rfl, rfl, by decide +kernel, rfl, by decide +kernel, by decide +kernel⟩
abbrev s__law_plans : Stmt := top 31
-- 0:_law_found 1:_law_word
abbrev N__law_plans : List Str := ["_law_found", "_law_word"]
theorem sc__law_plans : FnScope N__law_plans [] (defScope s__law_plans) := ⟨rfl, rfl, rfl, by decide +kernel, rfl, by decide +kernel, by decide +kernel⟩
abbrev s__law_ranges : Stmt := top 32
-- 0:_law_rows_here 1:_law_found 2:_law_own
abbrev N__law_ranges : List Str := ["_law_rows_here", "_law_found", "_law_own"]
theorem sc__law_ranges : FnScope N__law_ranges ["_law_rows_here"] (defScope s__law_ranges) := ⟨rfl, rfl, rfl, by decide +kernel, rfl, by decide +kernel, by decide +kernel⟩
abbrev s__law_states : Stmt := top 33
-- 0:_law_rows_here 1:_law_found 2:_law_low 3:_law_high 4:_law_wider 5:_law_own 6:_law_value
abbrev N__law_states : List Str := ["_law_rows_here", "_law_found", "_law_low", "_law_high", "_law_wider", "_law_own", "_law_value"]
theorem sc__law_states : FnScope N__law_states ["_law_rows_here"] (defScope s__law_states) := ⟨rfl, rfl, rfl, by decide +kernel, rfl, by decide +kernel, by decide +kernel⟩
abbrev s__law_some : Stmt := top 34
-- 0:_law_states_now 1:_law_most 2:_law_step
abbrev N__law_some : List Str := ["_law_states_now", "_law_most", "_law_step"]
theorem sc__law_some : FnScope N__law_some ["_law_states_now", "_law_most"] (defScope s__law_some) := ⟨rfl, rfl, rfl, by decide +kernel, rfl, by decide +kernel, by decide +kernel⟩
abbrev s__law_power : Stmt := top 35
-- 0:_law_base 1:_law_many 2:_law_found 3:_law_k
abbrev N__law_power : List Str := ["_law_base", "_law_many", "_law_found", "_law_k"]
theorem sc__law_power : FnScope N__law_power ["_law_base", "_law_many"] (defScope s__law_power) := ⟨rfl, rfl, rfl, by decide +kernel, rfl, by decide +kernel, by decide +kernel⟩
abbrev s__law_menu : Stmt := top 36
-- 0:_law_feed_here 1:_law_menu_here
abbrev N__law_menu : List Str := ["_law_feed_here", "_law_menu_here"]
theorem sc__law_menu : FnScope N__law_menu ["_law_feed_here"] (defScope s__law_menu) := ⟨rfl, rfl, rfl, by decide +kernel, rfl, by decide +kernel, by decide +kernel⟩
abbrev s__law_rows : Stmt := top 37
-- 0:_law_feed_here 1:_law_most 2:_law_found 3:_law_many 4:_law_had 5:_law_name 6:_law_size 7:_law_wide 8:_law_low 9:_law_given 10:_law_shown 11:_law_first
abbrev N__law_rows : List Str := ["_law_feed_here", "_law_most", "_law_found", "_law_many", "_law_had", "_law_name", "_law_size", "_law_wide", "_law_low", "_law_given", "_law_shown", "_law_first"]
theorem sc__law_rows : FnScope N__law_rows ["_law_feed_here", "_law_most"] (defScope s__law_rows) := ⟨rfl, rfl, rfl, by decide +kernel, rfl, by decide +kernel, by decide +kernel⟩
abbrev s__law_leaf : Stmt := top 38
-- 0:_law_feed_here 1:_law_rows_here 2:_law_plain 3:_law_own
abbrev N__law_leaf : List Str := ["_law_feed_here", "_law_rows_here", "_law_plain", "_law_own"]
theorem sc__law_leaf : FnScope N__law_leaf ["_law_feed_here", "_law_rows_here"] (defScope s__law_leaf) := ⟨rfl, rfl, rfl, by decide +kernel, rfl, by decide +kernel, by decide +kernel⟩
abbrev s__law_formula : Stmt := top 39
-- 0:_law_feed_here 1:_law_rows_here 2:_law_deep 3:_law_words 4:_law_word 5:_law_tables 6:_law_own 7:_law_way
abbrev N__law_formula : List Str := ["_law_feed_here", "_law_rows_here", "_law_deep", "_law_words", "_law_word", "_law_tables", "_law_own", "_law_way"]
theorem sc__law_formula : FnScope N__law_formula ["_law_feed_here", "_law_rows_here", "_law_deep"] (defScope s__law_formula) := ⟨rfl, rfl, rfl, by decide +kernel, rfl, by decide +kernel, by decide +kernel⟩
abbrev s__law_goal : Stmt := top 40
-- 0:_law_feed_here 1:_law_rows_here 2:_law_own
abbrev N__law_goal : List Str := ["_law_feed_here", "_law_rows_here", "_law_own"]
theorem sc__law_goal : FnScope N__law_goal ["_law_feed_here", "_law_rows_here"] (defScope s__law_goal) := ⟨rfl, rfl, rfl, by decide +kernel, rfl, by decide +kernel, by decide +kernel⟩
abbrev s__law_rule : Stmt := top 41
-- 0:_law_feed_here 1:_law_rows_here 2:_law_name 3:_law_guard 4:_law_found 5:_law_k
abbrev N__law_rule : List Str := ["_law_feed_here", "_law_rows_here", "_law_name", "_law_guard", "_law_found", "_law_k"]
theorem sc__law_rule : FnScope N__law_rule ["_law_feed_here", "_law_rows_here", "_law_name"] (defScope s__law_rule) := ⟨rfl, rfl, rfl, by decide +kernel, rfl, by decide +kernel, by decide +kernel⟩
abbrev s__law_samples : Stmt := top 42
-- 0:_law_add 1:_law_twice 2:_law_see 3:_law_rows_here 4:_law_found 5:_law_table 6:_law_move 7:_law_same
abbrev N__law_samples : List Str := ["_law_add", "_law_twice", "_law_see", "_law_rows_here", "_law_found", "_law_table", "_law_move", "_law_same"]
theorem sc__law_samples : FnScope N__law_samples [] (defScope s__law_samples) := ⟨rfl, rfl, rfl, by decide +kernel, rfl, by decide +kernel, by decide +kernel⟩
abbrev s__law_agree : Stmt := top 43
-- 0:_law_state 1:_law_looks 2:_law_spot 3:_law_value
abbrev N__law_agree : List Str := ["_law_state", "_law_looks", "_law_spot", "_law_value"]
theorem sc__law_agree : FnScope N__law_agree ["_law_state", "_law_looks"] (defScope s__law_agree) := ⟨rfl, rfl, rfl, by decide +kernel, rfl, by decide +kernel, by decide +kernel⟩
abbrev s__law_looks_plain : Stmt := top 44
-- 0:_law_state 1:_law_looks 2:_law_spots 3:_law_spot 4:_law_value 5:_law_k
abbrev N__law_looks_plain : List Str := ["_law_state", "_law_looks", "_law_spots", "_law_spot", "_law_value", "_law_k"]
theorem sc__law_looks_plain : FnScope N__law_looks_plain ["_law_state", "_law_looks"] (defScope s__law_looks_plain) := ⟨rfl, rfl, rfl, by decide +kernel, rfl, by decide +kernel, by decide +kernel⟩
abbrev s__law_formula_right : Stmt := top 45
-- 0:_law_rows_here 1:_law_e 2:_law_states_now 3:_law_state 4:_law_told 5:_law_value 6:_law_looks 7:_law_other 8:_law_its 9:_law_more
abbrev N__law_formula_right : List Str := ["_law_rows_here", "_law_e", "_law_states_now", "_law_state", "_law_told", "_law_value", "_law_looks", "_law_other", "_law_its", "_law_more"]
theorem sc__law_formula_right : FnScope N__law_formula_right ["_law_rows_here", "_law_e", "_law_states_now"] (defScope s__law_formula_right) := ⟨rfl, rfl, rfl, by decide +kernel, rfl, by decide +kernel, by decide +kernel⟩
abbrev s__law_rule_right : Stmt := top 46
-- 0:_law_rows_here 1:_law_rule_here 2:_law_states_now 3:_law_state 4:_law_told 5:_law_got 6:_law_looks 7:_law_other 8:_law_its 9:_law_more 10:_law_apart 11:_law_k 12:_law_spot 13:_law_value
abbrev N__law_rule_right : List Str := ["_law_rows_here", "_law_rule_here", "_law_states_now", "_law_state", "_law_told", "_law_got", "_law_looks", "_law_other", "_law_its", "_law_more", "_law_apart", "_law_k", "_law_spot", "_law_value"]
theorem sc__law_rule_right : FnScope N__law_rule_right ["_law_rows_here", "_law_rule_here", "_law_states_now"] (defScope s__law_rule_right) := ⟨rfl, rfl, rfl, by decide +kernel, rfl, by decide +kernel, by decide +kernel⟩
abbrev s__law_behind_right : Stmt := top 47
-- 0:_law_rows_here 1:_law_rule_here 2:_law_state 3:_law_got 4:_law_later 5:_law_ranges_here 6:_law_due 7:_law_k
abbrev N__law_behind_right : List Str := ["_law_rows_here", "_law_rule_here", "_law_state", "_law_got", "_law_later", "_law_ranges_here", "_law_due", "_law_k"]
theorem sc__law_behind_right : FnScope N__law_behind_right ["_law_rows_here", "_law_rule_here", "_law_state", "_law_got"] (defScope s__law_behind_right) := ⟨rfl, rfl, rfl, by decide +kernel, rfl, by decide +kernel, by decide +kernel⟩
abbrev s_law : Stmt := top 48
-- 0:_law_script 1:_law_feed_here 2:_law_samples_here 3:_law_k 4:_law_rows_here 5:_law_rules 6:_law_states_now 7:_law_some_here 8:_law_lot 9:_law_good 10:_law_rule_here 11:_law_e 12:_law_j
abbrev N_law : List Str := ["_law_script", "_law_feed_here", "_law_samples_here", "_law_k", "_law_rows_here", "_law_rules", "_law_states_now", "_law_some_here", "_law_lot", "_law_good", "_law_rule_here", "_law_e", "_law_j"]
theorem sc_law : FnScope N_law ["_law_script"] (defScope s_law) := ⟨rfl, rfl, rfl, by decide +kernel, rfl, by decide +kernel, by decide +kernel⟩
end K

namespace K
open PySem PySem.Spec PyProof.Rows L2
def fns : List He.DefD := [
  ⟨("row_width", none), "row_width", "row_width", defArgs s_row_width, defBody s_row_width, defScope s_row_width, [], []⟩,
  ⟨("cell_ranges", none), "cell_ranges", "cell_ranges", defArgs s_cell_ranges, defBody s_cell_ranges, defScope s_cell_ranges, [], []⟩,
  ⟨("found_index", none), "found_index", "found_index", defArgs s_found_index, defBody s_found_index, defScope s_found_index, [], []⟩,
  ⟨("cell_index", none), "cell_index", "cell_index", defArgs s_cell_index, defBody s_cell_index, defScope s_cell_index, [], [("key", .non)]⟩,
  ⟨("value_in", none), "value_in", "value_in", defArgs s_value_in, defBody s_value_in, defScope s_value_in, [], []⟩,
  ⟨("looked_at", none), "looked_at", "looked_at", defArgs s_looked_at, defBody s_looked_at, defScope s_looked_at, [], []⟩,
  ⟨("first_looks", none), "first_looks", "first_looks", defArgs s_first_looks, defBody s_first_looks, defScope s_first_looks, [], []⟩,
  ⟨("evaluated", none), "evaluated", "evaluated", defArgs s_evaluated, defBody s_evaluated, defScope s_evaluated, [], []⟩,
  ⟨("keyed_index", none), "keyed_index", "keyed_index", defArgs s_keyed_index, defBody s_keyed_index, defScope s_keyed_index, [], []⟩,
  ⟨("_lazy_value", none), "_lazy_value", "_lazy_value", defArgs s__lazy_value, defBody s__lazy_value, defScope s__lazy_value, [], []⟩,
  ⟨("_full_value", none), "_full_value", "_full_value", defArgs s__full_value, defBody s__full_value, defScope s__full_value, [], []⟩,
  ⟨("_of_one", none), "_of_one", "_of_one", defArgs s__of_one, defBody s__of_one, defScope s__of_one, [], []⟩,
  ⟨("value_of_two", none), "value_of_two", "value_of_two", defArgs s_value_of_two, defBody s_value_of_two, defScope s_value_of_two, [], []⟩,
  ⟨("_compared", none), "_compared", "_compared", defArgs s__compared, defBody s__compared, defScope s__compared, [], []⟩,
  ⟨("assigned", none), "assigned", "assigned", defArgs s_assigned, defBody s_assigned, defScope s_assigned, [], []⟩,
  ⟨("behind", none), "behind", "behind", defArgs s_behind, defBody s_behind, defScope s_behind, [], []⟩,
  ⟨("with_assigned", none), "with_assigned", "with_assigned", defArgs s_with_assigned, defBody s_with_assigned, defScope s_with_assigned, [], []⟩,
  ⟨("looks_of", none), "looks_of", "looks_of", defArgs s_looks_of, defBody s_looks_of, defScope s_looks_of, [], []⟩,
  ⟨("_worked_out", none), "_worked_out", "_worked_out", defArgs s__worked_out, defBody s__worked_out, defScope s__worked_out, [], []⟩,
  ⟨("_target_index", none), "_target_index", "_target_index", defArgs s__target_index, defBody s__target_index, defScope s__target_index, [], []⟩,
  ⟨("_law_feed", none), "_law_feed", "_law_feed", defArgs s__law_feed, defBody s__law_feed, defScope s__law_feed, [], []⟩,
  ⟨("_law_draw", none), "_law_draw", "_law_draw", defArgs s__law_draw, defBody s__law_draw, defScope s__law_draw, [], []⟩,
  ⟨("_law_plans", none), "_law_plans", "_law_plans", defArgs s__law_plans, defBody s__law_plans, defScope s__law_plans, [], []⟩,
  ⟨("_law_ranges", none), "_law_ranges", "_law_ranges", defArgs s__law_ranges, defBody s__law_ranges, defScope s__law_ranges, [], []⟩,
  ⟨("_law_states", none), "_law_states", "_law_states", defArgs s__law_states, defBody s__law_states, defScope s__law_states, [], []⟩,
  ⟨("_law_some", none), "_law_some", "_law_some", defArgs s__law_some, defBody s__law_some, defScope s__law_some, [], []⟩,
  ⟨("_law_power", none), "_law_power", "_law_power", defArgs s__law_power, defBody s__law_power, defScope s__law_power, [], []⟩,
  ⟨("_law_menu", none), "_law_menu", "_law_menu", defArgs s__law_menu, defBody s__law_menu, defScope s__law_menu, [], []⟩,
  ⟨("_law_rows", none), "_law_rows", "_law_rows", defArgs s__law_rows, defBody s__law_rows, defScope s__law_rows, [], []⟩,
  ⟨("_law_leaf", none), "_law_leaf", "_law_leaf", defArgs s__law_leaf, defBody s__law_leaf, defScope s__law_leaf, [], []⟩,
  ⟨("_law_formula", none), "_law_formula", "_law_formula", defArgs s__law_formula, defBody s__law_formula, defScope s__law_formula, [], []⟩,
  ⟨("_law_goal", none), "_law_goal", "_law_goal", defArgs s__law_goal, defBody s__law_goal, defScope s__law_goal, [], []⟩,
  ⟨("_law_rule", none), "_law_rule", "_law_rule", defArgs s__law_rule, defBody s__law_rule, defScope s__law_rule, [], []⟩,
  ⟨("_law_samples", none), "_law_samples", "_law_samples", defArgs s__law_samples, defBody s__law_samples, defScope s__law_samples, [], []⟩,
  ⟨("_law_agree", none), "_law_agree", "_law_agree", defArgs s__law_agree, defBody s__law_agree, defScope s__law_agree, [], []⟩,
  ⟨("_law_looks_plain", none), "_law_looks_plain", "_law_looks_plain", defArgs s__law_looks_plain, defBody s__law_looks_plain, defScope s__law_looks_plain, [], []⟩,
  ⟨("_law_formula_right", none), "_law_formula_right", "_law_formula_right", defArgs s__law_formula_right, defBody s__law_formula_right, defScope s__law_formula_right, [], []⟩,
  ⟨("_law_rule_right", none), "_law_rule_right", "_law_rule_right", defArgs s__law_rule_right, defBody s__law_rule_right, defScope s__law_rule_right, [], []⟩,
  ⟨("_law_behind_right", none), "_law_behind_right", "_law_behind_right", defArgs s__law_behind_right, defBody s__law_behind_right, defScope s__law_behind_right, [], []⟩,
  ⟨("law", none), "law", "law", defArgs s_law, defBody s_law, defScope s_law, [], []⟩]
def fas : List He.Fa := [.glo "row_width", .glo "cell_ranges", .glo "found_index", .glo "cell_index", .glo "value_in", .glo "looked_at", .glo "first_looks", .glo "evaluated", .glo "keyed_index", .glo "_lazy_value", .glo "_full_value", .glo "_of_one", .glo "value_of_two", .glo "_compared", .glo "assigned", .glo "behind", .glo "with_assigned", .glo "looks_of", .glo "_worked_out", .glo "_target_index", .glo "_law_feed", .glo "_law_draw", .glo "_law_plans", .glo "_law_ranges", .glo "_law_states", .glo "_law_some", .glo "_law_power", .glo "_law_menu", .glo "_law_rows", .glo "_law_leaf", .glo "_law_formula", .glo "_law_goal", .glo "_law_rule", .glo "_law_samples", .glo "_law_agree", .glo "_law_looks_plain", .glo "_law_formula_right", .glo "_law_rule_right", .glo "_law_behind_right", .glo "law",
  .free "len", .free "int", .free "max", .free "min", .free "range", .free "tuple", .free "list", .free "isinstance", .free "str", .free "bool", .free "set", .free "dict", .free "sorted", .glo "LAZY"]
def loose0 : List PySem.Str := ["OrderError", "ProgramError", "UnknownCell", "row_width", "cell_ranges", "found_index", "cell_index", "LAZY", "value_in", "looked_at", "first_looks", "evaluated", "keyed_index", "_lazy_value", "_full_value", "_of_one", "value_of_two", "_compared", "assigned", "behind", "with_assigned", "looks_of", "_worked_out", "_target_index", "_law_feed", "_law_draw", "_law_plans", "_law_ranges", "_law_states", "_law_some"]
def loose1 : List PySem.Str := ["_law_power", "_law_menu", "_law_rows", "_law_leaf", "_law_formula", "_law_goal", "_law_rule", "_law_samples", "_law_agree", "_law_looks_plain", "_law_formula_right", "_law_rule_right", "_law_behind_right"]
def loose : List PySem.Str := loose0 ++ loose1
abbrev lawAt : Nat := 48
abbrev Rw : PySem.W.OpenRow := PySem.W.OpenLaw.row PySem.Challenge.rw_orderless_k09_whole_looks_decide
-- INDEX 0:row_width 1:cell_ranges 2:found_index 3:cell_index 4:value_in 5:looked_at 6:first_looks 7:evaluated 8:keyed_index 9:_lazy_value 10:_full_value 11:_of_one 12:value_of_two 13:_compared 14:assigned 15:behind 16:with_assigned 17:looks_of 18:_worked_out 19:_target_index 20:_law_feed 21:_law_draw 22:_law_plans 23:_law_ranges 24:_law_states 25:_law_some 26:_law_power 27:_law_menu 28:_law_rows 29:_law_leaf 30:_law_formula 31:_law_goal 32:_law_rule 33:_law_samples 34:_law_agree 35:_law_looks_plain 36:_law_formula_right 37:_law_rule_right 38:_law_behind_right 39:law
def lazyD : List He.Dv := [.str "and", .str "or", .str "if"]
abbrev ObT : Type := He.AlD × Bool
def obG (g : Addr → Option Obj) : ObT := (He.obsDG 4 fas fns g, He.tupB (He.frG g (He.asD g 4)) "LAZY" lazyD)
def ownHook : PySem.W.Hook where
  α := ObT
  obs := fun s => obG s.heap.get?
  val := fun _ => (He.valD fns, true)
  says := fun _ h => ∃ F : PySem.W.Frag, F.In h ∧ He.SaysD fas fns F ∧ He.tupB F "LAZY" lazyD = true
  of := fun _ _ e => ⟨_, He.frG_in, congrArg (fun z : ObT => z.1) e, congrArg (fun z : ObT => z.2) e⟩
  keeps := fun _ _ _ ⟨F, hF, c⟩ k => ⟨F, PySem.W.Frag.In.keeps hF k, c⟩
def obT (s : PySem.W.SharedT) : ObT := obG (HandSHeadRun.getT s)
theorem obT_eq (s : PySem.W.SharedT) : obT s = ownHook.obs s.abs := by
  have e : HandSHeadRun.getT s = s.abs.heap.get? := funext (HandSHeadRun.getT_eq s)
  unfold obT
  rw [e] <;> rfl
set_option maxHeartbeats 0 in
theorem topRun (w : World) : HandSHeadRun.RunEq Rw (PySem.W.view Rw.prog [lawAt]) ownHook obT 9000 loose w := by
  intro os
  kernel_rfl
end K

namespace G
open PySem PySem.Spec PyProof.Rows L2

/-! ### contexts by what is asked of them; the weakest reading of a piece of syntax -/
structure Md where
  prog : Program
  w : World
  K : PySem.W.Frag
  mg : Str → Option Value
  base : Heap
structure Cd extends Md where
  N : List Str
  sc : Scope
  k : Nat
  top : Bool
structure Is (c : Cd) (X : Cx) : Prop where
  prog : X.prog = c.prog
  w : X.w = c.w
  K : X.K = c.K
  mg : X.mg = c.mg
  base : X.base = c.base
  N : X.N = c.N
  sc : X.env.scope = c.sc
  calm : X.calm = true
  room : Room c.k X.A
  top : c.top = true → ∀ x, X.fn x = true
  own : PassesOwn (model X.prog X.w) X.A X.env X.xe
  nd : c.N.Nodup

structure DLe (D D' : Ends) : Prop where
  nx : ∀ σ H, D.nx σ H → D'.nx σ H
  rt : ∀ v H, D.rt v H → D'.rt v H
  bk : ∀ σ H, D.bk σ H → D'.bk σ H
  ct : ∀ σ H, D.ct σ H → D'.ct σ H
theorem DLe.refl (D : Ends) : DLe D D := ⟨fun _ _ h => h, fun _ _ h => h, fun _ _ h => h, fun _ _ h => h⟩
theorem DLe.trans {D D1 D2 : Ends} (a : DLe D D1) (b : DLe D1 D2) : DLe D D2 := ⟨fun _ _ h => b.nx _ _ (a.nx _ _ h), fun _ _ h => b.rt _ _ (a.rt _ _ h), fun _ _ h => b.bk _ _ (a.bk _ _ h), fun _ _ h => b.ct _ _ (a.ct _ _ h)⟩

structure RE (c : Cd) (e : Expr) (σ : L2.St) (H : Hp) (Q : VK) : Prop where
  ex : ∃ t Q', (∀ X, Is c X → PE X e t) ∧ t σ H Q' ∧ ∀ v H', Q' v H' → Q v H'
structure RT (c : Cd) (e : Expr) (σ : L2.St) (H : Hp) (Q : Bool → Hp → Prop) : Prop where
  ex : ∃ t Q', (∀ X, Is c X → PT X e t) ∧ t σ H Q' ∧ ∀ v H', Q' v H' → Q v H'
structure RW (c : Cd) (e : Expr) (σ : L2.St) (H : Hp) (Q : Bool → Hp → Prop) : Prop where
  ex : ∃ t Q', (∀ X, Is c X → PW X e t) ∧ t σ H Q' ∧ ∀ v H', Q' v H' → Q v H'
structure RTs (c : Cd) (es : List Expr) (σ : L2.St) (H : Hp) (Q : Bool → Hp → Prop) : Prop where
  ex : ∃ t Q', (∀ X, Is c X → PTs X es t) ∧ t σ H Q' ∧ ∀ v H', Q' v H' → Q v H'
structure RA (c : Cd) (es : List Expr) (σ : L2.St) (H : Hp) (Q : List V → Hp → Prop) : Prop where
  ex : ∃ t Q', (∀ X, Is c X → PA X es t) ∧ t σ H Q' ∧ ∀ v H', Q' v H' → Q v H'
structure RPK (c : Cd) (es : List Keyword) (σ : L2.St) (H : Hp) (Q : List V → Hp → Prop) : Prop where
  ex : ∃ t Q', (∀ X, Is c X → PK X es t) ∧ t σ H Q' ∧ ∀ v H', Q' v H' → Q v H'
structure RS (c : Cd) (st : Stmt) (D : Ends) (σ : L2.St) (H : Hp) : Prop where
  ex : ∃ t D', (∀ X, Is c X → PS X st t) ∧ t D' σ H ∧ DLe D' D
structure RB (c : Cd) (sts : List Stmt) (D : Ends) (σ : L2.St) (H : Hp) : Prop where
  ex : ∃ t D', (∀ X, Is c X → PSs X sts t) ∧ t D' σ H ∧ DLe D' D
structure RG (c : Cd) (tg : Expr) (v : V) (σ : L2.St) (H : Hp) (Q : L2.St → Hp → Prop) : Prop where
  ex : ∃ t Q', (∀ X, Is c X → PG X tg t) ∧ t v σ H Q' ∧ ∀ v H', Q' v H' → Q v H'
structure RGs (c : Cd) (ts : List Expr) (vs : List V) (σ : L2.St) (H : Hp) (Q : L2.St → Hp → Prop) : Prop where
  ex : ∃ t Q', (∀ X, Is c X → PGs X ts t) ∧ t vs σ H Q' ∧ ∀ v H', Q' v H' → Q v H'
structure RI (c : Cd) (tg it : Expr) (σ : L2.St) (H : Hp) (R : It → Hp → Prop) : Prop where
  ex : ∃ t R', (∀ X, Is c X → PI X tg it t) ∧ t σ H R' ∧ ∀ J H', R' J H' → R J H'
structure RO (c : Cd) (op : Operator) (x y : V) (H : Hp) (Q : VK) : Prop where
  ex : ∃ r Q', (∀ X, Is c X → OpR X (binaryOp op) r) ∧ r x y H Q' ∧ ∀ v H', Q' v H' → Q v H'
structure RQ (c : Cd) (op : CmpOp) (x y : V) (H : Hp) (Q : VK) : Prop where
  ex : ∃ r Q', (∀ X, Is c X → OpR X (compareOp op) r) ∧ r x y H Q' ∧ ∀ v H', Q' v H' → Q v H'
structure RU (c : Cd) (f : UnaryOp) (x : V) (H : Hp) (Q : VK) : Prop where
  ex : ∃ r Q', (∀ X, Is c X → UnR X (unaryOp f) r) ∧ r x H Q' ∧ ∀ v H', Q' v H' → Q v H'
structure RC (c : Cd) (f : Value) (xs : List V) (H : Hp) (Q : VK) : Prop where
  ex : ∃ r Q', (∀ X, Is c X → CallR X f r) ∧ r xs H Q' ∧ ∀ v H', Q' v H' → Q v H'
structure RX (c : Cd) (x y : V) (H : Hp) (Q : VK) : Prop where
  ex : ∃ r Q', (∀ X, Is c X → IxR X r) ∧ r x y H Q' ∧ ∀ v H', Q' v H' → Q v H'
structure RSl (c : Cd) (x : V) (l u : Option Int) (H : Hp) (Q : VK) : Prop where
  ex : ∃ r Q', (∀ X, Is c X → SlR X r) ∧ r x l u H Q' ∧ ∀ v H', Q' v H' → Q v H'
structure RM (c : Cd) (id : String) (x : V) (xs : List V) (H : Hp) (Q : VK) : Prop where
  ex : ∃ r Q', (∀ X, Is c X → MtR X id r) ∧ r x xs H Q' ∧ ∀ v H', Q' v H' → Q v H'
structure RP (c : Cd) (o i v : V) (H : Hp) (Q : Hp → Prop) : Prop where
  ex : ∃ r Q', (∀ X, Is c X → PSet X r) ∧ r o i v H Q' ∧ ∀ H', Q' H' → Q H'
structure RPo (c : Cd) (e : Option Expr) (σ : L2.St) (H : Hp) (Q : Option Int → Hp → Prop) : Prop where
  ex : ∃ t Q', (∀ X, Is c X → PO X e t) ∧ t σ H Q' ∧ ∀ v H', Q' v H' → Q v H'

section
variable {c : Cd} {X : Cx} (h : Is c X)
include h
theorem pe_re {e : Expr} : PE X e (RE c e) := ⟨fun pins s σ H Q I ⟨⟨_, _, a, q, w⟩⟩ => thn ((a X h).run pins s σ H _ I q) fun _ _ ⟨v, H', I', r, q'⟩ => ⟨v, H', I', r, w _ _ q'⟩⟩
theorem pt_rt {e : Expr} : PT X e (RT c e) := ⟨fun pins s σ H Q I ⟨⟨_, _, a, q, w⟩⟩ => thn ((a X h).run pins s σ H _ I q) fun _ _ ⟨H', I', q'⟩ => ⟨H', I', w _ _ q'⟩⟩
theorem pw_rw {e : Expr} : PW X e (RW c e) := ⟨fun wh pins s σ H Q I ⟨⟨_, _, a, q, w⟩⟩ => thn ((a X h).run wh pins s σ H _ I q) fun _ _ ⟨H', I', q'⟩ => ⟨H', I', w _ _ q'⟩⟩
theorem pts_rts {es : List Expr} : PTs X es (RTs c es) := ⟨fun pins s σ H Q I ⟨⟨_, _, a, q, w⟩⟩ => thn ((a X h).run pins s σ H _ I q) fun _ _ ⟨H', I', q'⟩ => ⟨H', I', w _ _ q'⟩⟩
theorem pa_ra {es : List Expr} : PA X es (RA c es) := ⟨fun pos pins s σ H Q I ⟨⟨_, _, a, q, w⟩⟩ => thn ((a X h).run pos pins s σ H _ I q) fun _ _ ⟨v, H', I', r, q'⟩ => ⟨v, H', I', r, w _ _ q'⟩⟩
theorem pk_rk {es : List Keyword} : PK X es (RPK c es) := ⟨fun pos pins s σ H Q I ⟨⟨_, _, a, q, w⟩⟩ => thn ((a X h).run pos pins s σ H _ I q) fun _ _ ⟨v, H', I', r, q'⟩ => ⟨v, H', I', r, w _ _ q'⟩⟩
theorem SP.le {pins : List (Addr × Obj)} {D' D : Ends} (w : DLe D' D) : ∀ {f : Flow} {s' : Shared}, SP X pins D' f s' → SP X pins D f s'
  | .next, _, ⟨σ', H', I, q⟩ => ⟨σ', H', I, w.nx _ _ q⟩
  | .brk, _, ⟨σ', H', I, q⟩ => ⟨σ', H', I, w.bk _ _ q⟩
  | .cont, _, ⟨σ', H', I, q⟩ => ⟨σ', H', I, w.ct _ _ q⟩
  | .ret _, _, ⟨v, σ', H', I, r, q⟩ => ⟨v, σ', H', I, r, w.rt _ _ q⟩
theorem ps_rs {st : Stmt} : PS X st (RS c st) := ⟨fun pins s σ H D I ⟨⟨_, _, a, q, w⟩⟩ => thn ((a X h).run pins s σ H _ I q) fun _ _ q' => SP.le h w q'⟩
theorem ps_rb {sts : List Stmt} : PSs X sts (RB c sts) := ⟨fun pins s σ H D I ⟨⟨_, _, a, q, w⟩⟩ => thn ((a X h).run pins s σ H _ I q) fun _ _ q' => SP.le h w q'⟩
theorem pg_rg {tg : Expr} : PG X tg (RG c tg) := ⟨fun pins s σ H v u Q I r ⟨⟨_, _, a, q, w⟩⟩ => thn ((a X h).run pins s σ H v u _ I r q) fun _ _ ⟨σ', H', I', q'⟩ => ⟨σ', H', I', w _ _ q'⟩⟩
theorem pg_rgs {ts : List Expr} : PGs X ts (RGs c ts) := ⟨fun pins s σ H vs us Q I r ⟨⟨_, _, a, q, w⟩⟩ => thn ((a X h).run pins s σ H vs us _ I r q) fun _ _ ⟨σ', H', I', q'⟩ => ⟨σ', H', I', w _ _ q'⟩⟩
theorem pi_ri {tg it : Expr} : PI X tg it (RI c tg it) := ⟨fun pins s σ H R I ⟨⟨_, _, a, q, w⟩⟩ => thn ((a X h).run pins s σ H _ I q) fun _ _ z => thn z fun _ _ ⟨it, fp, tn, J, H', e, I', T, t0, f, q'⟩ => ⟨it, fp, tn, J, H', e, I', T, t0, f, w _ _ q'⟩⟩
theorem EP.le {pins : List (Addr × Obj)} {σ : L2.St} {Q' Q : VK} {u : Value} {s' : Shared} (w : ∀ v H', Q' v H' → Q v H') : EP X pins σ Q' u s' → EP X pins σ Q u s' := fun ⟨v, H', I', r, q'⟩ => ⟨v, H', I', r, w _ _ q'⟩
theorem op_ro {op : Operator} : OpR X (binaryOp op) (RO c op) := fun pins s σ H x y v u Q I r1 r2 ⟨⟨_, _, a, q, w⟩⟩ => thn (a X h pins s σ H x y v u _ I r1 r2 q) fun _ _ z => EP.le h w z
theorem op_rq {op : CmpOp} : OpR X (compareOp op) (RQ c op) := fun pins s σ H x y v u Q I r1 r2 ⟨⟨_, _, a, q, w⟩⟩ => thn (a X h pins s σ H x y v u _ I r1 r2 q) fun _ _ z => EP.le h w z
theorem un_ru {f : UnaryOp} : UnR X (unaryOp f) (RU c f) := fun pins s σ H x v Q I r ⟨⟨_, _, a, q, w⟩⟩ => thn (a X h pins s σ H x v _ I r q) fun _ _ z => EP.le h w z
theorem call_rc {f : Value} : CallR X f (RC c f) := fun pins s σ H xs us Q I r ⟨⟨_, _, a, q, w⟩⟩ => thn (a X h pins s σ H xs us _ I r q) fun _ _ z => EP.le h w z
theorem ix_rx : IxR X (RX c) := by
  intro value slice pins s σ H x y v u Q I r1 r2 q0 hs
  obtain ⟨⟨_, _, a, q, w⟩⟩ := q0
  exact thn (a X h value slice pins s σ H x y v u _ I r1 r2 q hs) fun _ _ z => EP.le h w z
theorem sl_rs : SlR X (RSl c) := by
  intro pins s σ H x v vl vu lo hi sl Q I rx hs pl pu ⟨⟨_, _, a, q, w⟩⟩
  obtain ⟨T, id, h1, h2, h3⟩ := a X h pins s σ H x v vl vu lo hi sl _ I rx hs pl pu q
  exact ⟨T, id, h1, h2, thn h3 fun _ _ z => EP.le h w z⟩
theorem mt_rm {id : String} : MtR X id (RM c id) := by
  intro pins s σ H x xs v us Q I r1 r2 ⟨⟨_, _, a, q, w⟩⟩
  exact thn (a X h pins s σ H x xs v us _ I r1 r2 q) fun _ _ z => EP.le h w z
theorem set_rp : PSet X (RP c) := by
  intro pins s σ H o i v ov iv u Q I r1 r2 r3 ⟨⟨_, _, a, q, w⟩⟩
  exact thn (a X h pins s σ H o i v ov iv u _ I r1 r2 r3 q) fun _ _ ⟨H', I', q'⟩ => ⟨H', I', w _ q'⟩
theorem po_rp {e : Option Expr} : PO X e (RPo c e) := ⟨fun pins s σ H Q I ⟨⟨_, _, a, q, w⟩⟩ => thn ((a X h).run pins s σ H _ I q) fun _ _ ⟨o, H', I', p, q'⟩ => ⟨o, H', I', p, w _ _ q'⟩⟩
end
section
variable {c : Cd} {σ : L2.St} {H : Hp} {Q Q' : VK} {B B' : Bool → Hp → Prop} {D D' : Ends}
theorem re_of {e : Expr} {t : TE} (h : ∀ X, Is c X → PE X e t) (q : t σ H Q) : RE c e σ H Q := ⟨⟨t, Q, h, q, fun _ _ z => z⟩⟩
theorem rt_of {e : Expr} {t : TT} (h : ∀ X, Is c X → PT X e t) (q : t σ H B) : RT c e σ H B := ⟨⟨t, B, h, q, fun _ _ z => z⟩⟩
theorem rw_of {e : Expr} {t : TT} (h : ∀ X, Is c X → PW X e t) (q : t σ H B) : RW c e σ H B := ⟨⟨t, B, h, q, fun _ _ z => z⟩⟩
theorem rts_of {es : List Expr} {t : TT} (h : ∀ X, Is c X → PTs X es t) (q : t σ H B) : RTs c es σ H B := ⟨⟨t, B, h, q, fun _ _ z => z⟩⟩
theorem ra_of {es : List Expr} {t : TA} {Q : List V → Hp → Prop} (h : ∀ X, Is c X → PA X es t) (q : t σ H Q) : RA c es σ H Q := ⟨⟨t, Q, h, q, fun _ _ z => z⟩⟩
theorem rk_of {es : List Keyword} {t : TA} {Q : List V → Hp → Prop} (h : ∀ X, Is c X → PK X es t) (q : t σ H Q) : RPK c es σ H Q := ⟨⟨t, Q, h, q, fun _ _ z => z⟩⟩
theorem rs_of {st : Stmt} {t : TS} (h : ∀ X, Is c X → PS X st t) (q : t D σ H) : RS c st D σ H := ⟨⟨t, D, h, q, DLe.refl D⟩⟩
theorem rb_of {st : List Stmt} {t : TS} (h : ∀ X, Is c X → PSs X st t) (q : t D σ H) : RB c st D σ H := ⟨⟨t, D, h, q, DLe.refl D⟩⟩
theorem rg_of {tg : Expr} {t : TG} {v : V} {Q : L2.St → Hp → Prop} (h : ∀ X, Is c X → PG X tg t) (q : t v σ H Q) : RG c tg v σ H Q := ⟨⟨t, Q, h, q, fun _ _ z => z⟩⟩
theorem rgs_of {tg : List Expr} {t : TGs} {v : List V} {Q : L2.St → Hp → Prop} (h : ∀ X, Is c X → PGs X tg t) (q : t v σ H Q) : RGs c tg v σ H Q := ⟨⟨t, Q, h, q, fun _ _ z => z⟩⟩
theorem ri_of {tg it : Expr} {t : TI} {R : It → Hp → Prop} (h : ∀ X, Is c X → PI X tg it t) (q : t σ H R) : RI c tg it σ H R := ⟨⟨t, R, h, q, fun _ _ z => z⟩⟩
theorem ro_of {op : Operator} {r : R2} {x y : V} (h : ∀ X, Is c X → OpR X (binaryOp op) r) (q : r x y H Q) : RO c op x y H Q := ⟨⟨r, Q, h, q, fun _ _ z => z⟩⟩
theorem rq_of {op : CmpOp} {r : R2} {x y : V} (h : ∀ X, Is c X → OpR X (compareOp op) r) (q : r x y H Q) : RQ c op x y H Q := ⟨⟨r, Q, h, q, fun _ _ z => z⟩⟩
theorem ru_of {f : UnaryOp} {r : V → Hp → VK → Prop} {x : V} (h : ∀ X, Is c X → UnR X (unaryOp f) r) (q : r x H Q) : RU c f x H Q := ⟨⟨r, Q, h, q, fun _ _ z => z⟩⟩
theorem rc_of {f : Value} {r : List V → Hp → VK → Prop} {xs : List V} (h : ∀ X, Is c X → CallR X f r) (q : r xs H Q) : RC c f xs H Q := ⟨⟨r, Q, h, q, fun _ _ z => z⟩⟩
theorem rx_of {r : R2} {x y : V} (h : ∀ X, Is c X → IxR X r) (q : r x y H Q) : RX c x y H Q := ⟨⟨r, Q, h, q, fun _ _ z => z⟩⟩
theorem rsl_of {r : V → Option Int → Option Int → Hp → VK → Prop} {x : V} {l u : Option Int} (h : ∀ X, Is c X → SlR X r) (q : r x l u H Q) : RSl c x l u H Q := ⟨⟨r, Q, h, q, fun _ _ z => z⟩⟩
theorem rm_of {id : String} {r : V → List V → Hp → VK → Prop} {x : V} {xs : List V} (h : ∀ X, Is c X → MtR X id r) (q : r x xs H Q) : RM c id x xs H Q := ⟨⟨r, Q, h, q, fun _ _ z => z⟩⟩
theorem rp_of {r : TSet} {o i v : V} {Q : Hp → Prop} (h : ∀ X, Is c X → PSet X r) (q : r o i v H Q) : RP c o i v H Q := ⟨⟨r, Q, h, q, fun _ z => z⟩⟩
theorem rpo_of {e : Option Expr} {t : TO} {Q : Option Int → Hp → Prop} (h : ∀ X, Is c X → PO X e t) (q : t σ H Q) : RPo c e σ H Q := ⟨⟨t, Q, h, q, fun _ _ z => z⟩⟩
theorem RE.mono {e : Expr} (w : ∀ v H', Q v H' → Q' v H') : RE c e σ H Q → RE c e σ H Q' := fun ⟨⟨t, Q1, h, q, z⟩⟩ => ⟨⟨t, Q1, h, q, fun _ _ y => w _ _ (z _ _ y)⟩⟩
theorem RT.mono {e : Expr} (w : ∀ v H', B v H' → B' v H') : RT c e σ H B → RT c e σ H B' := fun ⟨⟨t, Q1, h, q, z⟩⟩ => ⟨⟨t, Q1, h, q, fun _ _ y => w _ _ (z _ _ y)⟩⟩
theorem RTs.mono {e : List Expr} (w : ∀ v H', B v H' → B' v H') : RTs c e σ H B → RTs c e σ H B' := fun ⟨⟨t, Q1, h, q, z⟩⟩ => ⟨⟨t, Q1, h, q, fun _ _ y => w _ _ (z _ _ y)⟩⟩
theorem RA.mono {e : List Expr} {Q Q' : List V → Hp → Prop} (w : ∀ v H', Q v H' → Q' v H') : RA c e σ H Q → RA c e σ H Q' := fun ⟨⟨t, Q1, h, q, z⟩⟩ => ⟨⟨t, Q1, h, q, fun _ _ y => w _ _ (z _ _ y)⟩⟩
theorem RG.mono {e : Expr} {v : V} {Q Q' : L2.St → Hp → Prop} (w : ∀ v H', Q v H' → Q' v H') : RG c e v σ H Q → RG c e v σ H Q' := fun ⟨⟨t, Q1, h, q, z⟩⟩ => ⟨⟨t, Q1, h, q, fun _ _ y => w _ _ (z _ _ y)⟩⟩
theorem RI.mono {tg it : Expr} {R R' : It → Hp → Prop} (w : ∀ v H', R v H' → R' v H') : RI c tg it σ H R → RI c tg it σ H R' := fun ⟨⟨t, Q1, h, q, z⟩⟩ => ⟨⟨t, Q1, h, q, fun _ _ y => w _ _ (z _ _ y)⟩⟩
theorem RO.mono {f : Operator} {x y : V} (w : ∀ v H', Q v H' → Q' v H') : RO c f x y H Q → RO c f x y H Q' := fun ⟨⟨t, Q1, h, q, z⟩⟩ => ⟨⟨t, Q1, h, q, fun _ _ y => w _ _ (z _ _ y)⟩⟩
theorem RS.mono {st : Stmt} (w : DLe D D') : RS c st D σ H → RS c st D' σ H := fun ⟨⟨t, Q1, h, q, z⟩⟩ => ⟨⟨t, Q1, h, q, z.trans w⟩⟩
theorem RB.mono {st : List Stmt} (w : DLe D D') : RB c st D σ H → RB c st D' σ H := fun ⟨⟨t, Q1, h, q, z⟩⟩ => ⟨⟨t, Q1, h, q, z.trans w⟩⟩
end
theorem kEq {c : Cd} {X : Cx} (h : Is c X) {p : PySem.W.Frag → Prop} (a : p X.K) : p c.K := h.K ▸ a

/-- the place of a name -/
inductive At : List Str → Nat → Str → Prop
  | z {x : Str} {l : List Str} : At (x :: l) 0 x
  | s {x y : Str} {l : List Str} {i : Nat} (h : At l i x) : At (y :: l) (i + 1) x
theorem At.get {x : Str} : ∀ {l : List Str} {i : Nat}, At l i x → l[i]? = some x
  | _, _, .z => rfl
  | _, _, .s h => by simpa using At.get h
/-! ### expressions -/
section
variable {c : Cd} {σ : L2.St} {H : Hp} {Q : VK} {pos : Pos}
theorem e_int {i : Int} {j} (q : Q (.int i) H) : RE c (.Constant (.int i) j pos) σ H Q := re_of (fun _ _ => pe_int) q
theorem e_bl {b : Bool} {j} (q : Q (.bl b) H) : RE c (.Constant (.bool b) j pos) σ H Q := re_of (fun _ _ => pe_bl) q
theorem e_non {j} (q : Q .non H) : RE c (.Constant .none j pos) σ H Q := re_of (fun _ _ => pe_non) q
theorem e_str {x : Str} {j} (q : Q (.str x) H) : RE c (.Constant (.str x) j pos) σ H Q := re_of (fun _ _ => pe_str) q
theorem e_var {i : Nat} {x : Str} {v : V} (hA : At c.N i x) (q : Q v H) (hσ : σ[i]? = some (some v) := by rfl)
    (hv : Vis c.sc x := by first | exact Or.inl rfl | exact Or.inr (Or.inl rfl) | exact Or.inr (Or.inr rfl)) (hd : (x == ("__debug__" : Str)) = false := by decide) (hcd : (x == ("__classdict__" : Str)) = false := by decide) :
    RE c (.Name x pos) σ H Q := re_of (fun X h => pe_var (i := i) (by rw [h.N]; exact hA.get) (by rw [h.sc]; exact hv) hd hcd) ⟨v, hσ, q⟩
theorem gl_of {X : Cx} (h : Is c X) {x : Str} (hg : c.sc.names.lookup x = some .globalImplicit) : Gl X x := by
  show X.env.scope.names.lookup x = _
  rw [h.sc]; exact hg
/-- a module's constant -/
theorem e_glob {x : Str} {v : V} {u : Value} (hm : c.mg x = some u) (r : RelV v u) (q : Q v H) (hg : c.sc.names.lookup x = some .globalImplicit := by rfl) (hd : (x == ("__debug__" : Str)) = false := by decide) : RE c (.Name x pos) σ H Q :=
  re_of (fun X h => pe_glob (gl_of h hg) (by rw [h.mg]; exact hm) r hd) q
theorem e_bltn {x : Str} {v : V} {u : Value} (hm : c.mg x = none) (hv : bootBuiltins x = some u) (r : RelV v u) (q : Q v H) (hg : c.sc.names.lookup x = some .globalImplicit := by rfl) (hn : x ≠ "__name__" := by decide) (hd : (x == ("__debug__" : Str)) = false := by decide) :
    RE c (.Name x pos) σ H Q := re_of (fun X h => pe_bltn (gl_of h hg) (by rw [h.mg]; exact hm) hv r hn hd) q
theorem e_bin {a b : Expr} {op : Operator} (q : RE c a σ H fun x H1 => RE c b σ H1 fun y H2 => RO c op x y H2 Q) : RE c (.BinOp a op b pos) σ H Q :=
  re_of (fun X h => pe_op (op_ro h) (pe_re h) (pe_re h)) q
theorem e_un {a : Expr} {op : UnaryOp} (q : RE c a σ H fun x H1 => RU c op x H1 Q) : RE c (.UnaryOp op a pos) σ H Q :=
  re_of (fun X h => pe_un (un_ru h) (pe_re h)) q
theorem e_cmp {a b : Expr} {op : CmpOp} (q : RE c a σ H fun x H1 => RE c b σ H1 fun y H2 => RQ c op x y H2 Q) (hm : behindInMarks op b = false := by first | rfl | exact nomark _) : RE c (.Compare a [op] [b] pos) σ H Q :=
  re_of (fun X h => pe_cmpR (op_rq h) (pe_re h) (pe_re h) hm) q
theorem e_chain {a b d : Expr} {op op' : CmpOp} (q : RE c a σ H fun x H1 => RE c b σ H1 fun y H2 => RQ c op x y H2 fun z H3 => ∃ k, z = .bl k ∧ (if k = true then RE c d σ H3 fun w' H4 => RQ c op' y w' H4 Q else Q (.bl false) H3))
    (hm : lastMarks [op, op'] [b, d] = false := by with_unfolding_all rfl) : RE c (.Compare a [op, op'] [b, d] pos) σ H Q :=
  re_of (t := tChain (RQ c op) (RQ c op') (RE c a) (RE c b) (RE c d)) (fun X h => pe_chain (op_rq h) (op_rq h) (pe_re h) (pe_re h) (pe_re h) hm) q
theorem e_one {a : Expr} {op} (q : RE c a σ H Q) : RE c (.BoolOp op [a] pos) σ H Q := re_of (fun X h => pe_one (pe_re h)) q
theorem e_and {a b : Expr} {rest : List Expr} (q : RE c a σ H fun x H1 => ∃ k, x = .bl k ∧ if k = true then RE c (.BoolOp .And (b :: rest) pos) σ H1 Q else Q (.bl false) H1) : RE c (.BoolOp .And (a :: b :: rest) pos) σ H Q :=
  re_of (fun X h => pe_and (pe_re h) (pe_re h)) q
theorem e_or {a b : Expr} {rest : List Expr} (q : RE c a σ H fun x H1 => ∃ k, x = .bl k ∧ if k = true then Q (.bl true) H1 else RE c (.BoolOp .Or (b :: rest) pos) σ H1 Q) : RE c (.BoolOp .Or (a :: b :: rest) pos) σ H Q :=
  re_of (fun X h => pe_or (pe_re h) (pe_re h)) q
theorem e_not {a : Expr} (q : RE c a σ H fun x H1 => ∃ k, x = .bl k ∧ Q (.bl (!k)) H1) : RE c (.UnaryOp .Not a pos) σ H Q :=
  re_of (fun X h => pe_not (pe_re h)) q
theorem e_if {a b d : Expr} (q : RT c d σ H fun k H1 => if k = true then RE c a σ H1 Q else RE c b σ H1 Q) : RE c (.IfExp d a b pos) σ H Q :=
  re_of (fun X h => pe_ifExp (pt_rt h) (pe_re h) (pe_re h)) q
theorem a_nil {Q : List V → Hp → Prop} (q : Q [] H) : RA c [] σ H Q := ra_of (fun _ _ => pa_nil) q
theorem a_cons {Q : List V → Hp → Prop} {e : Expr} {es : List Expr} (q : RE c e σ H fun x H1 => RA c es σ H1 fun xs H2 => Q (x :: xs) H2) (hs : ∀ env, starEach (e :: es) env = (false, eval e env) :: starEach es env := by intro _; rfl) : RA c (e :: es) σ H Q :=
  ra_of (fun X h => pa_cons (pe_re h) (pa_ra h) (hs _)) q
theorem e_tup {es : List Expr} {x1} (q : RA c es σ H fun xs H1 => xs.length ≤ sizeLine ∧ ∀ p, H1 p = none → Q (.ref p) (upd H1 p (.tup xs))) : RE c (.Tuple es x1 pos) σ H Q :=
  re_of (fun X h => pe_tup (pa_ra h)) q
theorem e_lst {es : List Expr} (q : RA c es σ H fun xs H1 => xs.length ≤ sizeLine ∧ ∀ p, H1 p = none → Q (.ref p) (upd H1 p (.lst xs))) : RE c (.List es pos) σ H Q :=
  re_of (fun X h => pe_lst (pa_ra h)) q
theorem e_ix {a b : Expr} (q : RE c a σ H fun x H1 => RE c b σ H1 fun y H2 => RX c x y H2 Q) (hs : PlainIx b := by intro _ _; rfl) : RE c (.Subscript a b pos) σ H Q :=
  re_of (fun X h => pe_ix (ix_rx h) (pe_re h) (pe_re h) hs) q
theorem e_dget {a b : Expr} (q : RE c a σ H fun x H1 => RE c b σ H1 fun y H2 => ∃ a v, x = .ref a ∧ DGet H2 a y (some v) ∧ Q v H2) (hs : NoSl b := by intro _ _; rfl) : RE c (.Subscript a b pos) σ H Q :=
  re_of (fun X h => pe_dget (by have := h.room.units; omega) (pe_re h) (pe_re h) hs) q
theorem p_none {Q : Option Int → Hp → Prop} (q : Q none H) : RPo c none σ H Q := rpo_of (fun _ _ => po_none) q
theorem p_some {e : Expr} {Q : Option Int → Hp → Prop} (q : RE c e σ H fun x H1 => ∃ i, x = .int i ∧ Q (some i) H1) : RPo c (some e) σ H Q := rpo_of (fun _ h => po_some (pe_re h)) q
theorem e_slice {e : Expr} {lo hi : Option Expr} {p2 : Pos} (q : RE c e σ H fun x H1 => RPo c lo σ H1 fun l H2 => RPo c hi σ H2 fun u H3 => RSl c x l u H3 Q) : RE c (.Subscript e (.Slice lo hi none p2) pos) σ H Q :=
  re_of (fun _ h => pe_slice (sl_rs h) (pe_re h) (po_rp h) (po_rp h)) q
/-! ### calls -/
/-- a def at the module's name x -/
structure Dc (c : Md) (x : Str) (ps : List Str) (k : Nat) (sp : Sp) : Prop where
  ex : ∃ (f : Addr) (fd : FuncData), FnOk c.prog c.w c.K c.mg c.base (fun _ _ _ _ _ _ => False) k f fd ps sp ∧ c.mg x = some (.ref f) ∧ PySem.W.keepIn c.K (.ref f) = true ∧ Binds c.K fd ps []
theorem e_call {x : Str} {p : Pos} {e : Expr} {es : List Expr} {ps : List Str} {k : Nat} {sp : Sp} (D : Dc c.toMd x ps k sp) (q : RA c (e :: es) σ H fun vs H1 => sp vs H1 Q fun _ _ _ => False) (hk : k ≤ c.k := by exact Nat.le_of_ble_eq_true rfl) (hg : c.sc.names.lookup x = some .globalImplicit := by rfl)
    (hdb : (x == ("__debug__" : Str)) = false := by decide) (he : ∀ env, starEach (e :: es) env = (false, eval e env) :: starEach es env := by intro _; rfl) (hpl : ∀ env, (backTo pos (starEach es env)).any (·.1) = false := by intro _; rfl) :
    RE c (.Call (.Name x p) (e :: es) [] pos) σ H Q := by
  obtain ⟨f, fd, F, hm, hkp, hb⟩ := D.ex
  refine re_of (t := tCall sp [] (fun _ _ _ => False) (RA c (e :: es))) (fun X h => ?_) ?_
  · refine pe_call (CX := fun _ _ _ _ _ _ => False) (k := k) (f := f) (fd := fd) (ps := ps) (ds := []) ?_ (h.room.mono hk) (gl_of h hg) (by rw [h.mg]; exact hm) (by rw [h.K]; exact hkp) (by rw [h.K]; exact hb) .nil (fun _ _ _ _ _ _ _ z => z.elim) (pa_ra h) hdb (he _) (hpl _)
    rw [h.prog, h.w, h.K, h.mg, h.base]; exact F
  · show RA c (e :: es) σ H fun vs H1 => sp (vs ++ []) H1 Q fun _ _ _ => False
    simpa only [List.append_nil] using q
theorem e_call0 {x : Str} {p : Pos} {ps : List Str} {k : Nat} {sp : Sp} (D : Dc c.toMd x ps k sp) (q : sp [] H Q fun _ _ _ => False) (hk : k ≤ c.k := by exact Nat.le_of_ble_eq_true rfl) (hg : c.sc.names.lookup x = some .globalImplicit := by rfl)
    (hdb : (x == ("__debug__" : Str)) = false := by decide) : RE c (.Call (.Name x p) [] [] pos) σ H Q := by
  obtain ⟨f, fd, F, hm, hkp, hb⟩ := D.ex
  refine re_of (t := tCall sp [] (fun _ _ _ => False) tNil) (fun X h => ?_) q
  refine pe_call0 (CX := fun _ _ _ _ _ _ => False) (k := k) (f := f) (fd := fd) (ps := ps) (ds := []) ?_ (h.room.mono hk) (gl_of h hg) (by rw [h.mg]; exact hm) (by rw [h.K]; exact hkp) (by rw [h.K]; exact hb) .nil (fun _ _ _ _ _ _ _ z => z.elim) hdb
  rw [h.prog, h.w, h.K, h.mg, h.base]; exact F
theorem e_callB {x : Str} {id : String} {p : Pos} {e : Expr} {es : List Expr} (hm : c.mg x = none) (hv : bootBuiltins x = some (.builtin id)) (q : RA c (e :: es) σ H fun vs H1 => RC c (.builtin id) vs H1 Q) (hg : c.sc.names.lookup x = some .globalImplicit := by rfl) (hn : x ≠ "__name__" := by decide) (hdb : (x == ("__debug__" : Str)) = false := by decide)
    (he : ∀ env, starEach (e :: es) env = (false, eval e env) :: starEach es env := by intro _; rfl) (hpl : ∀ env, (backTo pos (starEach es env)).any (·.1) = false := by intro _; rfl) : RE c (.Call (.Name x p) (e :: es) [] pos) σ H Q :=
  re_of (fun X h => pe_callB (call_rc h) (gl_of h hg) (by rw [h.mg]; exact hm) hv (pa_ra h) hn hdb (he _) (hpl _)) q
theorem e_callT {x : Str} {T : String} {p : Pos} {e : Expr} {es : List Expr} (hm : c.mg x = none) (hv : bootBuiltins x = some (.type T)) (q : RA c (e :: es) σ H fun vs H1 => RC c (.type T) vs H1 Q) (hg : c.sc.names.lookup x = some .globalImplicit := by rfl) (hn : x ≠ "__name__" := by decide) (hdb : (x == ("__debug__" : Str)) = false := by decide)
    (he : ∀ env, starEach (e :: es) env = (false, eval e env) :: starEach es env := by intro _; rfl) (hpl : ∀ env, (backTo pos (starEach es env)).any (·.1) = false := by intro _; rfl) : RE c (.Call (.Name x p) (e :: es) [] pos) σ H Q :=
  re_of (fun X h => pe_callTy (call_rc h) (gl_of h hg) (by rw [h.mg]; exact hm) hv (pa_ra h) hn hdb (he _) (hpl _)) q
/-- o.name(e, ..), a builtin's method -/
theorem e_bm {T id : String} {o e : Expr} {es : List Expr} {name : Str} {apos : Pos} (pa : PlainAttrs T) (slot : Slot T name id) (hty : typeOf (.builtin id) = pure (.type "method_descriptor")) (q : RE c o σ H fun x H1 => tyV c.K T x H1 ∧ RA c (e :: es) σ H1 fun xs H2 => RM c id x xs H2 Q)
    (hbase : ∀ env, attributeBase o name env (eval o env) = eval o env := by intro _; rfl)
    (hfew : ∀ env, ((backTo pos (starEach (e :: es) env)).all (fun x => !x.1) && (backToKw pos (keywordEach [] env)).all (fun x => x.1.isSome)
      && decide ((e :: es).length + ([] : List Keyword).length + (if ([] : List Keyword).isEmpty then 0 else 1) < 30)) = true := by intro _; rfl)
    (hline : (apos.endLine == pos.line) = true := by rfl) (hs : ∀ env, starEach (e :: es) env = (false, eval e env) :: starEach es env := by intro _; rfl) (hplain : ∀ env, (backTo pos (starEach es env)).any (·.1) = false := by intro _; rfl) :
    RE c (.Call (.Attribute o name apos) (e :: es) [] pos) σ H Q := by
  refine re_of (t := tBM c.K T (RM c id) (RE c o) (RA c (e :: es))) (fun X h => ?_) q
  rw [← h.K]
  exact pe_bm pa slot hty (mt_rm h) (pe_re h) (pa_ra h) (hbase _) (hfew _) hline (hs _) (hplain _)
theorem e_bm0 {T id : String} {o : Expr} {name : Str} {apos : Pos} (pa : PlainAttrs T) (slot : Slot T name id) (hty : typeOf (.builtin id) = pure (.type "method_descriptor")) (q : RE c o σ H fun x H1 => tyV c.K T x H1 ∧ RM c id x [] H1 Q)
    (hbase : ∀ env, attributeBase o name env (eval o env) = eval o env := by intro _; rfl) (hline : (apos.endLine == pos.line) = true := by rfl) : RE c (.Call (.Attribute o name apos) [] [] pos) σ H Q := by
  refine re_of (t := tBM0 c.K T (RM c id) (RE c o)) (fun X h => ?_) q
  rw [← h.K]
  exact pe_bm0 pa slot hty (mt_rm h) (pe_re h) (hbase _) hline

/-! ### tests -/
variable {R : Bool → Hp → Prop}
theorem t_val {e : Expr} (q : RE c e σ H fun x H1 => ∃ k, x = .bl k ∧ R k H1) (he : ∀ env whole, isTrue e env whole = (do let v ← whole; standAt e.pos; holding [v] (truthy v)) := by intro _ _; rfl) : RT c e σ H R :=
  rt_of (fun X h => pt_val (pe_re h) (he _)) q
theorem t_tru {e : Expr} (q : RE c e σ H fun x H1 => ∃ k, TruV c.K x H1 k ∧ R k H1) (he : ∀ env whole, isTrue e env whole = (do let v ← whole; standAt e.pos; holding [v] (truthy v)) := by intro _ _; rfl) : RT c e σ H R :=
  rt_of (t := fun σ H Q => RE c e σ H fun x H' => ∃ k, TruV c.K x H' k ∧ Q k H') (fun X h => by rw [← h.K]; exact pt_truth (pe_re h) (he _)) q
theorem t_cmp {a b : Expr} {op : CmpOp} (q : RE c a σ H fun x H1 => RE c b σ H1 fun y H2 => RQ c op x y H2 fun z H3 => ∃ k, z = .bl k ∧ R k H3) (hm : behindInMarks op b = false := by first | rfl | exact nomark _) : RT c (.Compare a [op] [b] pos) σ H R :=
  rt_of (fun X h => pt_cmpR (op_rq h) (pe_re h) (pe_re h) hm) q
theorem t_chain {a b d : Expr} {op op' : CmpOp} (q : RE c a σ H fun x H1 => RE c b σ H1 fun y H2 => RQ c op x y H2 fun z H3 => ∃ k, z = .bl k ∧ (if k = true then RE c d σ H3 fun w' H4 => RQ c op' y w' H4 (fun z H5 => ∃ k, z = .bl k ∧ R k H5) else (∃ k, V.bl false = .bl k ∧ R k H3)))
    (hm : lastMarks [op, op'] [b, d] = false := by with_unfolding_all rfl) : RT c (.Compare a [op, op'] [b, d] pos) σ H R :=
  rt_of (t := tTest (tChain (RQ c op) (RQ c op') (RE c a) (RE c b) (RE c d))) (fun X h => pt_chain (op_rq h) (op_rq h) (pe_re h) (pe_re h) (pe_re h) hm) q
theorem t_not {a : Expr} (q : RT c a σ H fun k H1 => R (!k) H1) : RT c (.UnaryOp .Not a pos) σ H R := rt_of (fun X h => pt_not (pt_rt h)) q
theorem t_w {e : Expr} (q : RW c e σ H R) : RT c e σ H R := rt_of (fun X h => (pw_rw h).pt) q
theorem w_and1 {a : Expr} (q : RT c a σ H R) : RW c (.BoolOp .And [a] pos) σ H R := rw_of (fun X h => pw_and1 (pt_rt h)) q
theorem w_or1 {a : Expr} (q : RT c a σ H R) : RW c (.BoolOp .Or [a] pos) σ H R := rw_of (fun X h => pw_or1 (pt_rt h)) q
theorem w_and {a b : Expr} {rest : List Expr} (q : RT c a σ H fun k H1 => if k = true then RW c (.BoolOp .And (b :: rest) pos) σ H1 R else R false H1) : RW c (.BoolOp .And (a :: b :: rest) pos) σ H R :=
  rw_of (fun X h => pw_and (pt_rt h) (pw_rw h)) q
theorem w_or {a b : Expr} {rest : List Expr} (q : RT c a σ H fun k H1 => if k = true then R true H1 else RW c (.BoolOp .Or (b :: rest) pos) σ H1 R) : RW c (.BoolOp .Or (a :: b :: rest) pos) σ H R :=
  rw_of (fun X h => pw_or (pt_rt h) (pw_rw h)) q
/-! ### statements -/
variable {D : Ends} {nx : L2.St → Hp → Prop} {rt : VK} {bk ct : L2.St → Hp → Prop}
theorem b_nil (q : D.nx σ H) : RB c [] D σ H := rb_of (fun _ _ => pss_nil) q
theorem b_cons {st : Stmt} {rest : List Stmt} (q : RS c st ⟨fun σ1 H1 => RB c rest ⟨nx, rt, bk, ct⟩ σ1 H1, rt, bk, ct⟩ σ H) : RB c (st :: rest) ⟨nx, rt, bk, ct⟩ σ H := rb_of (t := tSeq (RS c st) (RB c rest)) (fun X h => pss_cons (ps_rs h) (ps_rb h)) q
/-- a statement, then the rest, with a word between them -/
theorem b_cut {st : Stmt} {rest : List Stmt} (Mid : L2.St → Hp → Prop) (q : RS c st ⟨Mid, rt, bk, ct⟩ σ H) (q2 : ∀ σ1 H1, Mid σ1 H1 → RB c rest ⟨nx, rt, bk, ct⟩ σ1 H1) : RB c (st :: rest) ⟨nx, rt, bk, ct⟩ σ H :=
  b_cons (RS.mono (D := ⟨Mid, rt, bk, ct⟩) (D' := ⟨fun σ1 H1 => RB c rest ⟨nx, rt, bk, ct⟩ σ1 H1, rt, bk, ct⟩) ⟨q2, fun _ _ h => h, fun _ _ h => h, fun _ _ h => h⟩ q)
theorem b_one {st : Stmt} (q : RS c st D σ H) : RB c [st] D σ H := rb_of (fun X h => pss_one (ps_rs h)) q
theorem s_pass (q : D.nx σ H) : RS c (.Pass pos) D σ H := rs_of (fun _ _ => ps_pass) q
theorem s_break (q : D.bk σ H) : RS c (.Break pos) D σ H := rs_of (fun _ _ => ps_break) q
theorem s_cont (q : D.ct σ H) : RS c (.Continue pos) D σ H := rs_of (fun _ _ => ps_continue) q
theorem s_ret {e : Expr} (q : RE c e σ H D.rt) : RS c (.Return (some e) pos) D σ H := rs_of (fun X h => ps_ret (pe_re h)) q
theorem s_retN (q : D.rt .non H) : RS c (.Return none pos) D σ H := rs_of (fun X h => ps_retN) q
theorem s_expr {e : Expr} (q : RE c e σ H fun _ H1 => D.nx σ H1) (hs : ∀ env, swapsWith e none pos.line env = pure false := by intro _; rfl) : RS c (.Expr e pos) D σ H := rs_of (fun X h => ps_expr (pe_re h) (hs _)) q
theorem s_if {d : Expr} {a b : List Stmt} (q : RT c d σ H fun k H1 => if k = true then RB c a D σ H1 else RB c b D σ H1) : RS c (.If d a b pos) D σ H := rs_of (fun X h => ps_if (pt_rt h) (ps_rb h) (ps_rb h)) q
theorem s_asg {tg e : Expr} (q : RE c e σ H fun x H1 => RG c tg x σ H1 D.nx) (hs : ∀ env, swapsWithSole [tg] e pos.line env = pure false := by intro _; rfl) (hw : ∀ env, swappedStores [tg] e env = pure none := by intro _; rfl)
    (h1 : ∀ env, (assignEach [tg] env).map (·.2) = [assign tg env] := by intro _; rfl) : RS c (.Assign [tg] e pos) D σ H := rs_of (fun X h => ps_asg (pe_re h) (pg_rg h) (hs _) (hw _) (h1 _)) q
theorem s_set {i : Nat} {x : Str} {e : Expr} {pos' : Pos} (hA : At c.N i x) (q : RE c e σ H fun v H1 => D.nx (σ.set i (some v)) H1) (hx : c.sc.names.lookup x = some .local ∨ (c.sc.names.lookup x = some .cell ∧ c.top = true) := by first | exact Or.inl rfl | exact Or.inr ⟨rfl, rfl⟩)
    (hs : ∀ env, swapsWith e (some (.Name x pos')) pos.line env = pure false := by intro _; rfl) : RS c (.Assign [.Name x pos'] e pos) D σ H := by
  refine rs_of (t := tAsg (RE c e) (gName i)) (fun X h => ?_) q
  refine ps_set (by rw [h.N]; exact h.nd) (by rw [h.N]; exact hA.get) ?_ (pe_re h) (hs _) ?_
  · rcases hx with z | z
    · exact .inl (by rw [h.sc]; exact z)
    · exact .inr (by rw [h.sc]; exact z.1)
  · rcases hx with z | z
    · exact .inr (by rw [h.sc]; exact z)
    · exact .inl (h.top z.2 _)
theorem g_name {i : Nat} {x : Str} {v : V} {R : L2.St → Hp → Prop} (hA : At c.N i x) (q : R (σ.set i (some v)) H) (hx : c.sc.names.lookup x = some .local ∨ (c.sc.names.lookup x = some .cell ∧ c.top = true) := by first | exact Or.inl rfl | exact Or.inr ⟨rfl, rfl⟩) : RG c (.Name x pos) v σ H R := by
  refine rg_of (t := gName i) (fun X h => ?_) q
  refine pg_name (by rw [h.N]; exact h.nd) (by rw [h.N]; exact hA.get) ?_ ?_
  · rcases hx with z | z
    · exact .inl (by rw [h.sc]; exact z)
    · exact .inr (by rw [h.sc]; exact z.1)
  · rcases hx with z | z
    · exact .inr (by rw [h.sc]; exact z)
    · exact .inl (h.top z.2 _)
theorem gs_nil {R : L2.St → Hp → Prop} (q : R σ H) : RGs c [] [] σ H R := rgs_of (fun _ _ => pgs_nil) ⟨rfl, q⟩
theorem gs_cons {e : Expr} {es : List Expr} {v : V} {vs : List V} {R : L2.St → Hp → Prop} (q : RG c e v σ H fun σ1 H1 => RGs c es vs σ1 H1 R) (hs : ∀ env, (assignEach (e :: es) env).map (·.2) = assign e env :: (assignEach es env).map (·.2) := by intro _; rfl) : RGs c (e :: es) (v :: vs) σ H R :=
  rgs_of (t := gCons (RG c e) (RGs c es)) (fun X h => pgs_cons (pg_rg h) (pg_rgs h) (hs _)) ⟨v, vs, rfl, q⟩
theorem g_tup {es : List Expr} {k : Nat} {a : Addr} {xs : List V} {n : Nat} {R : L2.St → Hp → Prop} (ht : SqT c.K H a xs) (q : RGs c es xs σ H R) (hl : xs.length = n := by rfl) (hn : ∀ env, (assignEach es env).length = n := by intro _; rfl) (hst : ∀ env, (assignEach es env).findIdx? (·.1) = none := by intro _; rfl) :
    RG c (.Tuple es k pos) (.ref a) σ H R := rg_of (t := gTup c.K n (RGs c es)) (fun X h => by rw [← h.K]; exact pg_tup h.calm (pg_rgs h) (hn _) (hst _)) ⟨a, xs, rfl, ht, hl, q⟩
theorem g_sub {o i : Expr} {v : V} {R : L2.St → Hp → Prop} (q : RE c o σ H fun x H1 => RE c i σ H1 fun y H2 => RP c x y v H2 fun H3 => R σ H3)
    (ha : ∀ env v, assign (.Subscript o i pos) env v = (do
      let ov ← holding [v] (eval o env)
      let iv ← holding [v, ov] (eval i env)
      standAt pos
      holding [v, ov, iv] (setItem ov iv v)
      release [v, ov, iv] []) := by intro _ _; rfl) : RG c (.Subscript o i pos) v σ H R := rg_of (fun X h => pg_sub (pe_re h) (pe_re h) (set_rp h) (ha _)) q
/-- d[k] = v -/
theorem s_dput {o i e : Expr} {pos' : Pos} (q : RE c e σ H fun v H1 => RE c o σ H1 fun x H2 => RE c i σ H2 fun y H3 => ∃ a H4, x = .ref a ∧ DPut H3 a y v H4 ∧ D.nx σ H4)
    (hs : ∀ env, swapsWith e (some (.Subscript o i pos')) pos.line env = pure false := by intro _; rfl) : RS c (.Assign [.Subscript o i pos'] e pos) D σ H :=
  rs_of (fun X h => ps_dput (by have := h.room.units; omega) (pe_re h) (pe_re h) (pe_re h) (hs _)) q
/-- a, b = x, y -/
theorem s_par {i j : Nat} {x y : Str} {a b : Expr} {px py pt : Pos} {kt k2 pt2} (hi : At c.N i x) (hj : At c.N j y) (q : RE c a σ H fun v H1 => RE c b σ H1 fun w H2 => D.nx ((σ.set i (some v)).set j (some w)) H2) (hij : i ≠ j := by decide)
    (hx : c.sc.names.lookup x = some .local := by rfl) (hy : c.sc.names.lookup y = some .local := by rfl)
    (hw : ∀ env : Env, env.scope = c.sc → swappedStores [.Tuple [.Name x px, .Name y py] kt pt] (.Tuple [a, b] k2 pt2) env = pure (some [x, y]))
    (hs : ∀ env, swapsWithSole [.Tuple [.Name x px, .Name y py] kt pt] (.Tuple [a, b] k2 pt2) pos.line env = pure false := by intro _; rfl)
    (h1 : ∀ env, starEach [a, b] env = (false, eval a env) :: starEach [b] env := by intro _; rfl) (h2 : ∀ env, starEach [b] env = (false, eval b env) :: starEach [] env := by intro _; rfl) :
    RS c (.Assign [.Tuple [.Name x px, .Name y py] kt pt] (.Tuple [a, b] k2 pt2) pos) D σ H := by
  refine rs_of (t := tPar i j (RA c [a, b])) (fun X h => ps_par h.calm (by rw [h.N]; exact h.nd) (by rw [h.N]; exact hi.get) (by rw [h.N]; exact hj.get) hij (by rw [h.sc]; exact hx) (by rw [h.sc]; exact hy) (pa_ra h) (hw _ h.sc) (hs _)) ?_
  refine a_cons (RE.mono (fun v H1 z => a_cons (RE.mono (fun w H2 z => a_nil ⟨v, w, rfl, z⟩) z) h2) q) h1

/-! ### what is walked -/
theorem i_list {tg l : Expr} {R : It → Hp → Prop} (q : RE c l σ H fun x H1 => ∃ a, x = .ref a ∧ (∃ xs, SqL c.K H1 a xs) ∧ R (Itl c.K a) H1) : RI c tg l σ H R :=
  ri_of (t := iList c.K (RE c l)) (fun X h => by rw [← h.K]; exact pi_list (pe_re h)) q
theorem i_tup {tg l : Expr} {R : It → Hp → Prop} (q : RE c l σ H fun x H1 => ∃ a, x = .ref a ∧ (∃ xs, SqT c.K H1 a xs) ∧ R (Itt c.K a) H1) : RI c tg l σ H R :=
  ri_of (t := iTup c.K (RE c l)) (fun X h => by rw [← h.K]; exact pi_tup (pe_re h)) q
theorem i_range1 {tg a : Expr} {p : Pos} {R : It → Hp → Prop} (hm : c.mg "range" = none) (q : RA c [a] σ H fun vs H1 => ∃ j : Int, vs = [.int j] ∧ -(2 ^ 62) ≤ j ∧ j < 2 ^ 62 ∧ R (Itr 0 j.toNat) H1) (hg : c.sc.names.lookup ("range" : Str) = some .globalImplicit := by rfl) (hs : ∀ env, starEach [a] env = [(false, eval a env)] := by intro _; rfl) :
    RI c tg (.Call (.Name "range" p) [a] [] pos) σ H R := ri_of (t := iRng1 (RA c [a])) (fun X h => pi_range1 (gl_of h hg) (by rw [h.mg]; exact hm) (pa_ra h) (hs _)) q
theorem i_range2 {tg a b : Expr} {p : Pos} {R : It → Hp → Prop} (hm : c.mg "range" = none) (q : RA c [a, b] σ H fun vs H1 => ∃ i j : Int, vs = [.int i, .int j] ∧ (-(2 ^ 62) ≤ i ∧ i < 2 ^ 62 ∧ -(2 ^ 62) ≤ j ∧ j < 2 ^ 62) ∧ R (Itr i (j - i).toNat) H1) (hg : c.sc.names.lookup ("range" : Str) = some .globalImplicit := by rfl)
    (hs : ∀ env, starEach [a, b] env = [(false, eval a env), (false, eval b env)] := by intro _; rfl) (hs2 : ∀ env, starEach [b] env = [(false, eval b env)] := by intro _; rfl) :
    RI c tg (.Call (.Name "range" p) [a, b] [] pos) σ H R := ri_of (t := iRng2 (RA c [a, b])) (fun X h => pi_range2 (gl_of h hg) (by rw [h.mg]; exact hm) (pa_ra h) (hs _) (hs2 _)) q

/-! ### loops -/
theorem s_for {tg iter : Expr} {body : List Stmt} (q : RI c tg iter σ H fun J H1 => ∃ W : Nat → Nat → L2.St → Hp → Prop, (∃ m, W 0 m σ H1) ∧ ∀ i m σ H, W i m σ H →
      (J.stop i H ∧ nx σ H) ∨ (J.go i H ∧ ∃ N : L2.St → Hp → Prop, (∀ σ' H', N σ' H' → ∃ m', m' < m ∧ W (i + 1) m' σ' H') ∧ ∀ x H', J.yld i H x H' → RG c tg x σ H' fun σ2 H2 => RB c body ⟨N, rt, nx, N⟩ σ2 H2))
    (hs : ∀ env x, foldedSetIterable iter env x = pure x := by intro _ _; rfl) : RS c (.For tg iter body [] pos) ⟨nx, rt, bk, ct⟩ σ H :=
  rs_of (t := tFor (RI c tg iter) (RG c tg) (RB c body)) (fun X h => ps_for h.own h.calm (pi_ri h) (pg_rg h) (ps_rb h) (hs _)) q
theorem s_forT {tg iter : Expr} {body : List Stmt} (q : RE c iter σ H fun x H1 => ∃ a xs, x = .ref a ∧ SqT c.K H1 a xs ∧ ∃ Pv : Nat → L2.St → Hp → Prop, Pv 0 σ H1 ∧ (∀ i σ' H', i ≤ xs.length → Pv i σ' H' → SqT c.K H' a xs) ∧
      (∀ i x σ' H', xs[i]? = some x → Pv i σ' H' → RG c tg x σ' H' fun σ2 H2 => RB c body ⟨Pv (i + 1), rt, nx, Pv (i + 1)⟩ σ2 H2) ∧ ∀ σ' H', Pv xs.length σ' H' → nx σ' H')
    (hs : ∀ env x, foldedSetIterable iter env x = pure x := by intro _ _; rfl) : RS c (.For tg iter body [] pos) ⟨nx, rt, bk, ct⟩ σ H := by
  refine s_for (i_tup (RE.mono (fun x H1 z => ?_) q)) hs
  obtain ⟨a, xs, rfl, ht, Pv, h0, hl, hs, hd⟩ := z
  exact ⟨a, rfl, ⟨xs, ht⟩, for_tup (tb := RB c body) (D := ⟨nx, rt, bk, ct⟩) Pv h0 hl hs hd⟩
theorem s_forL {tg iter : Expr} {body : List Stmt} (q : RE c iter σ H fun x H1 => ∃ a xs, x = .ref a ∧ SqL c.K H1 a xs ∧ ∃ Pv : Nat → L2.St → Hp → Prop, Pv 0 σ H1 ∧ (∀ i σ' H', i ≤ xs.length → Pv i σ' H' → SqL c.K H' a xs) ∧
      (∀ i x σ' H', xs[i]? = some x → Pv i σ' H' → RG c tg x σ' H' fun σ2 H2 => RB c body ⟨Pv (i + 1), rt, nx, Pv (i + 1)⟩ σ2 H2) ∧ ∀ σ' H', Pv xs.length σ' H' → nx σ' H')
    (hs : ∀ env x, foldedSetIterable iter env x = pure x := by intro _ _; rfl) : RS c (.For tg iter body [] pos) ⟨nx, rt, bk, ct⟩ σ H := by
  refine s_for (i_list (RE.mono (fun x H1 z => ?_) q)) hs
  obtain ⟨a, xs, rfl, ht, Pv, h0, hl, hs, hd⟩ := z
  exact ⟨a, rfl, ⟨xs, ht⟩, for_list (tb := RB c body) (D := ⟨nx, rt, bk, ct⟩) Pv h0 hl hs hd⟩
theorem s_forR1 {tg a : Expr} {p ppos : Pos} {body : List Stmt} (hm : c.mg "range" = none) (q : RE c a σ H fun x H1 => ∃ n : Int, x = .int n ∧ -(2 ^ 62) ≤ n ∧ n < 2 ^ 62 ∧ ∃ Pv : Nat → L2.St → Hp → Prop, Pv 0 σ H1 ∧
      (∀ i σ' H', i < n.toNat → Pv i σ' H' → RG c tg (.int (i : Int)) σ' H' fun σ2 H2 => RB c body ⟨Pv (i + 1), rt, nx, Pv (i + 1)⟩ σ2 H2) ∧ ∀ σ' H', Pv n.toNat σ' H' → nx σ' H')
    (hg : c.sc.names.lookup ("range" : Str) = some .globalImplicit := by rfl) (h1 : ∀ env, starEach [a] env = [(false, eval a env)] := by intro _; rfl) (hs : ∀ env x, foldedSetIterable (.Call (.Name "range" p) [a] [] ppos) env x = pure x := by intro _ _; rfl) :
    RS c (.For tg (.Call (.Name "range" p) [a] [] ppos) body [] pos) ⟨nx, rt, bk, ct⟩ σ H := by
  refine s_for (i_range1 hm (a_cons (RE.mono (fun x H1 z => ?_) q) (fun env => by rw [h1]; rfl)) hg h1) hs
  obtain ⟨n, rfl, n1, n2, Pv, h0, hs, hd⟩ := z
  refine a_nil ⟨n, rfl, n1, n2, for_range (tb := RB c body) (D := ⟨nx, rt, bk, ct⟩) (lo := 0) (n := n.toNat) Pv h0 (fun i σ' H' hi p => ?_) hd⟩
  rw [Int.zero_add]
  exact hs i σ' H' hi p
theorem s_while {d : Expr} {body : List Stmt} (Pv : Nat → L2.St → Hp → Prop) (m : Nat) (h0 : Pv m σ H)
    (q : ∀ m σ H, Pv m σ H → RT c d σ H fun b H1 => if b = true then RB c body ⟨fun σ' H' => ∃ m', m' < m ∧ Pv m' σ' H', rt, nx, fun σ' H' => ∃ m', m' < m ∧ Pv m' σ' H'⟩ σ H1 else nx σ H1) : RS c (.While d body [] pos) ⟨nx, rt, bk, ct⟩ σ H := by
  refine rs_of (t := tWhile (RT c d) (RB c body)) (fun X h => ps_while h.own (pt_rt h) (ps_rb h)) ⟨Pv, ⟨m, h0⟩, fun m σ H p => RT.mono (fun b H1 z => ?_) (q m σ H p)⟩
  cases b with
  | true => exact ⟨_, fun _ _ z => z, z⟩
  | false => exact z
end
end G

namespace G
open PySem PySem.Spec PyProof.Rows L2

/-! ### heaps: what stays -/
structure Tp (H H' : Hp) : Prop where
  t : ∀ a xs, H a = some (.tup xs) → H' a = some (.tup xs)
  f : ∀ a o u, H a = some (.frz o u) → H' a = some (.frz o u)
theorem Tp.refl (H : Hp) : Tp H H := ⟨fun _ _ h => h, fun _ _ _ h => h⟩
theorem Tp.trans {H H1 H2 : Hp} (a : Tp H H1) (b : Tp H1 H2) : Tp H H2 := ⟨fun _ _ h => b.t _ _ (a.t _ _ h), fun _ _ _ h => b.f _ _ _ (a.f _ _ _ h)⟩
theorem tp_same {H H' : Hp} (s : Same H H') : Tp H H' := ⟨fun _ _ h => s _ _ h, fun _ _ _ h => s _ _ h⟩
theorem Tp.sqt {K : PySem.W.Frag} {H H' : Hp} {a : Addr} {xs : List V} (e : Tp H H') (h : SqT K H a xs) : SqT K H' a xs := by
  rcases h with (h | ⟨o, h⟩) | h
  · exact .inl (.inl (e.t _ _ h))
  · exact .inl (.inr ⟨o, e.f _ _ _ h⟩)
  · exact .inr h
theorem same_new {H : Hp} {p : Addr} {o : HO} (h : H p = none) : Same H (upd H p o) := fun b u q => by rw [upd_ne (ne_of_none q h)]; exact q
/-- all but the thing at m stays; m is no tuple and not locked -/
structure Kp (m : Addr) (H H' : Hp) : Prop where
  k : ∀ a o, a ≠ m → H a = some o → H' a = some o
  t : Tp H H'
theorem kp_same {m : Addr} {H H' : Hp} (s : Same H H') : Kp m H H' := ⟨fun _ _ _ h => s _ _ h, tp_same s⟩
theorem Kp.refl (m : Addr) (H : Hp) : Kp m H H := kp_same (Same.refl H)
theorem Kp.trans {m : Addr} {H H1 H2 : Hp} (a : Kp m H H1) (b : Kp m H1 H2) : Kp m H H2 := ⟨fun _ _ n h => b.k _ _ n (a.k _ _ n h), a.t.trans b.t⟩
/-- a list (of ours) is written -/
theorem kp_upd {H : Hp} {p : Addr} {o o' : HO} (h : H p = some o) (h1 : ∀ xs, o ≠ .tup xs) (h2 : ∀ b u, o ≠ .frz b u) : Kp p H (upd H p o') :=
  ⟨fun a u n q => by rw [upd_ne n]; exact q, fun a xs q => by rw [upd_ne (ne_of q h fun e => h1 _ e.symm)]; exact q, fun a b u q => by rw [upd_ne (ne_of q h fun e => h2 _ _ e.symm)]; exact q⟩
/-- a thing that the older heap does not know is written: for it nothing has changed -/
theorem same_mut {H H1 : Hp} {p : Addr} {o : HO} (s : Same H H1) (h : H p = none) : Same H (upd H1 p o) := fun b u q => by rw [upd_ne (ne_of_none q h)]; exact s _ _ q
theorem kp_mut {m : Addr} {H H1 : Hp} {p : Addr} {o : HO} (s : Kp m H H1) (h : H p = none) : Kp m H (upd H1 p o) :=
  ⟨fun b u n q => by rw [upd_ne (ne_of_none q h)]; exact s.k _ _ n q, fun b u q => by rw [upd_ne (ne_of_none q h)]; exact s.t.t _ _ q, fun b u v q => by rw [upd_ne (ne_of_none q h)]; exact s.t.f _ _ _ q⟩

/-! ### data that never changes: none, bools, ints, texts, tuples of these -/
mutual
inductive Dt (K : PySem.W.Frag) (H : Hp) : V → PyData → Prop
  | non : Dt K H .non .none
  | bl (b : Bool) : Dt K H (.bl b) (.bool b)
  | int (i : Int) : Dt K H (.int i) (.int i)
  | str (x : Str) : Dt K H (.str x) (.str x)
  | tup {a : Addr} {xs : List V} {ds : List PyData} : SqT K H a xs → DtAll K H xs ds → Dt K H (.ref a) (.tuple ds)
inductive DtAll (K : PySem.W.Frag) (H : Hp) : List V → List PyData → Prop
  | nil : DtAll K H [] []
  | cons {v : V} {vs : List V} {d : PyData} {ds : List PyData} : Dt K H v d → DtAll K H vs ds → DtAll K H (v :: vs) (d :: ds)
end
section
variable {K : PySem.W.Frag} {H H' : Hp}
mutual
theorem Dt.mono (e : Tp H H') : ∀ {d : PyData} {v : V}, Dt K H v d → Dt K H' v d
  | .none, _, h => by cases h; exact .non
  | .bool _, _, h => by cases h; exact .bl _
  | .int _, _, h => by cases h; exact .int _
  | .str _, _, h => by cases h; exact .str _
  | .tuple ds, _, h => by
    cases h with
    | tup hs ha => exact .tup (e.sqt hs) (DtAll.mono e ha)
  | .list _, _, h => by cases h
  | .dict _, _, h => by cases h
theorem DtAll.mono (e : Tp H H') : ∀ {ds : List PyData} {vs : List V}, DtAll K H vs ds → DtAll K H' vs ds
  | [], _, h => by cases h; exact .nil
  | d :: ds, _, h => by
    cases h with
    | cons h1 h2 => exact .cons (Dt.mono e h1) (DtAll.mono e h2)
end
mutual
theorem Dt.dp : ∀ {d : PyData} {v : V}, Dt K H v d → Dp K H v d
  | .none, _, h => by cases h; exact .non
  | .bool _, _, h => by cases h; exact .bl _
  | .int _, _, h => by cases h; exact .int _
  | .str _, _, h => by cases h; exact .str _
  | .tuple ds, _, h => by
    cases h with
    | tup hs ha => exact .tup hs (DtAll.dp ha)
  | .list _, _, h => by cases h
  | .dict _, _, h => by cases h
theorem DtAll.dp : ∀ {ds : List PyData} {vs : List V}, DtAll K H vs ds → DpAll K H vs ds
  | [], _, h => by cases h; exact .nil
  | d :: ds, _, h => by
    cases h with
    | cons h1 h2 => exact .cons (Dt.dp h1) (DtAll.dp h2)
end
theorem DtAll.len : ∀ {ds : List PyData} {vs : List V}, DtAll K H vs ds → vs.length = ds.length
  | [], _, h => by cases h; rfl
  | d :: ds, _, h => by
    cases h with
    | cons _ h2 => exact congrArg Nat.succ (DtAll.len h2)
theorem DtAll.get : ∀ {ds : List PyData} {vs : List V} {i : Nat} {d : PyData}, DtAll K H vs ds → ds[i]? = some d → ∃ v, vs[i]? = some v ∧ Dt K H v d
  | [], _, _, _, _, e => by simp at e
  | d :: ds, _, 0, _, h, e => by
    cases h with
    | cons h1 _ =>
      simp at e
      subst e
      exact ⟨_, rfl, h1⟩
  | d :: ds, _, i + 1, _, h, e => by
    cases h with
    | cons _ h2 =>
      obtain ⟨v, e1, h3⟩ := DtAll.get (i := i) h2 (by simpa using e)
      exact ⟨v, by simpa using e1, h3⟩
theorem DtAll.getV : ∀ {ds : List PyData} {vs : List V} {i : Nat} {v : V}, DtAll K H vs ds → vs[i]? = some v → ∃ d, ds[i]? = some d ∧ Dt K H v d
  | [], _, _, _, h, e => by cases h; simp at e
  | d :: ds, _, 0, _, h, e => by
    cases h with
    | cons h1 _ =>
      simp at e
      subst e
      exact ⟨_, rfl, h1⟩
  | d :: ds, _, i + 1, _, h, e => by
    cases h with
    | cons _ h2 =>
      obtain ⟨v, e1, h3⟩ := DtAll.getV (i := i) h2 (by simpa using e)
      exact ⟨v, by simpa using e1, h3⟩
theorem DtAll.app : ∀ {ds es : List PyData} {vs us : List V}, DtAll K H vs ds → DtAll K H us es → DtAll K H (vs ++ us) (ds ++ es)
  | [], _, _, _, h, k => by cases h; exact k
  | d :: ds, _, _, _, h, k => by
    cases h with
    | cons h1 h2 => exact .cons h1 (DtAll.app h2 k)
theorem DtAll.drop : ∀ {ds : List PyData} {vs : List V} (n : Nat), DtAll K H vs ds → DtAll K H (vs.drop n) (ds.drop n)
  | _, _, 0, h => h
  | [], _, _ + 1, h => by cases h; exact .nil
  | d :: ds, _, n + 1, h => by
    cases h with
    | cons _ h2 => exact DtAll.drop n h2
theorem DtAll.take : ∀ {ds : List PyData} {vs : List V} (n : Nat), DtAll K H vs ds → DtAll K H (vs.take n) (ds.take n)
  | _, _, 0, h => .nil
  | [], _, _ + 1, h => by cases h; exact .nil
  | d :: ds, _, n + 1, h => by
    cases h with
    | cons h1 h2 => exact .cons h1 (DtAll.take n h2)
theorem Dt.intE {v : V} {i : Int} (h : Dt K H v (.int i)) : v = .int i := by cases h; rfl
theorem Dt.strE {v : V} {i : Str} (h : Dt K H v (.str i)) : v = .str i := by cases h; rfl
theorem Dt.blE {v : V} {i : Bool} (h : Dt K H v (.bool i)) : v = .bl i := by cases h; rfl
theorem Dt.nonE {v : V} (h : Dt K H v .none) : v = .non := by cases h; rfl
theorem Dt.tupE {v : V} {ds : List PyData} (h : Dt K H v (.tuple ds)) : ∃ a xs, v = .ref a ∧ SqT K H a xs ∧ DtAll K H xs ds := by
  cases h with
  | tup h1 h2 => exact ⟨_, _, rfl, h1, h2⟩
end
theorem atI_map {α β : Type} {R : α → β → Prop} {xs : List α} {ys : List β} (hl : xs.length = ys.length) {i : Int} {y : β} (h : atI ys i = some y) (g : ∀ (j : Nat) y, ys[j]? = some y → ∃ x, xs[j]? = some x ∧ R x y) : ∃ x, atI xs i = some x ∧ R x y := by
  unfold atI at h ⊢
  rw [hl]
  cases e : ixN ys.length i with
  | none => rw [e] at h; cases h
  | some j =>
    rw [e] at h
    obtain ⟨x, h1, h2⟩ := g j y h
    exact ⟨x, h1, h2⟩

/-! ### steps over data -/
section
variable {c : Cd} {σ : L2.St} {H : Hp} {Q : VK} {pos : Pos} {x y : V}
theorem ro_add {i j : Int} (q : Q (.int (i + j)) H) : RO c .Add (.int i) (.int j) H Q := ro_of (fun _ _ => op_add) ⟨i, j, rfl, rfl, q⟩
theorem ro_sub {i j : Int} (q : Q (.int (i - j)) H) : RO c .Sub (.int i) (.int j) H Q := ro_of (fun _ _ => op_sub) ⟨i, j, rfl, rfl, q⟩
theorem ro_mul {i j : Int} (hc : CMul i j) (q : Q (.int (i * j)) H) : RO c .Mult (.int i) (.int j) H Q := ro_of (fun _ _ => op_mul) ⟨i, j, rfl, rfl, hc, q⟩
theorem ro_mod {i j : Int} (hc : 0 < j) (q : Q (.int (i % j)) H) : RO c .Mod (.int i) (.int j) H Q := ro_of (fun _ _ => op_mod) ⟨i, j, rfl, rfl, hc, q⟩
theorem ro_div {i j : Int} (hc : 0 < j) (h2 : j < 1073741824) (q : Q (.int (i / j)) H) : RO c .FloorDiv (.int i) (.int j) H Q := ro_of (fun _ _ => op_fdiv) ⟨i, j, rfl, rfl, ⟨hc, h2⟩, q⟩
theorem ro_pow {i j : Int} (hc : CPow i j) (q : Q (.int (i ^ j.toNat)) H) : RO c .Pow (.int i) (.int j) H Q := ro_of (fun _ _ => op_pow) ⟨i, j, rfl, rfl, hc, q⟩
theorem ro_eq (hs : scal x y = true) (q : Q (.bl (decide (x = y))) H) : RQ c .Eq x y H Q := rq_of (fun _ _ => op_eq) ⟨hs, q⟩
theorem ro_ne (hs : scal x y = true) (q : Q (.bl (!decide (x = y))) H) : RQ c .NotEq x y H Q := rq_of (fun _ _ => op_ne) ⟨hs, q⟩
theorem ro_eqI {i j : Int} (q : Q (.bl (decide (i = j))) H) : RQ c .Eq (.int i) (.int j) H Q := ro_eq rfl (by
  have e : decide (V.int i = V.int j) = decide (i = j) := decide_eq_decide.mpr ⟨fun h => V.int.inj h, fun h => by rw [h]⟩
  rw [e]; exact q)
theorem ro_neI {i j : Int} (q : Q (.bl (!decide (i = j))) H) : RQ c .NotEq (.int i) (.int j) H Q := ro_ne rfl (by
  have e : decide (V.int i = V.int j) = decide (i = j) := decide_eq_decide.mpr ⟨fun h => V.int.inj h, fun h => by rw [h]⟩
  rw [e]; exact q)
theorem ro_eqS {i j : Str} (q : Q (.bl (decide (i = j))) H) : RQ c .Eq (.str i) (.str j) H Q := ro_eq rfl (by
  have e : decide (V.str i = V.str j) = decide (i = j) := decide_eq_decide.mpr ⟨fun h => V.str.inj h, fun h => by rw [h]⟩
  rw [e]; exact q)
theorem ro_eqB {i j : Bool} (q : Q (.bl (decide (i = j))) H) : RQ c .Eq (.bl i) (.bl j) H Q := ro_eq rfl (by
  have e : decide (V.bl i = V.bl j) = decide (i = j) := decide_eq_decide.mpr ⟨fun h => V.bl.inj h, fun h => by rw [h]⟩
  rw [e]; exact q)
theorem ro_lt {i j : Int} (q : Q (.bl (decide (i < j))) H) : RQ c .Lt (.int i) (.int j) H Q := rq_of (fun _ _ => op_lt) ⟨i, j, rfl, rfl, q⟩
theorem ro_le {i j : Int} (q : Q (.bl (decide (i ≤ j))) H) : RQ c .LtE (.int i) (.int j) H Q := rq_of (fun _ _ => op_le) ⟨i, j, rfl, rfl, q⟩
theorem ro_gt {i j : Int} (q : Q (.bl (decide (j < i))) H) : RQ c .Gt (.int i) (.int j) H Q := rq_of (fun _ _ => op_gt) ⟨i, j, rfl, rfl, q⟩
theorem ro_ge {i j : Int} (q : Q (.bl (decide (j ≤ i))) H) : RQ c .GtE (.int i) (.int j) H Q := rq_of (fun _ _ => op_ge) ⟨i, j, rfl, rfl, q⟩
theorem ro_isN (q : Q (.bl (decide (x = .non))) H) : RQ c .Is x .non H Q := rq_of (fun _ _ => op_isN) ⟨rfl, q⟩
theorem ro_notN (q : Q (.bl (!decide (x = .non))) H) : RQ c .IsNot x .non H Q := rq_of (fun _ _ => op_notN) ⟨rfl, q⟩
theorem ru_neg {i : Int} (q : Q (.int (-i)) H) : RU c .USub (.int i) H Q := ru_of (fun _ _ => un_neg) ⟨i, rfl, q⟩
/-- == of data -/
theorem ro_eqD {d e : PyData} (hx : Dp c.K H x d) (hy : Dp c.K H y e) (s1 : SeqAt.shaped d = true) (s2 : SeqAt.shaped e = true) (q : Q (.bl (PyData.eqv d e)) H) : RQ c .Eq x y H Q :=
  rq_of (r := rEqD c.K) (fun X h => by rw [← h.K]; exact op_eqD h.room.units) ⟨d, e, hx, hy, s1, s2, q⟩
theorem ro_neD {d e : PyData} (hx : Dp c.K H x d) (hy : Dp c.K H y e) (s1 : SeqAt.shaped d = true) (s2 : SeqAt.shaped e = true) (q : Q (.bl (!PyData.eqv d e)) H) : RQ c .NotEq x y H Q :=
  rq_of (r := rNeD c.K) (fun X h => by rw [← h.K]; exact op_neD h.room.units) ⟨d, e, hx, hy, s1, s2, q⟩
/-- x[i] of a tuple of data -/
theorem rx_tup {ds : List PyData} {i : Int} {d : PyData} (hx : Dt c.K H x (.tuple ds)) (hi : atI ds i = some d) (q : ∀ v, Dt c.K H v d → Q v H) : RX c x (.int i) H Q := by
  obtain ⟨a, xs, rfl, ht, ha⟩ := hx.tupE
  obtain ⟨v, h1, h2⟩ := atI_map (R := fun v d => Dt c.K H v d) ha.len hi fun j y hj => ha.get hj
  exact rx_of (r := rIxT c.K) (fun X h => by rw [← h.K]; exact ix_tup) ⟨a, xs, i, v, rfl, rfl, ht, h1, q v h2⟩
theorem rx_int {ds : List PyData} {i n : Int} (hx : Dt c.K H x (.tuple ds)) (hi : atI ds i = some (.int n)) (q : Q (.int n) H) : RX c x (.int i) H Q := rx_tup hx hi fun v h => by rw [h.intE]; exact q
theorem rx_str {ds : List PyData} {i : Int} {n : Str} (hx : Dt c.K H x (.tuple ds)) (hi : atI ds i = some (.str n)) (q : Q (.str n) H) : RX c x (.int i) H Q := rx_tup hx hi fun v h => by rw [h.strE]; exact q
theorem rx_bl {ds : List PyData} {i : Int} {n : Bool} (hx : Dt c.K H x (.tuple ds)) (hi : atI ds i = some (.bool n)) (q : Q (.bl n) H) : RX c x (.int i) H Q := rx_tup hx hi fun v h => by rw [h.blE]; exact q
/-- xs[i] of a list -/
theorem rx_list {p : Addr} {xs : List V} {i : Int} {v : V} (hx : SqL c.K H p xs) (hi : atI xs i = some v) (q : Q v H) : RX c (.ref p) (.int i) H Q :=
  rx_of (r := rIxL c.K) (fun X h => by rw [← h.K]; exact ix_list) ⟨p, xs, i, v, rfl, rfl, hx, hi, q⟩
/-- (a, b, ..), data -/
theorem e_tupD {es : List Expr} {x1} (q : RA c es σ H fun xs H1 => ∃ ds, DtAll c.K H1 xs ds ∧ xs.length ≤ 1000 ∧ ∀ v H2, Same H1 H2 → Dt c.K H2 v (.tuple ds) → Q v H2) : RE c (.Tuple es x1 pos) σ H Q :=
  e_tup (RA.mono (fun xs H1 z => by
    obtain ⟨ds, h1, h2, h3⟩ := z
    exact ⟨Nat.le_trans h2 (by decide), fun p hp => h3 _ _ (same_new hp) (.tup (.of upd_same) (h1.mono (tp_same (same_new hp))))⟩) q)
/-! calls -/
/-- a def that changes nothing: R tells what it answers -/
def spF (R : List PyData → PyData → Prop) (K : PySem.W.Frag) : Sp := fun vs H Q _ => ∃ ds d, DtAll K H vs ds ∧ R ds d ∧ ∀ v H', Same H H' → Dt K H' v d → Q v H'
theorem e_callF {x : Str} {p : Pos} {e : Expr} {es : List Expr} {ps : List Str} {k : Nat} {R : List PyData → PyData → Prop} (D : Dc c.toMd x ps k (spF R c.K)) (q : RA c (e :: es) σ H fun vs H1 => ∃ ds d, DtAll c.K H1 vs ds ∧ R ds d ∧ ∀ v H', Same H1 H' → Dt c.K H' v d → Q v H') (hk : k ≤ c.k := by exact Nat.le_of_ble_eq_true rfl) (hg : c.sc.names.lookup x = some .globalImplicit := by rfl)
    (hdb : (x == ("__debug__" : Str)) = false := by decide) (he : ∀ env, starEach (e :: es) env = (false, eval e env) :: starEach es env := by intro _; rfl) (hpl : ∀ env, (backTo pos (starEach es env)).any (·.1) = false := by intro _; rfl) :
    RE c (.Call (.Name x p) (e :: es) [] pos) σ H Q := e_call D q hk hg hdb he hpl
theorem rc_max2 {i j : Int} (q : Q (.int (if j > i then j else i)) H) : RC c (.builtin "max") [.int i, .int j] H Q := rc_of (fun X h => call_max2 h.calm) ⟨i, j, rfl, q⟩
theorem rc_min2 {i j : Int} (q : Q (.int (if j < i then j else i)) H) : RC c (.builtin "min") [.int i, .int j] H Q := rc_of (fun X h => call_min2 h.calm) ⟨i, j, rfl, q⟩
theorem rc_intI {i : Int} (q : Q (.int i) H) : RC c (.type "int") [.int i] H Q := rc_of (fun X h => call_int1) (.inl ⟨i, rfl, q⟩)
theorem rc_intB {k : Bool} (q : Q (.int (if k then 1 else 0)) H) : RC c (.type "int") [.bl k] H Q := rc_of (fun X h => call_int1) (.inr ⟨k, rfl, q⟩)
theorem rc_lenL {p : Addr} {xs : List V} (h : SqL c.K H p xs) (q : Q (.int xs.length) H) : RC c (.builtin "len") [.ref p] H Q := rc_of (r := fun xs H Q => ∃ p ys, xs = [.ref p] ∧ (SqL c.K H p ys ∨ SqT c.K H p ys) ∧ Q (.int ys.length) H) (fun X h => by rw [← h.K]; exact call_len_seq) ⟨p, xs, rfl, .inl h, q⟩
theorem rc_lenT {ds : List PyData} (h : Dt c.K H x (.tuple ds)) (q : Q (.int ds.length) H) : RC c (.builtin "len") [x] H Q := by
  obtain ⟨a, xs, rfl, ht, ha⟩ := h.tupE
  refine rc_of (r := fun xs H Q => ∃ p ys, xs = [.ref p] ∧ (SqL c.K H p ys ∨ SqT c.K H p ys) ∧ Q (.int ys.length) H) (fun X h => by rw [← h.K]; exact call_len_seq) ⟨a, xs, rfl, .inr ht, ?_⟩
  rw [ha.len]; exact q
end

/-! ### a def -/
section
variable {P : Program} {w : World} {K : PySem.W.Frag} {mg : Str → Option Value} {base : Heap}
theorem is_cx {M : Md} {N : List Str} {qual : Str} {sc : Scope} {f : Addr} {cdv : Value} {A : Around} {outer : List Env} {s : Shared} {H : Hp} {E : XK} {k : Nat} (hn : N.Nodup) (hr : Room k (A.deeper (envOfC qual sc s.heap.objs.size f cdv))) :
    Is ⟨M, N, sc, k, true⟩ (cxOf CX0 M.prog M.w M.K M.mg M.base N qual sc f cdv A outer s H E).nox :=
  ⟨rfl, rfl, rfl, rfl, rfl, rfl, rfl, rfl, hr, fun _ _ => rfl, PassesOwn.never, hn⟩
theorem fn_ok {M : Md} {x qual : Str} {st : Stmt} {f : Addr} {fd : FuncData} {N ps : List Str} {k : Nat} {sp : Sp} (F : Fun M.K x qual st f fd) (S : FnScope N ps (defScope st)) (len : ∀ vs H Q E, sp vs H Q E → vs.length = ps.length)
    (body : ∀ (H : Hp) (vs : List V) (Q : VK) (E : XK), sp vs H Q E → RB ⟨M, N, defScope st, k, true⟩ (defBody st) { nx := fun _ H' => Q .non H', rt := Q } (start N vs) H) : FnOk M.prog M.w M.K M.mg M.base CX0 (k + 1) f fd ps sp :=
  F.ok S len fun cdv A outer s H vs Q E hr h => ⟨RB ⟨M, N, defScope st, k, true⟩ (defBody st), ps_rb (is_cx S.nd hr), body H vs Q E h⟩
end
end G
namespace G
open PySem PySem.Spec PyProof.Rows L2
theorem ifd {p A B : Prop} [Decidable p] (h1 : p → A) (h2 : ¬ p → B) : if decide p = true then A else B := by
  by_cases h : p
  · rw [if_pos (decide_eq_true h)]; exact h1 h
  · rw [if_neg (by simp [h])]; exact h2 h
theorem ifnd {p A B : Prop} [Decidable p] (h1 : ¬ p → A) (h2 : p → B) : if (!decide p) = true then A else B := by
  by_cases h : p
  · rw [if_neg (by simp [h])]; exact h2 h
  · rw [if_pos (by simp [h])]; exact h1 h
theorem ifT {p A B : Prop} [Decidable p] (h : p) (a : A) : if decide p = true then A else B := by rw [if_pos (decide_eq_true h)]; exact a
theorem ifF {p A B : Prop} [Decidable p] (h : ¬ p) (b : B) : if decide p = true then A else B := by rw [if_neg (by simp [h])]; exact b
theorem ifnT {p A B : Prop} [Decidable p] (h : ¬ p) (a : A) : if (!decide p) = true then A else B := by rw [if_pos (by simp [h])]; exact a
theorem ifnF {p A B : Prop} [Decidable p] (h : p) (b : B) : if (!decide p) = true then A else B := by rw [if_neg (by simp [h])]; exact b
theorem ifb {k : Bool} {A B : Prop} (h1 : k = true → A) (h2 : k = false → B) : if k = true then A else B := by
  cases k with
  | true => exact h1 rfl
  | false => exact h2 rfl
end G
namespace G
open PySem PySem.Spec PyProof.Rows L2
section
variable {c : Cd} {σ : L2.St} {H : Hp} {Q : VK} {pos : Pos} {x y : V}
/-- d[k] with a written text -/
theorem e_dgetS {a : Expr} {s : Str} {j : Nat} {p2 : Pos} (q : RE c a σ H fun x H1 => ∃ p kvs v, x = .ref p ∧ H1 p = some (.dK kvs) ∧ valV kvs (Sum.inr s) = some v ∧ Q v H1) (hs : NoSl (.Constant (.str s) j p2) := by intro _ _; rfl) : RE c (.Subscript a (.Constant (.str s) j p2) pos) σ H Q :=
  e_dget (RE.mono (fun x H1 z => e_str (by
    obtain ⟨p, kvs, v, rfl, h, e, q⟩ := z
    refine ⟨p, v, rfl, ?_, q⟩
    rw [← e]; exact DGet.k (k := Sum.inr s) h)) q) hs
theorem e_dgetK {a b : Expr} (q : RE c a σ H fun x H1 => RE c b σ H1 fun y H2 => ∃ p kvs k v, x = .ref p ∧ H2 p = some (.dK kvs) ∧ y = kV k ∧ valV kvs k = some v ∧ Q v H2) (hs : NoSl b := by intro _ _; rfl) : RE c (.Subscript a b pos) σ H Q :=
  e_dget (RE.mono (fun x H1 z => RE.mono (fun y H2 z => by
    obtain ⟨p, kvs, k, v, rfl, h, rfl, e, q⟩ := z
    refine ⟨p, v, rfl, ?_, q⟩
    rw [← e]; exact DGet.k h) z) q) hs
variable {nx : L2.St → Hp → Prop} {rt : VK} {bk ct : L2.St → Hp → Prop}
theorem s_dputS {a e : Expr} {s : Str} {j : Nat} {p2 p3 : Pos} (q : RE c e σ H fun v H1 => RE c a σ H1 fun x H2 => ∃ p kvs, x = .ref p ∧ H2 p = some (.dK kvs) ∧ kvs.length < 1000 ∧ nx σ (upd H2 p (.dK (putK kvs (Sum.inr s) v))))
    (hs : ∀ env, swapsWith e (some (.Subscript a (.Constant (.str s) j p2) p3)) pos.line env = pure false := by intro _; rfl) : RS c (.Assign [.Subscript a (.Constant (.str s) j p2) p3] e pos) ⟨nx, rt, bk, ct⟩ σ H :=
  s_dput (RE.mono (fun v H1 z => RE.mono (fun x H2 z => e_str (by
    obtain ⟨p, kvs, rfl, h, l, q⟩ := z
    exact ⟨p, _, rfl, DPut.k (k := Sum.inr s) h (Nat.lt_trans l (by decide)), q⟩)) z) q) hs
end

/-! ### the law's source of draws: a dict of four things -/
def fkv (a : V) (b d e : Int) : List (Key × V) := [(Sum.inr "cells", a), (Sum.inr "at", .int b), (Sum.inr "left", .int d), (Sum.inr "count", .int e)]
theorem fkv_len (a : V) (b d e : Int) : (fkv a b d e).length = 4 := rfl
theorem n01 : ¬ (Sum.inr ("cells" : Str) : Key) = Sum.inr ("at" : Str) := by decide +kernel
theorem n02 : ¬ (Sum.inr ("cells" : Str) : Key) = Sum.inr ("left" : Str) := by decide +kernel
theorem n03 : ¬ (Sum.inr ("cells" : Str) : Key) = Sum.inr ("count" : Str) := by decide +kernel
theorem n12 : ¬ (Sum.inr ("at" : Str) : Key) = Sum.inr ("left" : Str) := by decide +kernel
theorem n13 : ¬ (Sum.inr ("at" : Str) : Key) = Sum.inr ("count" : Str) := by decide +kernel
theorem n23 : ¬ (Sum.inr ("left" : Str) : Key) = Sum.inr ("count" : Str) := by decide +kernel
theorem fkv_0 {a : V} {b d e : Int} : valV (fkv a b d e) (Sum.inr "cells") = some a := valV_pos rfl
theorem fkv_1 {a : V} {b d e : Int} : valV (fkv a b d e) (Sum.inr "at") = some (.int b) := by rw [fkv, valV_neg n01]; exact valV_pos rfl
theorem fkv_2 {a : V} {b d e : Int} : valV (fkv a b d e) (Sum.inr "left") = some (.int d) := by rw [fkv, valV_neg n02, valV_neg n12]; exact valV_pos rfl
theorem fkv_3 {a : V} {b d e : Int} : valV (fkv a b d e) (Sum.inr "count") = some (.int e) := by rw [fkv, valV_neg n03, valV_neg n13, valV_neg n23]; exact valV_pos rfl
theorem fput_1 {a : V} {b d e x : Int} : putK (fkv a b d e) (Sum.inr "at") (.int x) = fkv a x d e := by
  unfold putK
  rw [valV_any, fkv_1, Option.isSome_some, if_pos rfl]
  simp only [fkv, List.map_cons, List.map_nil, if_neg n01, if_pos, if_neg (fun h => n12 (Eq.symm h)), if_neg (fun h => n13 (Eq.symm h))]
theorem fput_2 {a : V} {b d e x : Int} : putK (fkv a b d e) (Sum.inr "left") (.int x) = fkv a b x e := by
  unfold putK
  rw [valV_any, fkv_2, Option.isSome_some, if_pos rfl]
  simp only [fkv, List.map_cons, List.map_nil, if_neg n02, if_neg n12, if_pos, if_neg (fun h => n23 (Eq.symm h))]
theorem fput_3 {a : V} {b d e x : Int} : putK (fkv a b d e) (Sum.inr "count") (.int x) = fkv a b d x := by
  unfold putK
  rw [valV_any, fkv_3, Option.isSome_some, if_pos rfl]
  simp only [fkv, List.map_cons, List.map_nil, if_neg n03, if_neg n13, if_neg n23, if_pos]
def Feed (K : PySem.W.Frag) (H : Hp) (fd cl : Addr) : Prop := ∃ (ns : List Int) (b d e : Int), H fd = some (.dK (fkv (.ref cl) b d e)) ∧ H cl = some (.lst (ns.map V.int)) ∧ ns.length ≤ 63
theorem Feed.same {K : PySem.W.Frag} {H H' : Hp} {fd cl : Addr} (h : Feed K H fd cl) (s : Same H H') : Feed K H' fd cl := by
  obtain ⟨ns, b, d, e, h1, h2, h3⟩ := h
  exact ⟨ns, b, d, e, s _ _ h1, s _ _ h2, h3⟩
theorem Feed.upd {K : PySem.W.Frag} {H : Hp} {fd cl l : Addr} {o : HO} (h : Feed K H fd cl) (n1 : l ≠ fd) (n2 : l ≠ cl) : Feed K (upd H l o) fd cl := by
  obtain ⟨ns, b, d, e, h1, h2, h3⟩ := h
  exact ⟨ns, b, d, e, by rw [upd_ne (fun e => n1 e.symm)]; exact h1, by rw [upd_ne (fun e => n2 e.symm)]; exact h2, h3⟩
theorem kp_fd {H : Hp} {p : Addr} {kvs : List (Key × V)} {o' : HO} (h : H p = some (.dK kvs)) : Kp p H (upd H p o') := kp_upd h (fun _ e => nomatch e) fun _ _ e => nomatch e
/-- a def that draws: what it asks of its other arguments, what it may answer -/
def spD (Pre : List PyData → Prop) (R : List PyData → PyData → Prop) (K : PySem.W.Frag) : Sp := fun vs H Q _ => ∃ fd cl rest ds, vs = .ref fd :: rest ∧ Feed K H fd cl ∧ DtAll K H rest ds ∧ Pre ds ∧
  ∀ d v H', R ds d → Kp fd H H' → Feed K H' fd cl → Dt K H' v d → Q v H'
theorem spD_len {Pre : List PyData → Prop} {R : List PyData → PyData → Prop} {K : PySem.W.Frag} {n : Nat} (hp : ∀ ds, Pre ds → ds.length = n) : ∀ vs H Q E, spD Pre R K vs H Q E → vs.length = n + 1 := by
  rintro vs H Q E ⟨fd, cl, rest, ds, rfl, _, h, p, _⟩
  rw [List.length_cons, h.len, hp ds p]
end G

namespace G
open PySem PySem.Spec PyProof.Rows L2
structure Bl (M : Md) : Prop where
  len : M.mg "len" = none
  int : M.mg "int" = none
  max : M.mg "max" = none
  min : M.mg "min" = none
  range : M.mg "range" = none
  tuple : M.mg "tuple" = none
  list : M.mg "list" = none
  isinst : M.mg "isinstance" = none
  str : M.mg "str" = none
  bool : M.mg "bool" = none
  set : M.mg "set" = none
  dict : M.mg "dict" = none
  sorted : M.mg "sorted" = none
theorem dpInts {K : PySem.W.Frag} {H : Hp} : ∀ ns : List Int, DpAll K H (ns.map V.int) (ns.map PyData.int)
  | [] => .nil
  | n :: ns => .cons (.int n) (dpInts ns)
theorem shInts (ns : List Int) : SeqAt.shaped (.list (ns.map PyData.int)) = true := by
  have h : ∀ ns : List Int, PyData.canLayAll0 (ns.map PyData.int) = true ∧ PyData.depthAll (ns.map PyData.int) ≤ 1 := by
    intro ns
    induction ns with
    | nil => exact ⟨by simp [PyData.canLayAll0], by simp [PyData.depthAll]⟩
    | cons n ns ih => exact ⟨by simp [PyData.canLayAll0, PyData.canLay0, ih.1], by simp only [List.map_cons, PyData.depthAll, PyData.depth]; omega⟩
  show (PyData.canLay0 (.list _) && decide (PyData.depth (.list _) ≤ 64)) = true
  rw [Bool.and_eq_true]
  refine ⟨by simp only [PyData.canLay0]; exact (h ns).1, decide_eq_true ?_⟩
  simp only [PyData.depth]
  have := (h ns).2
  omega
theorem pl_at {α : Type} {xs : List α} {z : Int} {j : Nat} {v : α} (e : z = (j : Int)) (h : xs[j]? = some v) : atI xs z = some v := by
  rw [e]
  exact atI_nat h
end G

namespace G
open PySem PySem.Spec PyProof.Rows L2
/-! ### comprehensions -/
abbrev blkCd (c : Cd) (scope : Scope) : Cd := ⟨c.toMd, c.N, relS scope c.sc, c.k, false⟩
theorem is_blk {c : Cd} {X : Cx} (h : Is c X) {scope : Scope} (s : Shared) (H : Hp) (C : Addr) (cl : List (Str × Addr)) (fp : List Addr) : Is (blkCd c scope) (X.blk s H scope (compEnvC scope cl C X.env) fp) := by
  refine ⟨h.prog, h.w, h.K, h.mg, h.base, h.N, ?_, h.calm, h.room, (fun z => Bool.noConfusion z), PassesOwn.never, h.nd⟩
  show relS scope X.env.scope = relS scope c.sc
  rw [h.sc]
section
variable {c : Cd} {σ : L2.St} {H : Hp} {Q : VK} {pos : Pos} {x y : V}
theorem ts_nil {Q : Bool → Hp → Prop} (q : Q true H) : RTs c [] σ H Q := rts_of (fun _ _ => pts_nil) q
theorem ts_one {Q : Bool → Hp → Prop} {e : Expr} (q : RT c e σ H Q) : RTs c [e] σ H Q := rts_of (fun _ h => pts_one (pt_rt h)) q
/-- what is asked of a comprehension's block -/
structure Blk (c : Cd) (scope : Scope) (own : List (Str × Nat)) : Prop where
  ok : BlkOk c.N c.sc scope own
theorem Blk.of {c : Cd} {scope : Scope} {own : List (Str × Nat)} {N : List Str} {sc : Scope} (h1 : c.N = N) (h2 : c.sc = sc) (h : blkC N sc scope own = true) : Blk c scope own := ⟨by rw [h1, h2]; exact blkOk_by h⟩
theorem e_lc {elt tg iter : Expr} {ifs : List Expr} {scope : Scope} {own : List (Str × Nat)} (ok : Blk c scope own)
    (q : tLc (RI c tg iter) (RG (blkCd c scope) tg) (RTs (blkCd c scope) ifs) (RE (blkCd c scope) elt) (own.map (·.2)) σ H Q) (hs : ∀ env x, foldedSetIterable iter env x = pure x := by intro _ _; rfl) : RE c (.ListComp elt [⟨tg, iter, ifs, 0⟩] scope pos) σ H Q :=
  re_of (fun X h => pe_lc h.calm (by rw [h.N]; exact h.nd) (pi_ri h) (by rw [h.N, h.sc]; exact ok.ok) (fun s H C cl fp => pg_rg (is_blk h s H C cl fp)) (fun s H C cl fp => pts_rts (is_blk h s H C cl fp)) (fun s H C cl fp => pe_re (is_blk h s H C cl fp)) (hs _)) q
theorem s_setLc {nx : L2.St → Hp → Prop} {rt : VK} {bk ct : L2.St → Hp → Prop} {i : Nat} {y : Str} {py : Pos} {elt tg iter : Expr} {ifs : List Expr} {scope : Scope} {own : List (Str × Nat)} {spos : Pos} (hA : At c.N i y) (ok : Blk c scope own)
    (q : tLc (RI c tg iter) (RG (blkCd c scope) tg) (RTs (blkCd c scope) ifs) (RE (blkCd c scope) elt) (own.map (·.2)) σ H fun v H1 => nx (σ.set i (some v)) H1)
    (hy : c.sc.names.lookup y = some .local := by rfl) (hl : (py.line == pos.line) = true := by rfl) (ha : (scope.names.any fun (n, k) => n == y && (k == .local || k == .cell)) = false := by rfl) (hf : c.sc.kind = .function := by rfl) (hs : ∀ env x, foldedSetIterable iter env x = pure x := by intro _ _; rfl) :
    RS c (.Assign [.Name y py] (.ListComp elt [⟨tg, iter, ifs, 0⟩] scope pos) spos) ⟨nx, rt, bk, ct⟩ σ H :=
  rs_of (c := c) (σ := σ) (H := H) (D := ⟨nx, rt, bk, ct⟩) (t := tAsg (tLc (RI c tg iter) (RG (blkCd c scope) tg) (RTs (blkCd c scope) ifs) (RE (blkCd c scope) elt) (own.map (fun p : Str × Nat => p.2))) (gName i)) (fun X h => ps_setLc h.calm (by rw [h.N]; exact h.nd) (by rw [h.N]; exact hA.get) (by rw [h.sc]; exact hy)
    (sw_true (by rw [h.sc]; exact hf) (by rw [h.sc]; exact hy) hl ha) (pi_ri h) (by rw [h.N, h.sc]; exact ok.ok) (fun s H C cl fp => pg_rg (is_blk h s H C cl fp)) (fun s H C cl fp => pts_rts (is_blk h s H C cl fp)) (fun s H C cl fp => pe_re (is_blk h s H C cl fp)) (hs _)) q

/-- a turn of a comprehension, with a word Pv: what the turn, the collected values and the heap are -/
def Turn1 (cB : Cd) (tg : Expr) (ifs : List Expr) (elt : Expr) (vs : List Nat) (σ : L2.St) (D : Addr) (x : V) (H' : Hp) (acc : List V) (Nx : List V → Hp → Prop) : Prop :=
  RG cB tg x (wipe σ vs) H' fun σ2 H2 => wipe σ2 vs = wipe σ vs ∧ RTs cB ifs σ2 H2 fun b H3 => if b = true then RE cB elt σ2 H3 fun y H4 => H4 D = some (.lst acc) ∧ Nx (acc ++ [y]) (upd H4 D (.lst (acc ++ [y]))) else Nx acc H3
section
variable {elt tg iter : Expr} {ifs : List Expr} {scope : Scope} {vs : List Nat}
/-- over a tuple -/
theorem lc_T (q : RE c iter σ H fun x H1 => ∃ a xs, x = .ref a ∧ SqT c.K H1 a xs ∧ xs.length ≤ 1000 ∧ ∀ D, H1 D = none → ∃ Pv : Nat → List V → Hp → Prop, Pv 0 [] (upd H1 D (.lst [])) ∧ (∀ i acc H', i ≤ xs.length → Pv i acc H' → SqT c.K H' a xs ∧ acc.length ≤ i) ∧
      (∀ i x acc H', xs[i]? = some x → Pv i acc H' → Turn1 (blkCd c scope) tg ifs elt vs σ D x H' acc (Pv (i + 1))) ∧ ∀ acc H', Pv xs.length acc H' → Q (.ref D) H') :
    tLc (RI c tg iter) (RG (blkCd c scope) tg) (RTs (blkCd c scope) ifs) (RE (blkCd c scope) elt) vs σ H Q := by
  refine i_tup (RE.mono (fun x H1 z => ?_) q)
  obtain ⟨a, xs, rfl, ht, hl, z⟩ := z
  refine ⟨a, rfl, ⟨xs, ht⟩, fun D hD => ?_⟩
  obtain ⟨Pv, p0, pk, pt, pe⟩ := z D hD
  refine lc_tup (xs := xs) (fun i H' => ∃ acc, Pv i acc H') ⟨_, p0⟩ (fun i H' hi ⟨acc, p⟩ => (pk i acc H' hi p).1) (fun i x H' hx ⟨acc, p⟩ => ?_) fun H' ⟨acc, p⟩ => pe acc H' p
  have hi : i < xs.length := (List.getElem?_eq_some_iff.mp hx).1
  have la := (pk i acc H' (Nat.le_of_lt hi) p).2
  refine RG.mono (fun σ2 H2 z => ?_) (pt i x acc H' hx p)
  refine ⟨z.1, RTs.mono (fun b H3 z => ?_) z.2⟩
  cases b with
  | true => exact RE.mono (fun y H4 z => ⟨acc, z.1, Nat.lt_of_le_of_lt la (Nat.lt_of_lt_of_le hi (Nat.le_trans hl (by decide))), _, z.2⟩) z
  | false => exact ⟨_, z⟩
/-- over a list -/
theorem lc_L (q : RE c iter σ H fun x H1 => ∃ a xs, x = .ref a ∧ SqL c.K H1 a xs ∧ xs.length ≤ 1000 ∧ ∀ D, H1 D = none → ∃ Pv : Nat → List V → Hp → Prop, Pv 0 [] (upd H1 D (.lst [])) ∧ (∀ i acc H', i ≤ xs.length → Pv i acc H' → SqL c.K H' a xs ∧ acc.length ≤ i) ∧
      (∀ i x acc H', xs[i]? = some x → Pv i acc H' → Turn1 (blkCd c scope) tg ifs elt vs σ D x H' acc (Pv (i + 1))) ∧ ∀ acc H', Pv xs.length acc H' → Q (.ref D) H') :
    tLc (RI c tg iter) (RG (blkCd c scope) tg) (RTs (blkCd c scope) ifs) (RE (blkCd c scope) elt) vs σ H Q := by
  refine i_list (RE.mono (fun x H1 z => ?_) q)
  obtain ⟨a, xs, rfl, ht, hl, z⟩ := z
  refine ⟨a, rfl, ⟨xs, ht⟩, fun D hD => ?_⟩
  obtain ⟨Pv, p0, pk, pt, pe⟩ := z D hD
  refine lc_list (xs := xs) (fun i H' => ∃ acc, Pv i acc H') ⟨_, p0⟩ (fun i H' hi ⟨acc, p⟩ => (pk i acc H' hi p).1) (fun i x H' hx ⟨acc, p⟩ => ?_) fun H' ⟨acc, p⟩ => pe acc H' p
  have hi : i < xs.length := (List.getElem?_eq_some_iff.mp hx).1
  have la := (pk i acc H' (Nat.le_of_lt hi) p).2
  refine RG.mono (fun σ2 H2 z => ?_) (pt i x acc H' hx p)
  refine ⟨z.1, RTs.mono (fun b H3 z => ?_) z.2⟩
  cases b with
  | true => exact RE.mono (fun y H4 z => ⟨acc, z.1, Nat.lt_of_le_of_lt la (Nat.lt_of_lt_of_le hi (Nat.le_trans hl (by decide))), _, z.2⟩) z
  | false => exact ⟨_, z⟩
/-- over range(a, b) -/
theorem lc_R2 {a b : Expr} {p ppos : Pos} (hm : c.mg "range" = none) (q : RE c a σ H fun x H1 => RE c b σ H1 fun y H2 => ∃ i j : Int, x = .int i ∧ y = .int j ∧ (-1000 ≤ i ∧ i ≤ 1000) ∧ (-1000 ≤ j ∧ j ≤ 1000) ∧ ∀ D, H2 D = none → ∃ Pv : Nat → List V → Hp → Prop, Pv 0 [] (upd H2 D (.lst [])) ∧ (∀ t acc H', Pv t acc H' → acc.length ≤ t) ∧
      (∀ t acc H', t < (j - i).toNat → Pv t acc H' → Turn1 (blkCd c scope) tg ifs elt vs σ D (.int (i + t)) H' acc (Pv (t + 1))) ∧ ∀ acc H', Pv (j - i).toNat acc H' → Q (.ref D) H')
    (hg : c.sc.names.lookup ("range" : Str) = some .globalImplicit := by rfl) (hs : ∀ env, starEach [a, b] env = [(false, eval a env), (false, eval b env)] := by intro _; rfl) (hs2 : ∀ env, starEach [b] env = [(false, eval b env)] := by intro _; rfl) :
    tLc (RI c tg (.Call (.Name "range" p) [a, b] [] ppos)) (RG (blkCd c scope) tg) (RTs (blkCd c scope) ifs) (RE (blkCd c scope) elt) vs σ H Q := by
  refine i_range2 hm (a_cons (RE.mono (fun x H1 z => a_cons (RE.mono (fun y H2 z => a_nil ?_) z) (fun env => by rw [hs2]; rfl)) q) (fun env => by rw [hs, hs2])) hg hs hs2
  obtain ⟨i, j, rfl, rfl, h1, h2, z⟩ := z
  refine ⟨i, j, rfl, ⟨by omega, by omega, by omega, by omega⟩, fun D hD => ?_⟩
  obtain ⟨Pv, p0, pk, pt, pe⟩ := z D hD
  refine lc_range (lo := i) (n := (j - i).toNat) (fun t H' => ∃ acc, Pv t acc H') ⟨_, p0⟩ (fun t H' ht ⟨acc, p⟩ => ?_) fun H' ⟨acc, p⟩ => pe acc H' p
  have la := pk t acc H' p
  refine RG.mono (fun σ2 H2 z => ?_) (pt t acc H' ht p)
  refine ⟨z.1, RTs.mono (fun b H3 z => ?_) z.2⟩
  cases b with
  | true => exact RE.mono (fun y H4 z => ⟨acc, z.1, Nat.lt_of_le_of_lt la (Nat.lt_of_lt_of_le ht (Nat.le_trans (show (j - i).toNat ≤ 2000 by omega) (by decide))), _, z.2⟩) z
  | false => exact ⟨_, z⟩
/-- over range(n) -/
theorem lc_R1 {a : Expr} {p ppos : Pos} (hm : c.mg "range" = none) (q : RE c a σ H fun y H2 => ∃ j : Int, y = .int j ∧ (-1000 ≤ j ∧ j ≤ 1000) ∧ ∀ D, H2 D = none → ∃ Pv : Nat → List V → Hp → Prop, Pv 0 [] (upd H2 D (.lst [])) ∧ (∀ t acc H', Pv t acc H' → acc.length ≤ t) ∧
      (∀ t acc H', t < j.toNat → Pv t acc H' → Turn1 (blkCd c scope) tg ifs elt vs σ D (.int t) H' acc (Pv (t + 1))) ∧ ∀ acc H', Pv j.toNat acc H' → Q (.ref D) H')
    (hg : c.sc.names.lookup ("range" : Str) = some .globalImplicit := by rfl) (hs : ∀ env, starEach [a] env = [(false, eval a env)] := by intro _; rfl) :
    tLc (RI c tg (.Call (.Name "range" p) [a] [] ppos)) (RG (blkCd c scope) tg) (RTs (blkCd c scope) ifs) (RE (blkCd c scope) elt) vs σ H Q := by
  refine i_range1 hm (a_cons (RE.mono (fun x H1 z => a_nil ?_) q) (fun env => by rw [hs]; rfl)) hg hs
  obtain ⟨j, rfl, h2, z⟩ := z
  refine ⟨j, rfl, by omega, by omega, fun D hD => ?_⟩
  obtain ⟨Pv, p0, pk, pt, pe⟩ := z D hD
  refine lc_range (lo := 0) (n := j.toNat) (fun t H' => ∃ acc, Pv t acc H') ⟨_, p0⟩ (fun t H' ht ⟨acc, p⟩ => ?_) fun H' ⟨acc, p⟩ => pe acc H' p
  have la := pk t acc H' p
  rw [Int.zero_add]
  refine RG.mono (fun σ2 H2 z => ?_) (pt t acc H' ht p)
  refine ⟨z.1, RTs.mono (fun b H3 z => ?_) z.2⟩
  cases b with
  | true => exact RE.mono (fun y H4 z => ⟨acc, z.1, Nat.lt_of_le_of_lt la (Nat.lt_of_lt_of_le ht (Nat.le_trans (show j.toNat ≤ 1000 by omega) (by decide))), _, z.2⟩) z
  | false => exact ⟨_, z⟩
/-- over a text's signs -/
theorem lc_S (q : RE c iter σ H fun x H1 => ∃ z : Str, x = .str z ∧ z.cps.size ≤ 1000 ∧ ∀ D, H1 D = none → ∃ Pv : Nat → List V → Hp → Prop, Pv 0 [] (upd H1 D (.lst [])) ∧ (∀ i acc H', Pv i acc H' → acc.length ≤ i) ∧
      (∀ i ch acc H', i < z.cps.size → Pv i acc H' → Turn1 (blkCd c scope) tg ifs elt vs σ D (.str ⟨#[ch]⟩) H' acc (Pv (i + 1))) ∧ ∀ acc H', Pv z.cps.size acc H' → Q (.ref D) H') :
    tLc (RI c tg iter) (RG (blkCd c scope) tg) (RTs (blkCd c scope) ifs) (RE (blkCd c scope) elt) vs σ H Q := by
  refine ri_of (t := iStr (RE c iter)) (fun X h => pi_str (pe_re h)) (RE.mono (fun x H1 z => ?_) q)
  obtain ⟨z, rfl, hl, w⟩ := z
  refine ⟨z, rfl, fun D hD => ?_⟩
  obtain ⟨Pv, p0, pk, pt, pe⟩ := w D hD
  refine ⟨fun i m H' => m = z.cps.size - i ∧ i ≤ z.cps.size ∧ ∃ acc, Pv i acc H', ⟨z.cps.size, by simp, Nat.zero_le _, _, p0⟩, ?_⟩
  rintro i m H' ⟨rfl, hi, acc, p⟩
  by_cases hlt : i < z.cps.size
  · refine .inr ⟨hlt, fun H' => ∃ acc, Pv (i + 1) acc H', fun H' p' => ⟨z.cps.size - (i + 1), by omega, rfl, hlt, p'⟩, fun x H2 yy => ?_⟩
    obtain ⟨e, ch, hc, rfl⟩ := yy
    subst e
    have la := pk i acc _ p
    refine RG.mono (fun σ2 H2 z => ?_) (pt i ch acc _ hlt p)
    refine ⟨z.1, RTs.mono (fun b H3 z => ?_) z.2⟩
    cases b with
    | true => exact RE.mono (fun y H4 z => ⟨acc, z.1, Nat.lt_of_le_of_lt la (Nat.lt_of_lt_of_le hlt (Nat.le_trans hl (by decide))), _, z.2⟩) z
    | false => exact ⟨_, z⟩
  · have e : i = z.cps.size := by omega
    subst e
    exact .inl ⟨Nat.le_refl _, pe acc H' p⟩
end
end

/-! ### comprehensions that change nothing: a function on data -/
section
variable {c : Cd} {σ : L2.St} {H : Hp} {Q : VK} {pos : Pos} {x y : V} {elt tg iter : Expr} {ifs : List Expr} {scope : Scope} {vs : List Nat}
/-- the pure turn -/
def TurnF (cB : Cd) (tg : Expr) (ifs : List Expr) (elt : Expr) (vs : List Nat) (σ : L2.St) (K : PySem.W.Frag) (x : V) (H' : Hp) (o : Option PyData) : Prop :=
  RG cB tg x (wipe σ vs) H' fun σ2 H2 => H2 = H' ∧ wipe σ2 vs = wipe σ vs ∧ RTs cB ifs σ2 H2 fun b H3 => Same H' H3 ∧ if b = true then RE cB elt σ2 H3 fun y H4 => Same H3 H4 ∧ ∃ e, o = some e ∧ Dt K H4 y e else o = none
theorem TurnF.one {cB : Cd} {σ : L2.St} {K : PySem.W.Frag} {x : V} {H1 H' : Hp} {o : Option PyData} {D : Addr} {acc : List V} {es : List PyData} (hD : H1 D = none) (s : Same H1 H') (ha : H' D = some (.lst acc)) (hd : DtAll K H' acc es) (t : TurnF cB tg ifs elt vs σ K x H' o) :
    Turn1 cB tg ifs elt vs σ D x H' acc fun acc' H2 => H2 D = some (.lst acc') ∧ Same H1 H2 ∧ DtAll K H2 acc' (es ++ o.toList) := by
  refine RG.mono (fun σ2 H2 z => ?_) t
  obtain ⟨rfl, z1, z2⟩ := z
  refine ⟨z1, RTs.mono (fun b H3 z => ?_) z2⟩
  obtain ⟨s3, z⟩ := z
  cases b with
  | true =>
    refine RE.mono (fun y H4 z => ?_) z
    obtain ⟨s4, e, rfl, he⟩ := z
    have aD := s4 _ _ (s3 _ _ ha)
    have k := kp_upd (o' := .lst (acc ++ [y])) aD (fun _ e => nomatch e) (fun _ _ e => nomatch e)
    exact ⟨aD, upd_same, same_mut (s.trans (s3.trans s4)) hD, ((hd.mono (tp_same (s3.trans s4))).mono k.t).app (.cons (he.mono k.t) .nil)⟩
  | false =>
    have z : o = none := z
    subst z
    exact ⟨s3 _ _ ha, s.trans s3, by rw [Option.toList_none, List.append_nil]; exact hd.mono (tp_same s3)⟩
theorem outs_step {g : PyData → Option PyData} {ds : List PyData} {i : Nat} {d : PyData} (h : ds[i]? = some d) : (ds.take i).filterMap g ++ (g d).toList = (ds.take (i + 1)).filterMap g := by
  obtain ⟨h1, rfl⟩ := List.getElem?_eq_some_iff.mp h
  rw [List.take_succ_eq_append_getElem h1, List.filterMap_append]
  congr 1
theorem lcT_F (g : PyData → Option PyData) (q : RE c iter σ H fun x H1 => ∃ ds, Dt c.K H1 x (.tuple ds) ∧ ds.length ≤ 1000 ∧ (∀ d x H', d ∈ ds → Same H1 H' → Dt c.K H' x d → TurnF (blkCd c scope) tg ifs elt vs σ c.K x H' (g d)) ∧
      ∀ p us H2, Same H1 H2 → H1 p = none → H2 p = some (.lst us) → DtAll c.K H2 us (ds.filterMap g) → Q (.ref p) H2) :
    tLc (RI c tg iter) (RG (blkCd c scope) tg) (RTs (blkCd c scope) ifs) (RE (blkCd c scope) elt) vs σ H Q := by
  refine lc_T (RE.mono (fun x H1 z => ?_) q)
  obtain ⟨ds, hx, hl, t, k⟩ := z
  obtain ⟨a, xs, rfl, ht, ha⟩ := hx.tupE
  have hle := ha.len
  refine ⟨a, xs, rfl, ht, by omega, fun D hD => ⟨fun i acc H' => acc.length ≤ i ∧ H' D = some (.lst acc) ∧ Same H1 H' ∧ DtAll c.K H' acc ((ds.take i).filterMap g), ⟨Nat.le_refl _, upd_same, same_new hD, .nil⟩, ?_, ?_, ?_⟩⟩
  · rintro i acc H' _ ⟨l, _, s, _⟩
    exact ⟨(tp_same s).sqt ht, l⟩
  · rintro i x acc H' hx ⟨l, h1, s, h2⟩
    obtain ⟨d, hd, hx'⟩ := ha.getV hx
    have T := TurnF.one hD s h1 h2 (t d x H' (List.mem_of_getElem? hd) s (hx'.mono (tp_same s)))
    refine RG.mono (fun σ2 H2 z => ⟨z.1, RTs.mono (fun b H3 z => ?_) z.2⟩) T
    cases b with
    | true => exact RE.mono (fun y H4 z => ⟨z.1, by rw [List.length_append, List.length_singleton]; omega, z.2.1, z.2.2.1, by rw [← outs_step hd]; exact z.2.2.2⟩) z
    | false => exact ⟨by omega, z.1, z.2.1, by rw [← outs_step hd]; exact z.2.2⟩
  · rintro acc H' ⟨l, h1, s, h2⟩
    refine k D acc H' s hD h1 ?_
    rw [hle, List.take_length] at h2
    exact h2
theorem lcL_F (g : PyData → Option PyData) (q : RE c iter σ H fun x H1 => ∃ a xs ds, x = .ref a ∧ SqL c.K H1 a xs ∧ DtAll c.K H1 xs ds ∧ ds.length ≤ 1000 ∧ (∀ d x H', d ∈ ds → Same H1 H' → Dt c.K H' x d → TurnF (blkCd c scope) tg ifs elt vs σ c.K x H' (g d)) ∧
      ∀ p us H2, Same H1 H2 → H1 p = none → H2 p = some (.lst us) → DtAll c.K H2 us (ds.filterMap g) → Q (.ref p) H2) :
    tLc (RI c tg iter) (RG (blkCd c scope) tg) (RTs (blkCd c scope) ifs) (RE (blkCd c scope) elt) vs σ H Q := by
  refine lc_L (RE.mono (fun x H1 z => ?_) q)
  obtain ⟨a, xs, ds, rfl, ht, ha, hl, t, k⟩ := z
  have hle := ha.len
  refine ⟨a, xs, rfl, ht, by omega, fun D hD => ⟨fun i acc H' => acc.length ≤ i ∧ H' D = some (.lst acc) ∧ Same H1 H' ∧ DtAll c.K H' acc ((ds.take i).filterMap g), ⟨Nat.le_refl _, upd_same, same_new hD, .nil⟩, ?_, ?_, ?_⟩⟩
  · rintro i acc H' _ ⟨l, _, s, _⟩
    exact ⟨s.seq ht, l⟩
  · rintro i x acc H' hx ⟨l, h1, s, h2⟩
    obtain ⟨d, hd, hx'⟩ := ha.getV hx
    have T := TurnF.one hD s h1 h2 (t d x H' (List.mem_of_getElem? hd) s (hx'.mono (tp_same s)))
    refine RG.mono (fun σ2 H2 z => ⟨z.1, RTs.mono (fun b H3 z => ?_) z.2⟩) T
    cases b with
    | true => exact RE.mono (fun y H4 z => ⟨z.1, by rw [List.length_append, List.length_singleton]; omega, z.2.1, z.2.2.1, by rw [← outs_step hd]; exact z.2.2.2⟩) z
    | false => exact ⟨by omega, z.1, z.2.1, by rw [← outs_step hd]; exact z.2.2⟩
  · rintro acc H' ⟨l, h1, s, h2⟩
    refine k D acc H' s hD h1 ?_
    rw [hle, List.take_length] at h2
    exact h2

/-! ### lists that grow -/
theorem e_app {o e : Expr} {apos : Pos} (q : RE c o σ H fun x H1 => ∃ l zs, x = .ref l ∧ H1 l = some (.lst zs) ∧ RE c e σ H1 fun y H2 => ∃ ys, H2 l = some (.lst ys) ∧ ys.length < 100000 ∧ Q .non (upd H2 l (.lst (ys ++ [y]))))
    (hbase : ∀ env, attributeBase o "append" env (eval o env) = eval o env := by intro _; rfl)
    (hfew : ∀ env, ((backTo pos (starEach [e] env)).all (fun x => !x.1) && (backToKw pos (keywordEach [] env)).all (fun x => x.1.isSome)
      && decide (([e] : List Expr).length + ([] : List Keyword).length + (if ([] : List Keyword).isEmpty then 0 else 1) < 30)) = true := by intro _; rfl)
    (hline : (apos.endLine == pos.line) = true := by rfl) (hs : ∀ env, starEach [e] env = (false, eval e env) :: starEach [] env := by intro _; rfl) (hplain : ∀ env, (backTo pos (starEach [] env)).any (·.1) = false := by intro _; rfl) :
    RE c (.Call (.Attribute o "append" apos) [e] [] pos) σ H Q := by
  refine e_bm PySem.F.plainAttrs_list PySem.F.slot_list_append PySem.F.type_list_append (RE.mono (fun x H1 z => ?_) q) hbase hfew hline hs hplain
  obtain ⟨l, zs, rfl, hl, z⟩ := z
  refine ⟨Or.inl ⟨rfl, _, Or.inl (Or.inl hl)⟩, a_cons (RE.mono (fun y H2 z => a_nil ?_) z) hs⟩
  obtain ⟨ys, hl, hz, z⟩ := z
  exact rm_of (fun X h => mt_append) ⟨l, ys, y, rfl, rfl, hl, Nat.lt_of_lt_of_le hz (by decide), z⟩
theorem e_ext {o e : Expr} {apos : Pos} (q : RE c o σ H fun x H1 => ∃ l zs, x = .ref l ∧ H1 l = some (.lst zs) ∧ RE c e σ H1 fun y H2 => ∃ b ys ws, y = .ref b ∧ H2 l = some (.lst ys) ∧ H2 b = some (.lst ws) ∧ ys.length + ws.length ≤ 100000 ∧ Q .non (upd H2 l (.lst (ys ++ ws))))
    (hbase : ∀ env, attributeBase o "extend" env (eval o env) = eval o env := by intro _; rfl)
    (hfew : ∀ env, ((backTo pos (starEach [e] env)).all (fun x => !x.1) && (backToKw pos (keywordEach [] env)).all (fun x => x.1.isSome)
      && decide (([e] : List Expr).length + ([] : List Keyword).length + (if ([] : List Keyword).isEmpty then 0 else 1) < 30)) = true := by intro _; rfl)
    (hline : (apos.endLine == pos.line) = true := by rfl) (hs : ∀ env, starEach [e] env = (false, eval e env) :: starEach [] env := by intro _; rfl) (hplain : ∀ env, (backTo pos (starEach [] env)).any (·.1) = false := by intro _; rfl) :
    RE c (.Call (.Attribute o "extend" apos) [e] [] pos) σ H Q := by
  refine e_bm PySem.F.plainAttrs_list PySem.F.slot_list_extend PySem.F.type_list_extend (RE.mono (fun x H1 z => ?_) q) hbase hfew hline hs hplain
  obtain ⟨l, zs, rfl, hl, z⟩ := z
  refine ⟨Or.inl ⟨rfl, _, Or.inl (Or.inl hl)⟩, a_cons (RE.mono (fun y H2 z => a_nil ?_) z) hs⟩
  obtain ⟨b, ys, ws, rfl, hl, hb, hz, z⟩ := z
  exact rm_of (fun X h => mt_extend) ⟨l, b, ys, ws, rfl, rfl, hl, hb, Nat.le_trans hz (by decide), z⟩
theorem tupend {K : PySem.W.Frag} {H1 : Hp} {xs : List V} {ds : List PyData} {Q : VK} (h : DtAll K H1 xs ds) (hl : xs.length ≤ 1000) (q : ∀ v H2, Same H1 H2 → Dt K H2 v (.tuple ds) → Q v H2) : ∃ ds, DtAll K H1 xs ds ∧ xs.length ≤ 1000 ∧ ∀ v H2, Same H1 H2 → Dt K H2 v (.tuple ds) → Q v H2 := ⟨ds, h, hl, q⟩
/-- [a, b, ..] -/
theorem e_lstD {es : List Expr} (q : RA c es σ H fun xs H1 => xs.length ≤ 1000 ∧ ∀ p H2, Same H1 H2 → H1 p = none → H2 p = some (.lst xs) → Q (.ref p) H2) : RE c (.List es pos) σ H Q :=
  e_lst (RA.mono (fun xs H1 z => ⟨Nat.le_trans z.1 (by decide), fun p hp => z.2 p _ (same_new hp) hp upd_same⟩) q)
/-- tuple(xs) of a list -/
theorem rc_tupL {p : Addr} {ys : List V} {ds : List PyData} (hl : SqL c.K H p ys) (hd : DtAll c.K H ys ds) (q : ∀ v H2, Same H H2 → Dt c.K H2 v (.tuple ds) → Q v H2) : RC c (.type "tuple") [.ref p] H Q :=
  rc_of (r := fun xs H Q => ∃ p ys, xs = [.ref p] ∧ ((SqL c.K H p ys ∧ ∀ l, H l = none → Q (.ref l) (upd H l (.tup ys))) ∨ (SqT c.K H p ys ∧ Q (.ref p) H))) (fun X h => by rw [← h.K]; exact call_tuple_of) ⟨p, ys, rfl, .inl ⟨hl, fun l hn => q _ _ (same_new hn) (.tup (.of upd_same) (hd.mono (tp_same (same_new hn))))⟩⟩
/-- list(xs) -/
theorem rc_lstL {p : Addr} {ys : List V} (hl : SqL c.K H p ys) (q : ∀ l H2, Same H H2 → H l = none → H2 l = some (.lst ys) → Q (.ref l) H2) : RC c (.type "list") [.ref p] H Q :=
  rc_of (r := fun xs H Q => ∃ p ys, xs = [.ref p] ∧ (SqL c.K H p ys ∨ SqT c.K H p ys) ∧ ∀ l, H l = none → Q (.ref l) (upd H l (.lst ys))) (fun X h => by rw [← h.K]; exact call_list_of) ⟨p, ys, rfl, .inl hl, fun l hn => q _ _ (same_new hn) hn upd_same⟩
theorem rc_lstT {ds : List PyData} (hx : Dt c.K H x (.tuple ds)) (q : ∀ l ys H2, Same H H2 → H l = none → H2 l = some (.lst ys) → DtAll c.K H2 ys ds → Q (.ref l) H2) : RC c (.type "list") [x] H Q := by
  obtain ⟨a, ys, rfl, ht, hd⟩ := hx.tupE
  exact rc_of (r := fun xs H Q => ∃ p ys, xs = [.ref p] ∧ (SqL c.K H p ys ∨ SqT c.K H p ys) ∧ ∀ l, H l = none → Q (.ref l) (upd H l (.lst ys))) (fun X h => by rw [← h.K]; exact call_list_of) ⟨a, ys, rfl, .inr ht, fun l hn => q _ _ _ (same_new hn) hn upd_same (hd.mono (tp_same (same_new hn)))⟩
end
end G
namespace G
open PySem PySem.Spec PyProof.Rows L2
/-! ### xs[lo:hi:step] of a list: some of its items -/
theorem picked_vals {xs : List V} {its : List Value} (r : Vals xs its) : ∀ ix : List Nat, ∃ ys : List V, Vals ys (ix.filterMap (its.toArray[·]?)) ∧ ∀ y ∈ ys, y ∈ xs
  | [] => ⟨[], .nil, fun _ h => nomatch h⟩
  | i :: ix => by
    obtain ⟨ys, h1, h2⟩ := picked_vals r ix
    cases e : its.toArray[i]? with
    | none => exact ⟨ys, by rw [List.filterMap_cons, e]; exact h1, h2⟩
    | some u =>
      have e' : its[i]? = some u := by simpa using e
      cases ex : xs[i]? with
      | none =>
        have := r.none_of ex
        rw [e'] at this
        cases this
      | some x =>
        obtain ⟨u', hu, ru⟩ := r.get ex
        rw [e'] at hu
        cases hu
        refine ⟨x :: ys, by rw [List.filterMap_cons, e]; exact .cons ru h1, fun y hy => ?_⟩
        rcases List.mem_cons.mp hy with rfl | hy
        · exact List.mem_of_getElem? ex
        · exact h2 y hy
def tSlS (K : PySem.W.Frag) (te : TE) (tl th ts : TO) : TE := fun σ H Q => te σ H fun x H1 => tl σ H1 fun l H2 => th σ H2 fun u H3 => ts σ H3 fun st H4 => ∃ a xs, x = .ref a ∧ SqL K H4 a xs ∧ st ≠ some 0 ∧
  ∀ p ys, H4 p = none → (∀ y ∈ ys, y ∈ xs) → ys.length ≤ xs.length → Q (.ref p) (upd H4 p (.lst ys))
theorem pe_sliceS {X : Cx} {e st : Expr} {lo hi : Option Expr} {p2 pos : Pos} {te : TE} {tl th ts : TO} (he : PE X e te) (hl : PO X lo tl) (hu : PO X hi th) (hst : PO X (some st) ts) : PE X (.Subscript e (.Slice lo hi (some st) p2) pos) (tSlS X.K te tl th ts) := by
  constructor
  intro pins s σ H Q I h
  apply Subscript_ (thn (he.run pins s σ H _ I h) _)
  rintro v s1 ⟨x, H1, I1, r1, q1⟩
  refine wpAny_Slice (thn (hl.run pins s1 σ H1 _ I1 q1) fun vl s2 ⟨l, H2, I2, pl, q2⟩ => thn (hu.run pins s2 σ H2 _ I2 q2) fun vu s3 ⟨u, H3, I3, pu, q3⟩ => thn (hst.run pins s3 σ H3 _ I3 q3) fun vs s4 ⟨sv, H4, I4, ps, q4⟩ => ?_)
  obtain ⟨a, xs, rfl, hx, h0, q⟩ := q4
  cases r1
  have J5 : Inv X pins σ H4 { s4 with heap := s4.heap.push { cls := .type "slice", data := .fields #[vl, vu, vs] } } := I4.kept (t' := s4.toks) fun b ob q => Heap.get?_push_of_some _ q
  obtain ⟨its, r, ht, hz⟩ := (J5.list hx)
  have hlen := r.length
  show wpAny (model X.prog X.w) X.A (subscriptTail e (.Slice lo hi (some st) p2) (.ref a) (.ref s4.heap.objs.size)) (EP X pins σ Q) X.xe { s4 with heap := s4.heap.push { cls := .type "slice", data := .fields #[vl, vu, vs] } }
  refine tail_any (ops := [.ref a, .ref s4.heap.objs.size]) (id := "list.__getitem__") ht.isList.typeIs slot_list_getitem.lookup ?_ (by with_unfolding_all rfl)
  refine wpAny_getItem_list_slice ht.isList (Heap.IsSliceOf.new ..) pl pu ps h0 ?_ (by rw [List.size_toArray] <;> omega)
  obtain ⟨ys, y1, y2⟩ := picked_vals r (sliceRange (sliceBounds l u sv its.toArray.size).1 (sliceBounds l u sv its.toArray.size).2.1 (sliceBounds l u sv its.toArray.size).2.2)
  have y3 : ys.length ≤ xs.length := by
    rw [y1.length, hlen]
    have := slicePick_size_le its.toArray l u sv
    unfold slicePick at this
    rw [List.size_toArray, List.size_toArray] at this
    exact this
  refine ⟨.ref _, _, J5.laid (t' := s4.toks) (o := .lst ys) (fun b ob q => Heap.get?_push_of_some _ q) (Nat.le_refl _) ?_, rfl, q _ ys (J5.hok.fresh (Nat.le_refl _)) y2 y3⟩
  exact ⟨Nat.le_trans y3 hz, _, 0, y1, Heap.get?_push_size _ rfl⟩
section
variable {c : Cd} {σ : L2.St} {H : Hp} {Q : VK} {pos : Pos} {x y : V}
theorem e_sliceS {e st : Expr} {lo hi : Option Expr} {p2 : Pos} (q : RE c e σ H fun x H1 => RPo c lo σ H1 fun l H2 => RPo c hi σ H2 fun u H3 => RPo c (some st) σ H3 fun sv H4 => ∃ a xs, x = .ref a ∧ SqL c.K H4 a xs ∧ sv ≠ some 0 ∧
    ∀ p ys H5, Same H4 H5 → H4 p = none → H5 p = some (.lst ys) → (∀ y ∈ ys, y ∈ xs) → ys.length ≤ xs.length → Q (.ref p) H5) : RE c (.Subscript e (.Slice lo hi (some st) p2) pos) σ H Q := by
  refine re_of (t := tSlS c.K (RE c e) (RPo c lo) (RPo c hi) (RPo c (some st))) (fun X h => by rw [← h.K]; exact pe_sliceS (pe_re h) (po_rp h) (po_rp h) (po_rp h)) ?_
  refine RE.mono (fun x H1 z => ?_) q
  obtain ⟨⟨t1, Q1, h1, q1, w1⟩⟩ := z
  refine ⟨⟨t1, Q1, h1, q1, fun l H2 z => ?_⟩⟩
  obtain ⟨⟨t2, Q2, h2, q2, w2⟩⟩ := w1 _ _ z
  refine ⟨⟨t2, Q2, h2, q2, fun u H3 z => ?_⟩⟩
  obtain ⟨⟨t3, Q3, h3, q3, w3⟩⟩ := w2 _ _ z
  refine ⟨⟨t3, Q3, h3, q3, fun sv H4 z => ?_⟩⟩
  obtain ⟨a, xs, e1, e2, e3, k⟩ := w3 _ _ z
  exact ⟨a, xs, e1, e2, e3, fun p ys hp m l => k p ys _ (same_new hp) hp upd_same m l⟩
theorem rsl_list {a : Addr} {xs : List V} {lo hi : Option Int} (hx : SqL c.K H a xs) (q : ∀ p H2, Same H H2 → H p = none → H2 p = some (.lst (cutV xs lo hi)) → Q (.ref p) H2) : RSl c (.ref a) lo hi H Q :=
  rsl_of (r := rSlL c.K) (fun X h => by rw [← h.K]; exact sl_list) ⟨a, xs, rfl, hx, fun p hp => q _ _ (same_new hp) hp upd_same⟩
/-- xs + ys of lists -/
theorem ro_cat {a b : Addr} {xs ys : List V} (h1 : H a = some (.lst xs)) (h2 : H b = some (.lst ys)) (hl : xs.length + ys.length ≤ 100000) (q : ∀ p H2, Same H H2 → H p = none → H2 p = some (.lst (xs ++ ys)) → Q (.ref p) H2) : RO c .Add (.ref a) (.ref b) H Q :=
  ro_of (fun X h => op_cat) ⟨a, b, xs, ys, rfl, rfl, h1, h2, Nat.le_trans hl (by decide), fun p hp => q _ _ (same_new hp) hp upd_same⟩
/-- xs * n of a list -/
theorem ro_rep {a : Addr} {xs : List V} {k : Int} (h1 : H a = some (.lst xs)) (h2 : -1000 ≤ k ∧ k ≤ 1000) (hl : xs.length ≤ 1000) (q : ∀ p H2, Same H H2 → H p = none → H2 p = some (.lst (List.replicate k.toNat xs).flatten) → Q (.ref p) H2) : RO c .Mult (.ref a) (.int k) H Q := by
  refine ro_of (fun X h => op_rep) ⟨a, k, xs, rfl, rfl, h1, by omega, by omega, ?_, fun p hp => q _ _ (same_new hp) hp upd_same⟩
  have : xs.length * k.toNat ≤ 1000 * 1000 := Nat.mul_le_mul hl (by omega)
  exact Nat.le_trans this (by decide)
end
end G

namespace G
open PySem PySem.Spec PyProof.Rows L2
theorem same_none {H H1 : Hp} (s : Same H H1) {l : Addr} (h : H1 l = none) : H l = none := by
  cases e : H l with
  | none => rfl
  | some o => rw [s _ _ e] at h; cases h
theorem ift {A B : Prop} (a : A) : if true = true then A else B := a
theorem ne_feed {K : PySem.W.Frag} {H H1 : Hp} {fd cl l : Addr} (h : Feed K H fd cl) (g : Same H H1) (n : H1 l = none) : l ≠ fd := by
  rintro rfl
  obtain ⟨ns, b, d, e, h1, _⟩ := h
  rw [g _ _ h1] at n
  cases n
theorem ne_cl {K : PySem.W.Frag} {H H1 : Hp} {fd cl l : Addr} (h : Feed K H fd cl) (g : Same H H1) (n : H1 l = none) : l ≠ cl := by
  rintro rfl
  obtain ⟨ns, b, d, e, _, h1, _⟩ := h
  rw [g _ _ h1] at n
  cases n
theorem fresh_ne {H H1 : Hp} {a l : Addr} {o : HO} (h : H a = some o) (g : Same H H1) (n : H1 l = none) : l ≠ a := by
  rintro rfl
  rw [g _ _ h] at n
  cases n
section
variable {c : Cd} {σ : L2.St} {H : Hp} {Q : VK} {pos : Pos} {x y : V}
/-- t + u of data -/
theorem ro_catT {ds es : List PyData} (h1 : Dt c.K H x (.tuple ds)) (h2 : Dt c.K H y (.tuple es)) (hl : ds.length + es.length ≤ 100000) (q : ∀ v H2, Same H H2 → Dt c.K H2 v (.tuple (ds ++ es)) → Q v H2) : RO c .Add x y H Q := by
  obtain ⟨a, xs, rfl, t1, d1⟩ := h1.tupE
  obtain ⟨b, ys, rfl, t2, d2⟩ := h2.tupE
  have l1 := d1.len
  have l2 := d2.len
  refine ro_of (r := rCatA c.K) (fun X h => by rw [← h.K]; exact op_catA) ⟨a, b, xs, ys, rfl, rfl, t1, t2, Nat.le_trans (by omega : xs.length + ys.length ≤ 100000) (by decide), ?_, ?_, ?_⟩
  · rintro rfl
    cases d1
    exact q _ _ (Same.refl _) h2
  · rintro _ rfl
    cases d2
    rw [List.append_nil] at q
    exact q _ _ (Same.refl _) h1
  · intro _ _ p hp
    exact q _ _ (same_new hp) (.tup (.of upd_same) ((d1.app d2).mono (tp_same (same_new hp))))
/-- a def that answers with a new list of data -/
def spL (R : List PyData → List PyData → Prop) (K : PySem.W.Frag) : Sp := fun vs H Q _ => ∃ ds es, DtAll K H vs ds ∧ R ds es ∧ ∀ l us H', Same H H' → H l = none → H' l = some (.lst us) → DtAll K H' us es → Q (.ref l) H'
theorem e_callL {x : Str} {p : Pos} {e : Expr} {es : List Expr} {ps : List Str} {k : Nat} {R : List PyData → List PyData → Prop} (D : Dc c.toMd x ps k (spL R c.K)) (q : RA c (e :: es) σ H fun vs H1 => ∃ ds es, DtAll c.K H1 vs ds ∧ R ds es ∧ ∀ l us H', Same H1 H' → H1 l = none → H' l = some (.lst us) → DtAll c.K H' us es → Q (.ref l) H') (hk : k ≤ c.k := by exact Nat.le_of_ble_eq_true rfl) (hg : c.sc.names.lookup x = some .globalImplicit := by rfl)
    (hdb : (x == ("__debug__" : Str)) = false := by decide) (he : ∀ env, starEach (e :: es) env = (false, eval e env) :: starEach es env := by intro _; rfl) (hpl : ∀ env, (backTo pos (starEach es env)).any (·.1) = false := by intro _; rfl) :
    RE c (.Call (.Name x p) (e :: es) [] pos) σ H Q := e_call D q hk hg hdb he hpl
/-- a def that is given a list of data (and data behind it) and answers with a new list of data -/
def spLL (R : List PyData → List PyData → List PyData → Prop) (K : PySem.W.Frag) : Sp := fun vs H Q _ => ∃ a xs rest ds cs es, vs = .ref a :: rest ∧ SqL K H a xs ∧ DtAll K H xs ds ∧ DtAll K H rest cs ∧ R ds cs es ∧ ∀ l us H', Same H H' → H l = none → H' l = some (.lst us) → DtAll K H' us es → Q (.ref l) H'
theorem rx_pick {p : Addr} {xs : List V} {ds : List PyData} {i : Int} (hx : SqL c.K H p xs) (hd : DtAll c.K H xs ds) (h0 : 0 ≤ i) (h1 : i < ds.length) (q : ∀ v d, ds[i.toNat]? = some d → Dt c.K H v d → Q v H) : RX c (.ref p) (.int i) H Q := by
  have hlt : i.toNat < ds.length := by omega
  obtain ⟨v, hv, h⟩ := hd.get (List.getElem?_eq_getElem hlt)
  exact rx_list hx (pl_at (j := i.toNat) (by omega) hv) (q v _ (List.getElem?_eq_getElem hlt) h)
theorem rx_pickT {ds : List PyData} {i : Int} (hx : Dt c.K H x (.tuple ds)) (h0 : 0 ≤ i) (h1 : i < ds.length) (q : ∀ v d, ds[i.toNat]? = some d → Dt c.K H v d → Q v H) : RX c x (.int i) H Q := by
  have hlt : i.toNat < ds.length := by omega
  exact rx_tup hx (pl_at (j := i.toNat) (by omega) (List.getElem?_eq_getElem hlt)) fun v h => q v _ (List.getElem?_eq_getElem hlt) h
/-- a drawing call -/
theorem e_callD {x : Str} {p : Pos} {e : Expr} {es : List Expr} {ps : List Str} {k : Nat} {Pre : List PyData → Prop} {R : List PyData → PyData → Prop} (D : Dc c.toMd x ps k (spD Pre R c.K)) (q : RA c (e :: es) σ H fun vs H1 => ∃ fd cl rest ds, vs = .ref fd :: rest ∧ Feed c.K H1 fd cl ∧ DtAll c.K H1 rest ds ∧ Pre ds ∧ ∀ d v H', R ds d → Kp fd H1 H' → Feed c.K H' fd cl → Dt c.K H' v d → Q v H') (hk : k ≤ c.k := by exact Nat.le_of_ble_eq_true rfl) (hg : c.sc.names.lookup x = some .globalImplicit := by rfl)
    (hdb : (x == ("__debug__" : Str)) = false := by decide) (he : ∀ env, starEach (e :: es) env = (false, eval e env) :: starEach es env := by intro _; rfl) (hpl : ∀ env, (backTo pos (starEach es env)).any (·.1) = false := by intro _; rfl) :
    RE c (.Call (.Name x p) (e :: es) [] pos) σ H Q := e_call D q hk hg hdb he hpl

section
variable {elt tg iter : Expr} {ifs : List Expr} {scope : Scope} {vs : List Nat}
theorem rng_step {g : Int → Option PyData} {i : Int} (t : Nat) : (List.range t).filterMap (fun t : Nat => g (i + (t : Int))) ++ (g (i + (t : Int))).toList = (List.range (t + 1)).filterMap (fun t : Nat => g (i + (t : Int))) := by
  rw [List.range_succ, List.filterMap_append]
  congr 1
theorem lcR2_F (g : Int → Option PyData) {a b : Expr} {p ppos : Pos} (hm : c.mg "range" = none) (q : RE c a σ H fun x H1 => RE c b σ H1 fun y H2 => ∃ i j : Int, x = .int i ∧ y = .int j ∧ (-1000 ≤ i ∧ i ≤ 1000) ∧ (-1000 ≤ j ∧ j ≤ 1000) ∧ (∀ (t : Nat) H', t < (j - i).toNat → Same H2 H' → TurnF (blkCd c scope) tg ifs elt vs σ c.K (.int (i + t)) H' (g (i + t))) ∧
      ∀ p us H3, Same H2 H3 → H2 p = none → H3 p = some (.lst us) → DtAll c.K H3 us ((List.range (j - i).toNat).filterMap fun t : Nat => g (i + (t : Int))) → Q (.ref p) H3)
    (hg : c.sc.names.lookup ("range" : Str) = some .globalImplicit := by rfl) (hs : ∀ env, starEach [a, b] env = [(false, eval a env), (false, eval b env)] := by intro _; rfl) (hs2 : ∀ env, starEach [b] env = [(false, eval b env)] := by intro _; rfl) :
    tLc (RI c tg (.Call (.Name "range" p) [a, b] [] ppos)) (RG (blkCd c scope) tg) (RTs (blkCd c scope) ifs) (RE (blkCd c scope) elt) vs σ H Q := by
  refine lc_R2 hm (RE.mono (fun x H1 z => RE.mono (fun y H2 z => ?_) z) q) hg hs hs2
  obtain ⟨i, j, rfl, rfl, h1, h2, tn, k⟩ := z
  refine ⟨i, j, rfl, rfl, h1, h2, fun D hD => ⟨fun t acc H' => acc.length ≤ t ∧ H' D = some (.lst acc) ∧ Same H2 H' ∧ DtAll c.K H' acc ((List.range t).filterMap fun t : Nat => g (i + (t : Int))), ⟨Nat.le_refl _, upd_same, same_new hD, .nil⟩, fun _ _ _ h => h.1, ?_, ?_⟩⟩
  · rintro t acc H' ht ⟨l, h1, s, h2⟩
    have T := TurnF.one hD s h1 h2 (tn t H' ht s)
    refine RG.mono (fun σ2 H2 z => ⟨z.1, RTs.mono (fun b H3 z => ?_) z.2⟩) T
    cases b with
    | true => exact RE.mono (fun y H4 z => ⟨z.1, by rw [List.length_append, List.length_singleton]; omega, z.2.1, z.2.2.1, by rw [← rng_step]; exact z.2.2.2⟩) z
    | false => exact ⟨by omega, z.1, z.2.1, by rw [← rng_step]; exact z.2.2⟩
  · rintro acc H' ⟨l, h1, s, h2⟩
    exact k D acc H' s hD h1 h2
theorem lcR1_F (g : Int → Option PyData) {a : Expr} {p ppos : Pos} (hm : c.mg "range" = none) (q : RE c a σ H fun y H2 => ∃ j : Int, y = .int j ∧ (-1000 ≤ j ∧ j ≤ 1000) ∧ (∀ (t : Nat) H', t < j.toNat → Same H2 H' → TurnF (blkCd c scope) tg ifs elt vs σ c.K (.int t) H' (g t)) ∧
      ∀ p us H3, Same H2 H3 → H2 p = none → H3 p = some (.lst us) → DtAll c.K H3 us ((List.range j.toNat).filterMap fun t : Nat => g (t : Int)) → Q (.ref p) H3)
    (hg : c.sc.names.lookup ("range" : Str) = some .globalImplicit := by rfl) (hs : ∀ env, starEach [a] env = [(false, eval a env)] := by intro _; rfl) :
    tLc (RI c tg (.Call (.Name "range" p) [a] [] ppos)) (RG (blkCd c scope) tg) (RTs (blkCd c scope) ifs) (RE (blkCd c scope) elt) vs σ H Q := by
  refine lc_R1 hm (RE.mono (fun y H2 z => ?_) q) hg hs
  obtain ⟨j, rfl, h2, tn, k⟩ := z
  refine ⟨j, rfl, h2, fun D hD => ⟨fun t acc H' => acc.length ≤ t ∧ H' D = some (.lst acc) ∧ Same H2 H' ∧ DtAll c.K H' acc ((List.range t).filterMap fun t : Nat => g (t : Int)), ⟨Nat.le_refl _, upd_same, same_new hD, .nil⟩, fun _ _ _ h => h.1, ?_, ?_⟩⟩
  · rintro t acc H' ht ⟨l, h1, s, h2⟩
    have T := TurnF.one hD s h1 h2 (tn t H' ht s)
    have e := rng_step (g := g) (i := 0) t
    simp only [Int.zero_add] at e
    refine RG.mono (fun σ2 H2 z => ⟨z.1, RTs.mono (fun b H3 z => ?_) z.2⟩) T
    cases b with
    | true => exact RE.mono (fun y H4 z => ⟨z.1, by rw [List.length_append, List.length_singleton]; omega, z.2.1, z.2.2.1, by rw [← e]; exact z.2.2.2⟩) z
    | false => exact ⟨by omega, z.1, z.2.1, by rw [← e]; exact z.2.2⟩
  · rintro acc H' ⟨l, h1, s, h2⟩
    exact k D acc H' s hD h1 h2
end
end
end G

namespace G
open PySem PySem.Spec PyProof.Rows L2
def isStar : Expr → Bool
  | .Starred .. => true
  | _ => false
theorem any_star (vs : List Expr) : (vs.any fun | .Starred .. => true | _ => false) = vs.any isStar := by
  congr 1
theorem sw2 {x y : Str} {px py pt : Pos} {kt k2 pt2} {a b : Expr} {env : Env} (hk : env.scope.kind = .function) (hx : env.scope.names.lookup x = some .local) (hy : env.scope.names.lookup y = some .local) (hxy : [x, y].eraseDups.length = 2) (hl : (py.line == px.line) = true)
    (h1 : [a, b].any isStar = false) (h2 : [a, b].all (foldedForSure 8) = false) (h3 : [a, b].all (constantsAlone 8) = false) :
    swappedStores [.Tuple [.Name x px, .Name y py] kt pt] (.Tuple [a, b] k2 pt2) env = pure (some [x, y]) := by
  have kx : env.kindOf x = some .local := hx
  have ky : env.kindOf y = some .local := hy
  have hb : env.blockKind = .function := by unfold Env.blockKind; rw [hk]; rfl
  have hn : ([Expr.Name x px, Expr.Name y py].filterMap fun
    | .Name id pos => if env.kindOf id == some .local && pos.line == px.line then some id else none
    | _ => none) = [x, y] := by
    simp only [List.filterMap_cons, List.filterMap_nil, kx, ky, hl, beq_self_eq_true, Bool.and_self, if_true]
  unfold swappedStores
  simp only [hb]
  show (if _ = true then _ else if ([a, b].any fun | .Starred .. => true | _ => false) = true then _ else _) = _
  rw [any_star, h1]
  generalize hz : List.filterMap _ [Expr.Name x px, Expr.Name y py] = z
  have hz' : z = [x, y] := by rw [← hz]; exact hn
  subst hz'
  rw [if_neg (by show ¬ (false = true); decide), if_neg (by decide), if_neg (by rw [hxy]; show ¬ (false = true); decide), h2, if_neg (by decide), h3, if_neg (by decide)]
theorem sw3 {x y z : Str} {px py pz pt : Pos} {kt k2 pt2} {a b d : Expr} {env : Env} (hk : env.scope.kind = .function) (hx : env.scope.names.lookup x = some .local) (hy : env.scope.names.lookup y = some .local) (hz0 : env.scope.names.lookup z = some .local) (hxy : [x, y, z].eraseDups.length = 3) (hl : (py.line == px.line) = true) (hl2 : (pz.line == px.line) = true)
    (h1 : [a, b, d].any isStar = false) (h2 : [a, b, d].all (foldedForSure 8) = false) (h3 : [a, b, d].all (constantsAlone 8) = false) :
    swappedStores [.Tuple [.Name x px, .Name y py, .Name z pz] kt pt] (.Tuple [a, b, d] k2 pt2) env = pure (some [x, y, z]) := by
  have kx : env.kindOf x = some .local := hx
  have ky : env.kindOf y = some .local := hy
  have kz : env.kindOf z = some .local := hz0
  have hb : env.blockKind = .function := by unfold Env.blockKind; rw [hk]; rfl
  have hn : ([Expr.Name x px, Expr.Name y py, Expr.Name z pz].filterMap fun
    | .Name id pos => if env.kindOf id == some .local && pos.line == px.line then some id else none
    | _ => none) = [x, y, z] := by
    simp only [List.filterMap_cons, List.filterMap_nil, kx, ky, kz, hl, hl2, beq_self_eq_true, Bool.and_self, if_true]
  unfold swappedStores
  simp only [hb]
  show (if _ = true then _ else if ([a, b, d].any fun | .Starred .. => true | _ => false) = true then _ else _) = _
  rw [any_star, h1]
  generalize hz : List.filterMap _ [Expr.Name x px, Expr.Name y py, Expr.Name z pz] = w
  have hz' : w = [x, y, z] := by rw [← hz]; exact hn
  subst hz'
  rw [if_neg (by show ¬ (false = true); decide), if_neg (by decide), if_neg (by rw [hxy]; show ¬ (false = true); decide), h2, if_neg (by decide), h3, if_neg (by decide)]
section
variable {c : Cd} {σ : L2.St} {H : Hp} {D : Ends} {pos : Pos}
theorem s_par2 {i j : Nat} {x y : Str} {a b : Expr} {px py pt : Pos} {kt k2 pt2} (hi : At c.N i x) (hj : At c.N j y) (q : RE c a σ H fun v H1 => RE c b σ H1 fun w H2 => D.nx ((σ.set i (some v)).set j (some w)) H2) (hij : i ≠ j := by decide)
    (hx : c.sc.names.lookup x = some .local := by rfl) (hy : c.sc.names.lookup y = some .local := by rfl) (hk : c.sc.kind = .function := by rfl) (hxy : [x, y].eraseDups.length = 2 := by decide +kernel) (hl : (py.line == px.line) = true := by rfl)
    (e1 : [a, b].any isStar = false := by rfl) (e2 : [a, b].all (foldedForSure 8) = false := by rfl) (e3 : [a, b].all (constantsAlone 8) = false := by rfl)
    (hs : ∀ env, swapsWithSole [.Tuple [.Name x px, .Name y py] kt pt] (.Tuple [a, b] k2 pt2) pos.line env = pure false := by intro _; rfl)
    (h1 : ∀ env, starEach [a, b] env = (false, eval a env) :: starEach [b] env := by intro _; rfl) (h2 : ∀ env, starEach [b] env = (false, eval b env) :: starEach [] env := by intro _; rfl) :
    RS c (.Assign [.Tuple [.Name x px, .Name y py] kt pt] (.Tuple [a, b] k2 pt2) pos) D σ H :=
  s_par hi hj q hij hx hy (fun env he => sw2 (by rw [he]; exact hk) (by rw [he]; exact hx) (by rw [he]; exact hy) hxy hl e1 e2 e3) hs h1 h2
theorem s_par3 {i j l : Nat} {x y z : Str} {a b d : Expr} {px py pz pt : Pos} {kt k2 pt2} (hi : At c.N i x) (hj : At c.N j y) (hl0 : At c.N l z) (q : RE c a σ H fun v H1 => RE c b σ H1 fun w H2 => RE c d σ H2 fun u H3 => D.nx (((σ.set i (some v)).set j (some w)).set l (some u)) H3) (hij : i ≠ j := by decide) (hil : i ≠ l := by decide) (hjl : j ≠ l := by decide)
    (hx : c.sc.names.lookup x = some .local := by rfl) (hy : c.sc.names.lookup y = some .local := by rfl) (hz : c.sc.names.lookup z = some .local := by rfl) (hk : c.sc.kind = .function := by rfl) (hxy : [x, y, z].eraseDups.length = 3 := by decide +kernel) (hl : (py.line == px.line) = true := by rfl) (hl2 : (pz.line == px.line) = true := by rfl)
    (e1 : [a, b, d].any isStar = false := by rfl) (e2 : [a, b, d].all (foldedForSure 8) = false := by rfl) (e3 : [a, b, d].all (constantsAlone 8) = false := by rfl)
    (hs : ∀ env, swapsWithSole [.Tuple [.Name x px, .Name y py, .Name z pz] kt pt] (.Tuple [a, b, d] k2 pt2) pos.line env = pure false := by intro _; rfl)
    (h0 : ∀ env, starEach [a, b, d] env = (false, eval a env) :: starEach [b, d] env := by intro _; rfl) (h1 : ∀ env, starEach [b, d] env = (false, eval b env) :: starEach [d] env := by intro _; rfl) (h2 : ∀ env, starEach [d] env = (false, eval d env) :: starEach [] env := by intro _; rfl) :
    RS c (.Assign [.Tuple [.Name x px, .Name y py, .Name z pz] kt pt] (.Tuple [a, b, d] k2 pt2) pos) D σ H := by
  refine rs_of (t := tPar3 i j l (RA c [a, b, d])) (fun X h => ps_par3 h.calm (by rw [h.N]; exact h.nd) (by rw [h.N]; exact hi.get) (by rw [h.N]; exact hj.get) (by rw [h.N]; exact hl0.get) hij hil hjl (by rw [h.sc]; exact hx) (by rw [h.sc]; exact hy) (by rw [h.sc]; exact hz) (pa_ra h) (sw3 (by rw [h.sc]; exact hk) (by rw [h.sc]; exact hx) (by rw [h.sc]; exact hy) (by rw [h.sc]; exact hz) hxy hl hl2 e1 e2 e3) (hs _)) ?_
  exact a_cons (RE.mono (fun v H1 z => a_cons (RE.mono (fun w H2 z => a_cons (RE.mono (fun u H3 z => a_nil ⟨v, w, u, rfl, z⟩) z) h2) z) h1) q) h0
theorem e_bo1 {Q : VK} {op : BoolOp} {a : Expr} (q : RE c a σ H Q) : RE c (.BoolOp op [a] pos) σ H Q := re_of (fun X h => pe_one (pe_re h)) q
theorem e_disp {Q : VK} {keys : List (Option Expr)} {values : List Expr} {trs : List (TE × TE)} (hp : ∀ X, Is c X → PPs X pos keys values trs) (hall : keys.all (·.isSome) = true) (hl : keys.length = values.length) (h0 : keys ≠ []) (h15 : keys.length ≤ 15) (q : tDisp trs σ H Q) : RE c (.Dict keys values pos) σ H Q :=
  re_of (fun X h => pe_disp (hp X h) hall hl h0 h15) q
theorem e_dnew {Q : VK} (q : ∀ p, H p = none → Q (.ref p) (upd H p (.dK []))) : RE c (.Dict [] [] pos) σ H Q := re_of (fun X h => pe_dnewK) q
theorem kp_none {fp l : Addr} {H H1 : Hp} (k : Kp fp H H1) (h : H1 l = none) (n : l ≠ fp) : H l = none := by
  cases e : H l with
  | none => rfl
  | some o => rw [k.k _ _ n e] at h; cases h
theorem ty_tup {K : PySem.W.Frag} {a : Addr} {xs : List V} (h : SqT K H a xs) : TyX K H (.ref a) (.type "tuple") := by
  rcases h with (h | ⟨o, h⟩) | ⟨o, its, n, h1, h2, _⟩
  · exact .base (.tup h)
  · exact .fTuple h
  · exact .kTuple h1 h2
theorem rc_isi {Q : VK} {x : V} {t T : String} {b : Bool} (ty : TyX c.K H x (.type t)) (e : PySem.W.kitOne c.K (.type t) (.type T) = some b) (q : Q (.bl b) H) : RC c (.builtin "isinstance") [x, .ty T] H Q :=
  rc_of (r := rIsi c.K) (fun X h => by rw [← h.K]; exact call_isi) ⟨x, _, _, _, b, rfl, .ty T, ty, e, q⟩
/-- a def with defaults -/
structure DcV (c : Md) (x : Str) (ps : List Str) (dvs : List V) (k : Nat) (sp : Sp) : Prop where
  ex : ∃ (f : Addr) (fd : FuncData) (ds : List Value), FnOk c.prog c.w c.K c.mg c.base (fun _ _ _ _ _ _ => False) k f fd ps sp ∧ c.mg x = some (.ref f) ∧ PySem.W.keepIn c.K (.ref f) = true ∧ Binds c.K fd ps ds ∧ Vals dvs ds
theorem e_callV {Q : VK} {x : Str} {p : Pos} {e : Expr} {es : List Expr} {ps : List Str} {dvs : List V} {k : Nat} {sp : Sp} (D : DcV c.toMd x ps dvs k sp) (q : RA c (e :: es) σ H fun vs H1 => sp (vs ++ dvs) H1 Q fun _ _ _ => False) (hk : k ≤ c.k := by exact Nat.le_of_ble_eq_true rfl) (hg : c.sc.names.lookup x = some .globalImplicit := by rfl)
    (hdb : (x == ("__debug__" : Str)) = false := by decide) (he : ∀ env, starEach (e :: es) env = (false, eval e env) :: starEach es env := by intro _; rfl) (hpl : ∀ env, (backTo pos (starEach es env)).any (·.1) = false := by intro _; rfl) :
    RE c (.Call (.Name x p) (e :: es) [] pos) σ H Q := by
  obtain ⟨f, fd, ds, F, hm, hkp, hb, hv⟩ := D.ex
  refine re_of (t := tCall sp dvs (fun _ _ _ => False) (RA c (e :: es))) (fun X h => ?_) q
  refine pe_call (CX := fun _ _ _ _ _ _ => False) (k := k) (f := f) (fd := fd) (ps := ps) (ds := ds) ?_ (h.room.mono hk) (gl_of h hg) (by rw [h.mg]; exact hm) (by rw [h.K]; exact hkp) (by rw [h.K]; exact hb) hv (fun _ _ _ _ _ _ _ z => z.elim) (pa_ra h) hdb (he _) (hpl _)
  rw [h.prog, h.w, h.K, h.mg, h.base]; exact F
/-- x, y = e with a pair of data -/
theorem g_unp2 {R : L2.St → Hp → Prop} {i j : Nat} {x y : Str} {px py pt : Pos} {kt : Nat} {v : V} {d1 d2 : PyData} (hi : At c.N i x) (hj : At c.N j y) (hv : Dt c.K H v (.tuple [d1, d2])) (q : ∀ v1 v2, Dt c.K H v1 d1 → Dt c.K H v2 d2 → R ((σ.set i (some v1)).set j (some v2)) H)
    (hx : c.sc.names.lookup x = some .local ∨ (c.sc.names.lookup x = some .cell ∧ c.top = true) := by first | exact Or.inl rfl | exact Or.inr ⟨rfl, rfl⟩) (hy : c.sc.names.lookup y = some .local ∨ (c.sc.names.lookup y = some .cell ∧ c.top = true) := by first | exact Or.inl rfl | exact Or.inr ⟨rfl, rfl⟩)
    (hst : ∀ env, (assignEach [.Name x px, .Name y py] env).findIdx? (·.1) = none := by intro _; rfl) : RG c (.Tuple [.Name x px, .Name y py] kt pt) v σ H R := by
  obtain ⟨a, xs, rfl, ht, hd⟩ := hv.tupE
  obtain _ | ⟨h1, hd⟩ := hd
  obtain _ | ⟨h2, hd⟩ := hd
  cases hd
  exact g_tup ht (gs_cons (g_name hi (gs_cons (g_name hj (gs_nil (q _ _ h1 h2)) hy)) hx)) rfl (fun _ => rfl) hst
theorem g_unp3 {R : L2.St → Hp → Prop} {i j l : Nat} {x y z : Str} {px py pz pt : Pos} {kt : Nat} {v : V} {d1 d2 d3 : PyData} (hi : At c.N i x) (hj : At c.N j y) (hl : At c.N l z) (hv : Dt c.K H v (.tuple [d1, d2, d3])) (q : ∀ v1 v2 v3, Dt c.K H v1 d1 → Dt c.K H v2 d2 → Dt c.K H v3 d3 → R (((σ.set i (some v1)).set j (some v2)).set l (some v3)) H)
    (hx : c.sc.names.lookup x = some .local ∨ (c.sc.names.lookup x = some .cell ∧ c.top = true) := by first | exact Or.inl rfl | exact Or.inr ⟨rfl, rfl⟩) (hy : c.sc.names.lookup y = some .local ∨ (c.sc.names.lookup y = some .cell ∧ c.top = true) := by first | exact Or.inl rfl | exact Or.inr ⟨rfl, rfl⟩) (hz : c.sc.names.lookup z = some .local ∨ (c.sc.names.lookup z = some .cell ∧ c.top = true) := by first | exact Or.inl rfl | exact Or.inr ⟨rfl, rfl⟩)
    (hst : ∀ env, (assignEach [.Name x px, .Name y py, .Name z pz] env).findIdx? (·.1) = none := by intro _; rfl) : RG c (.Tuple [.Name x px, .Name y py, .Name z pz] kt pt) v σ H R := by
  obtain ⟨a, xs, rfl, ht, hd⟩ := hv.tupE
  obtain _ | ⟨h1, hd⟩ := hd
  obtain _ | ⟨h2, hd⟩ := hd
  obtain _ | ⟨h3, hd⟩ := hd
  cases hd
  exact g_tup ht (gs_cons (g_name hi (gs_cons (g_name hj (gs_cons (g_name hl (gs_nil (q _ _ _ h1 h2 h3)) hz)) hy)) hx)) rfl (fun _ => rfl) hst
end
end G

namespace G
open PySem PySem.Spec PyProof.Rows L2
/-- a tuple's object as the built-in makes it -/
def BareT (ob : Obj) : Prop := ob.cls = .type "tuple" ∧ ob.dict = none
/-- none, or a tuple of data whose object is known to be bare -/
def Fz (K : PySem.W.Frag) (H : Hp) (v : V) (d : PyData) : Prop := (v = .non ∧ d = .none) ∨ ∃ a ob us ds, v = .ref a ∧ d = .tuple ds ∧ H a = some (.frz ob (.tup us)) ∧ BareT ob ∧ DtAll K H us ds
theorem Fz.mono {K : PySem.W.Frag} {H H' : Hp} {v : V} {d : PyData} (e : Tp H H') (h : Fz K H v d) : Fz K H' v d := by
  rcases h with h | ⟨a, ob, us, ds, h1, h2, h3, h4, h5⟩
  · exact .inl h
  · exact .inr ⟨a, ob, us, ds, h1, h2, e.f _ _ _ h3, h4, h5.mono e⟩
theorem Fz.dt {K : PySem.W.Frag} {H : Hp} {v : V} {d : PyData} (h : Fz K H v d) : Dt K H v d := by
  rcases h with ⟨rfl, rfl⟩ | ⟨a, ob, us, ds, rfl, rfl, h3, h4, h5⟩
  · exact .non
  · exact .tup (.inl (.inr ⟨ob, h3⟩)) h5
theorem Fz.tup {K : PySem.W.Frag} {H : Hp} {v : V} {ds : List PyData} (h : Fz K H v (.tuple ds)) : ∃ a ob us, v = .ref a ∧ H a = some (.frz ob (.tup us)) ∧ BareT ob ∧ DtAll K H us ds := by
  rcases h with ⟨_, h⟩ | ⟨a, ob, us, es, h1, h2, h3⟩
  · cases h
  · cases h2
    exact ⟨a, ob, us, h1, h3⟩
section
variable {X : Cx}
theorem cr_tupF : CallR X (.type "tuple") (fun vs H Q => ∃ l zs, vs = [.ref l] ∧ SqL X.K H l zs ∧ ∀ t ob, H t = none → BareT ob → Q (.ref t) (upd H t (.frz ob (.tup zs)))) := by
  rintro pins s σ H vs us Q I rv ⟨l, zs, rfl, hl, k⟩
  obtain ⟨w, rfl, rw0⟩ := vals1 rv
  cases rw0
  obtain ⟨ws, rz, plain, short⟩ := I.list hl
  have same := rz.length
  refine call_tuple_list plain.isList (fun hp kept => ?_) (by rw [List.size_toArray] <;> omega)
  have J : Inv X pins σ H { s with heap := hp } := I.kept (t' := s.toks) kept
  refine ⟨.ref hp.objs.size, _, J.laid (o := .frz { cls := .type "tuple", data := .seq ws.toArray } (.tup zs)) (t' := s.toks) (h' := hp.push { cls := .type "tuple", data := .seq ws.toArray }) (fun b o e => Heap.get?_push_of_some _ e) (Nat.le_refl _) ?_, rfl, k _ _ (J.hok.fresh (Nat.le_refl _)) ⟨rfl, rfl⟩⟩
  exact ⟨Heap.get?_push_size _ rfl, short, ws, rz, IsTup.new _ _⟩
end
section
variable {c : Cd} {σ : L2.St} {H : Hp} {Q : VK} {pos : Pos}
theorem rc_tupF {l : Addr} {ys : List V} {ds : List PyData} (hl : SqL c.K H l ys) (hd : DtAll c.K H ys ds) (q : ∀ v H2, Same H H2 → Dt c.K H2 v (.tuple ds) → Fz c.K H2 v (.tuple ds) → Q v H2) : RC c (.type "tuple") [.ref l] H Q :=
  rc_of (r := fun vs H Q => ∃ l zs, vs = [.ref l] ∧ SqL c.K H l zs ∧ ∀ t ob, H t = none → BareT ob → Q (.ref t) (upd H t (.frz ob (.tup zs)))) (fun X h => by rw [← h.K]; exact cr_tupF) ⟨l, ys, rfl, hl, fun t ob hn hb => q _ _ (same_new hn) (.tup (.inl (.inr ⟨ob, upd_same⟩)) (hd.mono (tp_same (same_new hn)))) (.inr ⟨t, ob, ys, ds, rfl, rfl, upd_same, hb, hd.mono (tp_same (same_new hn))⟩)⟩
/-- a def that changes nothing and answers with none or a bare tuple -/
def spZ (R : List PyData → PyData → Prop) (K : PySem.W.Frag) : Sp := fun vs H Q _ => ∃ ds d, DtAll K H vs ds ∧ R ds d ∧ ∀ v H', Same H H' → Dt K H' v d → Fz K H' v d → Q v H'
theorem e_callZ {x : Str} {p : Pos} {e : Expr} {es : List Expr} {ps : List Str} {k : Nat} {R : List PyData → PyData → Prop} (D : Dc c.toMd x ps k (spZ R c.K)) (q : RA c (e :: es) σ H fun vs H1 => ∃ ds d, DtAll c.K H1 vs ds ∧ R ds d ∧ ∀ v H', Same H1 H' → Dt c.K H' v d → Fz c.K H' v d → Q v H') (hk : k ≤ c.k := by exact Nat.le_of_ble_eq_true rfl) (hg : c.sc.names.lookup x = some .globalImplicit := by rfl)
    (hdb : (x == ("__debug__" : Str)) = false := by decide) (he : ∀ env, starEach (e :: es) env = (false, eval e env) :: starEach es env := by intro _; rfl) (hpl : ∀ env, (backTo pos (starEach es env)).any (·.1) = false := by intro _; rfl) :
    RE c (.Call (.Name x p) (e :: es) [] pos) σ H Q := e_call D q hk hg hdb he hpl
end
end G

open PySem L2 G
local macro_rules | `(tactic| tm_at "at") => `(tactic| (first | with_reducible exact At.z | (with_reducible apply At.s; tm_at "at")))
local macro_rules | `(tactic| tm_at "tp") => `(tactic| (first
  | exact Tp.refl _
  | assumption
  | exact tp_same (by assumption)
  | exact Kp.t (by assumption)
  | (refine Tp.trans ?_ (tp_same (by assumption)); tm_at "tp")
  | (refine Tp.trans ?_ (Kp.t (by assumption)); tm_at "tp")
  | (refine Tp.trans ?_ (tp_same (same_new (by assumption))); tm_at "tp")))
local macro_rules | `(tactic| tm_at "same") => `(tactic| (first
  | exact Same.refl _
  | assumption
  | (refine Same.trans ?_ (by assumption); tm_at "same")
  | (refine Same.trans ?_ (same_new (by assumption)); tm_at "same")))
local macro_rules | `(tactic| tm_at "dt") => `(tactic| (first
  | assumption
  | exact Dt.int _ | exact Dt.str _ | exact Dt.bl _ | exact Dt.non
  | (refine Dt.mono ?_ (by assumption); tm_at "tp")))
local macro_rules | `(tactic| tm_at "dts") => `(tactic| (first
  | exact DtAll.nil
  | (with_reducible apply DtAll.cons; tm_at "dt"; tm_at "dts")))
local macro_rules | `(tactic| tm_at "s") => `(tactic| first
  | refine e_var (by tm_at "at") ?_
  | refine e_int ?_ | refine e_str ?_ | refine e_non ?_ | refine e_bl ?_
  | refine a_cons ?_ | refine a_nil ?_
  | refine e_bin ?_ | refine e_cmp ?_ | refine e_chain ?_ | refine e_dgetS ?_ | refine e_sliceS ?_ | refine e_slice ?_ | refine e_ix ?_ | refine p_none ?_ | refine p_some ?_ | refine e_not ?_ | refine e_bo1 ?_ | refine e_or ?_ | refine e_and ?_ | refine e_un ?_ | refine e_if ?_
  | refine s_ret ?_ | refine s_if ?_ | refine s_retN ?_
  | refine s_dputS ?_ | refine s_par2 (by tm_at "at") (by tm_at "at") ?_ | refine s_par3 (by tm_at "at") (by tm_at "at") (by tm_at "at") ?_ | refine s_set (by tm_at "at") ?_ | refine g_name (by tm_at "at") ?_
  | refine t_cmp ?_ | refine t_chain ?_ | refine t_not ?_ | refine t_w (e := .BoolOp _ _ _) ?_
  | refine w_and ?_ | refine w_or ?_ | refine w_and1 ?_ | refine w_or1 ?_
  | refine rx_int (by tm_at "dt") (by rfl) ?_ | refine rx_str (by tm_at "dt") (by rfl) ?_ | refine rx_bl (by tm_at "dt") (by rfl) ?_
  | refine ro_add ?_ | refine ro_sub ?_ | refine ro_eqI ?_ | refine ro_eqS ?_ | refine ro_eqB ?_ | refine ro_neI ?_ | refine ro_lt ?_ | refine ro_le ?_ | refine ro_gt ?_ | refine ro_ge ?_ | refine ro_isN ?_ | refine ro_notN ?_ | refine ru_neg ?_
  | refine e_callB (id := "isinstance") (by with_reducible exact Bl.isinst (by assumption)) (by decide +kernel) ?_
  | refine e_bltn (v := .ty "int") (u := .type "int") (by with_reducible exact Bl.int (by assumption)) (by decide +kernel) rfl ?_
  | refine e_bltn (v := .ty "str") (u := .type "str") (by with_reducible exact Bl.str (by assumption)) (by decide +kernel) rfl ?_
  | refine e_bltn (v := .ty "bool") (u := .type "bool") (by with_reducible exact Bl.bool (by assumption)) (by decide +kernel) rfl ?_
  | refine e_callT (T := "int") (by with_reducible exact Bl.int (by assumption)) (by decide +kernel) ?_
  | refine e_callB (id := "len") (by with_reducible exact Bl.len (by assumption)) (by decide +kernel) ?_
  | refine e_callB (id := "max") (by with_reducible exact Bl.max (by assumption)) (by decide +kernel) ?_
  | refine e_callB (id := "min") (by with_reducible exact Bl.min (by assumption)) (by decide +kernel) ?_
  | refine e_callT (T := "tuple") (by with_reducible exact Bl.tuple (by assumption)) (by decide +kernel) ?_
  | refine e_callT (T := "dict") (by with_reducible exact Bl.dict (by assumption)) (by decide +kernel) ?_
  | refine e_callB (id := "sorted") (by with_reducible exact Bl.sorted (by assumption)) (by decide +kernel) ?_
  | refine e_callT (T := "list") (by with_reducible exact Bl.list (by assumption)) (by decide +kernel) ?_
  | refine rc_max2 ?_ | refine rc_min2 ?_ | refine rc_intI ?_ | refine rc_intB ?_
  | with_reducible refine ⟨_, rfl, ?_⟩
  | with_reducible refine ifT rfl ?_)
local macro_rules | `(tactic| tm_at "run") => `(tactic| repeat tm_at "s")
local macro_rules | `(tactic| tm_at "go") => `(tactic| repeat (first | tm_at "s" | refine b_one ?_ | refine b_cons ?_ | refine b_nil ?_))

namespace K
open PySem L2 G
variable {M : Md}
def preDraw : List PyData → Prop := fun ds => ∃ m : Int, ds = [.int m] ∧ 0 < m ∧ m < 1000
def rDraw : List PyData → PyData → Prop := fun ds d => ∃ m r : Int, ds = [.int m] ∧ d = .int r ∧ 0 ≤ r ∧ r < m
theorem ok_draw {f fd} (F : Fun M.K "_law_draw" "_law_draw" s__law_draw f fd) (b : Bl M) : FnOk M.prog M.w M.K M.mg M.base CX0 1 f fd ["_law_feed_here", "_law_many"] (spD preDraw rDraw M.K) := by
  refine fn_ok F sc__law_draw (spD_len (n := 1) (by rintro ds ⟨m, rfl, _⟩; rfl)) (fun H vs Q E h => ?_)
  obtain ⟨fp, cl, rest, ds, rfl, ⟨ns, at0, left, count, h1, h2, h3⟩, hds, ⟨m, rfl, m0, m1⟩, k⟩ := h
  obtain _ | ⟨hm, hds⟩ := hds
  cases hds
  cases hm
  have ncl : cl ≠ fp := fun e => by rw [e, h1] at h2; cases h2
  tm_at "go"
  refine ⟨_, _, _, rfl, h1, fkv_3, ?_⟩
  tm_at "run"
  refine ⟨_, _, rfl, h1, by rw [fkv_len]; decide, ?_⟩
  rw [fput_3]
  have k1 : Kp fp H (upd H fp (.dK (fkv (.ref cl) at0 left (count + 1)))) := kp_fd h1
  have g1 : (upd H fp (.dK (fkv (.ref cl) at0 left (count + 1)))) fp = _ := upd_same
  generalize upd H fp (.dK (fkv (.ref cl) at0 left (count + 1))) = H1 at *
  tm_at "go"
  refine ⟨_, _, _, rfl, g1, fkv_2, ?_⟩
  tm_at "run"
  refine ifd (fun c1 => ?_) (fun c1 => ?_)
  · tm_at "go"
    refine ⟨_, _, _, rfl, g1, fkv_2, ?_⟩
    tm_at "run"
    refine ro_mod m0 ?_
    tm_at "go"
    refine ⟨_, _, _, rfl, g1, fkv_2, ?_⟩
    tm_at "run"
    refine ro_div m0 (by omega) ?_
    tm_at "run"
    refine ⟨_, _, rfl, g1, by rw [fkv_len]; decide, ?_⟩
    rw [fput_2]
    have k2 := k1.trans (kp_fd (o' := .dK (fkv (.ref cl) at0 (left / m) (count + 1))) g1)
    have n2 := k2.k cl _ ncl h2
    tm_at "go"
    refine k (.int (left % m)) _ _ ⟨m, _, rfl, rfl, Int.emod_nonneg _ (by omega), Int.emod_lt_of_pos _ m0⟩ k2 ⟨ns, _, _, _, upd_same, n2, h3⟩ (.int _)
  tm_at "go"
  refine ⟨_, _, _, rfl, g1, fkv_1, ?_⟩
  tm_at "go"
  refine ⟨_, _, rfl, g1, by rw [fkv_len]; decide, ?_⟩
  rw [fput_1]
  have k2 : Kp fp H (upd H1 fp (.dK (fkv (.ref cl) (at0 + 1) left (count + 1)))) := k1.trans (kp_fd g1)
  have g2 : (upd H1 fp (.dK (fkv (.ref cl) (at0 + 1) left (count + 1)))) fp = _ := upd_same
  generalize upd H1 fp (.dK (fkv (.ref cl) (at0 + 1) left (count + 1))) = H2 at *
  have n2 := k2.k cl _ ncl h2
  refine b_cut (fun σ1 H3 => Same H2 H3 ∧ ∃ cell : Int, σ1 = [some (.ref fp), some (.int m), none, some (.int at0), some (.int cell), none]) ?_ ?_
  · tm_at "run"
    refine ⟨_, _, _, rfl, g2, fkv_0, ?_⟩
    refine e_lst ?_
    tm_at "run"
    refine ⟨by decide, fun pe hpe => ?_⟩
    have s3 : Same H2 (upd H2 pe (.lst [])) := same_new hpe
    have g3 : (upd H2 pe (.lst [])) pe = some (.lst []) := upd_same
    generalize upd H2 pe (.lst []) = H3 at *
    refine ro_neD (.lst (SqL.of (s3 _ _ n2)) (dpInts ns)) (.lst (SqL.of g3) .nil) (shInts ns) (by decide) ?_
    refine ⟨_, rfl, ifb (fun e => ?_) (fun e => ?_)⟩
    · have hn : 0 < ns.length := by
        cases ns with
        | nil => exact absurd e (by decide)
        | cons => exact Nat.succ_pos _
      tm_at "run"
      refine ⟨_, _, _, rfl, s3 _ _ g2, fkv_0, ?_⟩
      tm_at "run"
      refine ⟨_, _, _, rfl, s3 _ _ g2, fkv_0, ?_⟩
      tm_at "run"
      refine rc_lenL (SqL.of (s3 _ _ n2)) ?_
      rw [List.length_map]
      refine ro_mod (by omega) ?_
      have lt : (at0 % (ns.length : Int)).toNat < ns.length := by
        have h1 := Int.emod_nonneg at0 (show (ns.length : Int) ≠ 0 by omega)
        have h2 := Int.emod_lt_of_pos at0 (show (0 : Int) < ns.length by omega)
        omega
      refine rx_list (SqL.of (s3 _ _ n2)) (v := .int ns[(at0 % (ns.length : Int)).toNat]) ?_ ?_
      · have h1 := Int.emod_nonneg at0 (show (ns.length : Int) ≠ 0 by omega)
        refine pl_at (j := (at0 % (ns.length : Int)).toNat) (by omega) ?_
        rw [List.getElem?_map, List.getElem?_eq_getElem lt]; rfl
      · exact ⟨s3, _, rfl⟩
    · tm_at "run"
      exact ⟨s3, _, rfl⟩
  rintro _ H3 ⟨s3, cell, rfl⟩
  have k3 : Kp fp H H3 := k2.trans (kp_same s3)
  have g3 := s3 _ _ g2
  have n3 := s3 _ _ n2
  refine b_cut (fun σ1 H4 => H4 = H3 ∧ σ1 = [some (.ref fp), some (.int m), none, some (.int at0), some (.int cell), none]) ?_ ?_
  · tm_at "run"
    refine ro_pow ⟨by decide, by decide, by decide⟩ ?_
    tm_at "run"
    refine ifd (fun c2 => ?_) (fun c2 => ?_)
    · tm_at "run"
      refine ⟨_, _, _, rfl, g3, fkv_0, ?_⟩
      tm_at "run"
      refine rc_lenL (SqL.of n3) ?_
      tm_at "run"
      refine ifd (fun c3 => ?_) (fun c3 => ?_)
      · tm_at "go"
        refine ro_div m0 (by omega) ?_
        tm_at "run"
        refine ⟨_, _, rfl, g3, by rw [fkv_len]; decide, ?_⟩
        rw [fput_2]
        tm_at "go"
        refine ro_mod m0 ?_
        have k4 := k3.trans (kp_fd (o' := .dK (fkv (.ref cl) (at0 + 1) (cell / m) (count + 1))) g3)
        refine k (.int (cell % m)) _ _ ⟨m, _, rfl, rfl, Int.emod_nonneg _ (by omega), Int.emod_lt_of_pos _ m0⟩ k4 ⟨ns, _, _, _, upd_same, k4.k cl _ ncl h2, h3⟩ (.int _)
      · tm_at "go"
        exact ⟨rfl, rfl⟩
    · tm_at "go"
      exact ⟨rfl, rfl⟩
  rintro _ _ ⟨rfl, rfl⟩
  tm_at "go"
  refine ro_mod (by decide) ?_
  tm_at "go"
  refine ⟨_, _, _, rfl, g3, fkv_3, ?_⟩
  refine ro_mul (.inl ⟨by decide, by decide⟩) ?_
  tm_at "go"
  refine ro_mod (by decide) ?_
  generalize hmx : (cell % 1000000531 + 170003 * (count + 1) + 97) % 2147483353 = mx
  have b1 : 0 ≤ mx ∧ mx < 2147483353 := by rw [← hmx]; exact ⟨Int.emod_nonneg _ (by decide), Int.emod_lt_of_pos _ (by decide)⟩
  tm_at "go"
  refine ro_mul (.inl ⟨by omega, by omega⟩) ?_
  tm_at "go"
  refine ⟨_, _, _, rfl, g3, fkv_3, ?_⟩
  refine ro_mul (.inl ⟨by decide, by decide⟩) ?_
  tm_at "go"
  refine ro_mod (by decide) ?_
  generalize hmy : (mx * mx + 3700177 * (count + 1) + 61) % 2147483323 = my
  have b2 : 0 ≤ my ∧ my < 2147483323 := by rw [← hmy]; exact ⟨Int.emod_nonneg _ (by decide), Int.emod_lt_of_pos _ (by decide)⟩
  tm_at "go"
  refine ro_mul (.inl ⟨by omega, by omega⟩) ?_
  tm_at "go"
  refine ro_mul (.inl ⟨by decide, by decide⟩) ?_
  tm_at "go"
  refine ro_mod (by decide) ?_
  tm_at "go"
  refine ro_div (by decide) (by decide) ?_
  tm_at "go"
  refine ro_mod m0 ?_
  exact k (.int _) _ _ ⟨m, _, rfl, rfl, Int.emod_nonneg _ (by omega), Int.emod_lt_of_pos _ m0⟩ k3 ⟨ns, _, _, _, g3, n3, h3⟩ (.int _)
end K

namespace K
open PySem L2 G
def rowD (r : Str × Nat × Int × Int × Bool × Bool × Int) : PyData := .tuple [.str r.1, .int r.2.1, .int r.2.2.1, .int r.2.2.2.1, .bool r.2.2.2.2.1, .bool r.2.2.2.2.2.1, .int r.2.2.2.2.2.2]
abbrev Row := Str × Nat × Int × Int × Bool × Bool × Int
def width (r : Row) : Nat := max 1 r.2.1
def rWidth : List PyData → PyData → Prop := fun ds d => ∃ r : Row, ds = [rowD r] ∧ d = .int (width r)
variable {M : Md}
theorem ok_width {f fd} (F : Fun M.K "row_width" "row_width" s_row_width f fd) (b : Bl M) : FnOk M.prog M.w M.K M.mg M.base CX0 1 f fd ["row"] (spF rWidth M.K) := by
  refine fn_ok F sc_row_width (fun vs H Q E h => ?_) (fun H vs Q E h => ?_)
  · obtain ⟨ds, d, h, ⟨r, rfl, _⟩, _⟩ := h
    exact h.len
  obtain ⟨ds, d, h, ⟨r, rfl, rfl⟩, k⟩ := h
  cases h with
  | cons h1 h2 =>
  cases h2
  tm_at "go"
  have e : (if ((r.2.1 : Nat) : Int) > 1 then ((r.2.1 : Nat) : Int) else 1) = ((width r : Nat) : Int) := by unfold width; split <;> omega
  rw [e]
  exact k _ _ (Same.refl _) (.int _)

def hit (r : Row) : Option Int → Int → Option Int
  | none, b => if (r.2.1 : Int) = 0 then some b else none
  | some k, b => if 0 ≤ k ∧ k < r.2.1 then some (b + k) else none
def fIdx : List Row → Str → Option Int → Int → Option Int
  | [], _, _, _ => none
  | r :: rs, nm, key, b => if r.1 = nm then hit r key b else fIdx rs nm key (b + width r)
def optD : Option Int → PyData
  | none => .none
  | some k => .int k
def cellsD (rs : List Row) : PyData := .tuple (rs.map rowD)
def rFound : List PyData → PyData → Prop := fun ds d => ∃ (rs : List Row) (nm : Str) (key : Option Int), ds = [cellsD rs, .str nm, optD key] ∧ d = optD (fIdx rs nm key 0)
theorem ok_found {f fd} (F : Fun M.K "found_index" "found_index" s_found_index f fd) (dw : Dc M "row_width" ["row"] 1 (spF rWidth M.K)) : FnOk M.prog M.w M.K M.mg M.base CX0 2 f fd ["cells", "name", "key"] (spF rFound M.K) := by
  refine fn_ok F sc_found_index (fun vs H Q E h => ?_) (fun H vs Q E h => ?_)
  · obtain ⟨ds, d, h, ⟨rs, nm, key, rfl, _⟩, _⟩ := h
    exact h.len
  obtain ⟨ds, d, h, ⟨rs, nm, key, rfl, rfl⟩, k⟩ := h
  obtain _ | ⟨hc, h⟩ := h
  obtain _ | ⟨hn, h⟩ := h
  obtain _ | ⟨hk, h⟩ := h
  cases h
  cases hn
  obtain ⟨a, xs, rfl, hxs, hrs⟩ := hc.tupE
  rename_i vk
  tm_at "go"
  refine s_forT ?_
  tm_at "s"
  refine ⟨a, xs, rfl, hxs, fun i σ1 H1 => ∃ (b : Int) (v : Option V), σ1 = [some (.ref a), some (.str nm), some vk, some (.int b), v] ∧ Same H H1 ∧ fIdx rs nm key 0 = fIdx (rs.drop i) nm key b, ⟨0, _, rfl, Same.refl _, rfl⟩, ?_, ?_, ?_⟩
  · rintro i σ' H' _ ⟨b, v, rfl, s, _⟩
    exact (tp_same s).sqt hxs
  · rintro i x σ' H' hx ⟨b, v, rfl, s, e⟩
    obtain ⟨d, hd, hx'⟩ := hrs.getV hx
    rw [List.getElem?_map] at hd
    obtain ⟨r, hr, rfl⟩ := Option.map_eq_some_iff.mp hd
    have ed : rs.drop i = r :: rs.drop (i + 1) := by
      obtain ⟨h1, h2⟩ := List.getElem?_eq_some_iff.mp hr
      rw [← h2]; exact List.drop_eq_getElem_cons h1
    rw [ed] at e
    refine g_name (by tm_at "at") ?_
    tm_at "go"
    refine ifd (fun c1 => ?_) (fun c1 => ?_)
    · cases key with
      | none =>
        cases hk
        tm_at "go"
        refine ifd (fun c2 => ?_) (fun c2 => ?_)
        · tm_at "go"
          refine k _ _ s ?_
          rw [e, fIdx, if_pos c1, hit, if_pos c2]; exact .int _
        · tm_at "go"
          refine k _ _ s ?_
          rw [e, fIdx, if_pos c1, hit, if_neg c2]; exact .non
      | some kk =>
        cases hk
        tm_at "go"
        refine ifd (fun c2 => ?_) (fun c2 => ?_)
        · tm_at "go"
          refine ifd (fun c3 => ?_) (fun c3 => ?_)
          · tm_at "go"
            refine k _ _ s ?_
            rw [e, fIdx, if_pos c1, hit, if_pos ⟨c2, c3⟩]; exact .int _
          · tm_at "go"
            refine k _ _ s ?_
            rw [e, fIdx, if_pos c1, hit, if_neg fun z => c3 z.2]; exact .non
        · tm_at "go"
          refine k _ _ s ?_
          rw [e, fIdx, if_pos c1, hit, if_neg fun z => c2 z.1]; exact .non
    · tm_at "go"
      refine e_callF dw ?_
      tm_at "go"
      refine ⟨_, _, by tm_at "dts", ⟨r, rfl, rfl⟩, fun v' H2 s2 hv => ?_⟩
      cases hv
      tm_at "go"
      refine ⟨_, _, rfl, s.trans s2, ?_⟩
      rw [e, fIdx, if_neg c1]
  · rintro σ' H' ⟨b, v, rfl, s, e⟩
    tm_at "go"
    refine k _ _ s ?_
    rw [e, List.drop_eq_nil_of_le (by have := hrs.len; rw [List.length_map] at this; omega)]
    exact .non

def total (rs : List Row) : Nat := (rs.map width).sum
def pairD (r : Row) : PyData := .tuple [.int r.2.2.1, .int r.2.2.2.1]
def rngs (rs : List Row) : List PyData := rs.flatMap fun r => List.replicate (width r) (pairD r)
theorem rngs_len : ∀ rs : List Row, (rngs rs).length = total rs
  | [] => rfl
  | r :: rs => by
    have := rngs_len rs
    simp only [rngs, total, List.flatMap_cons, List.length_append, List.length_replicate, List.map_cons, List.sum_cons] at *
    omega
theorem rngs_snoc {rs : List Row} {i : Nat} {r : Row} (h : rs[i]? = some r) : rngs (rs.take (i + 1)) = rngs (rs.take i) ++ List.replicate (width r) (pairD r) := by
  obtain ⟨h1, rfl⟩ := List.getElem?_eq_some_iff.mp h
  rw [List.take_succ_eq_append_getElem h1, rngs, List.flatMap_append]
  simp [rngs]
theorem total_take (rs : List Row) (i : Nat) : total (rs.take i) ≤ total rs := by
  induction rs generalizing i with
  | nil => simp
  | cons r rs ih =>
    cases i with
    | zero => simp [total]
    | succ i =>
      have := ih i
      simp only [total, List.take_succ_cons, List.map_cons, List.sum_cons] at *
      omega
theorem width_le {rs : List Row} {i : Nat} {r : Row} (h : rs[i]? = some r) : total (rs.take i) + width r ≤ total rs := by
  have h1 := total_take rs (i + 1)
  have h2 := congrArg List.length (rngs_snoc h)
  rw [rngs_len, List.length_append, rngs_len, List.length_replicate] at h2
  omega
theorem dt_rep {K : PySem.W.Frag} {H : Hp} {v : V} {d : PyData} (h : Dt K H v d) : ∀ n : Nat, DtAll K H (List.replicate n v) (List.replicate n d)
  | 0 => .nil
  | n + 1 => .cons h (dt_rep h n)
def rRanges : List PyData → PyData → Prop := fun ds d => ∃ rs : List Row, ds = [cellsD rs] ∧ total rs ≤ 500 ∧ d = .tuple (rngs rs)
theorem ok_ranges {f fd} (F : Fun M.K "cell_ranges" "cell_ranges" s_cell_ranges f fd) (b : Bl M) (dw : Dc M "row_width" ["row"] 1 (spF rWidth M.K)) : FnOk M.prog M.w M.K M.mg M.base CX0 2 f fd ["cells"] (spF rRanges M.K) := by
  refine fn_ok F sc_cell_ranges (fun vs H Q E h => ?_) (fun H vs Q E h => ?_)
  · obtain ⟨ds, d, h, ⟨rs, rfl, _⟩, _⟩ := h
    exact h.len
  obtain ⟨ds, d, h, ⟨rs, rfl, hl, rfl⟩, k⟩ := h
  obtain _ | ⟨hc, h⟩ := h
  cases h
  obtain ⟨a, xs, rfl, hxs, hrs⟩ := hc.tupE
  have hle := hrs.len
  rw [List.length_map] at hle
  tm_at "go"
  refine e_lstD ?_
  tm_at "go"
  refine ⟨by decide, fun l0 H0 s0 n0 g0 => ?_⟩
  tm_at "go"
  refine s_forT ?_
  tm_at "s"
  refine ⟨a, xs, rfl, (tp_same s0).sqt hxs, fun i σ1 H1 => ∃ (l : Addr) (us : List V) (v : Option V), σ1 = [some (.ref a), some (.ref l), v] ∧ Same H H1 ∧ H1 l = some (.lst us) ∧ DtAll M.K H1 us (rngs (rs.take i)), ⟨l0, [], _, rfl, s0, g0, .nil⟩, ?_, ?_, ?_⟩
  · rintro i σ' H' _ ⟨l, us, v, rfl, s, _⟩
    exact (tp_same s).sqt hxs
  · rintro i x σ' H' hx ⟨l, us, v, rfl, s, hl1, hu⟩
    obtain ⟨d, hd, hx'⟩ := hrs.getV hx
    rw [List.getElem?_map] at hd
    obtain ⟨r, hr, rfl⟩ := Option.map_eq_some_iff.mp hd
    have hw := width_le hr
    have hul := hu.len
    rw [rngs_len] at hul
    tm_at "go"
    refine e_lstD ?_
    tm_at "go"
    refine e_tupD ?_
    tm_at "go"
    refine tupend (by tm_at "dts") (Nat.le_of_ble_eq_true rfl) fun vp H2 s2 hp => ?_
    tm_at "go"
    refine ⟨(Nat.le_of_ble_eq_true rfl), fun l2 H3 s3 n3 g3 => ?_⟩
    tm_at "go"
    refine e_callF dw ?_
    tm_at "go"
    refine ⟨_, _, by tm_at "dts", ⟨r, rfl, rfl⟩, fun v' H4 s4 hv => ?_⟩
    cases hv
    refine ro_rep (s4 _ _ g3) (by omega) (Nat.le_of_ble_eq_true rfl) fun l5 H5 s5 n5 g5 => ?_
    have e5 : (List.replicate (((width r : Nat) : Int)).toNat [vp]).flatten = List.replicate (width r) vp := by
      rw [Int.toNat_natCast]
      induction width r with
      | zero => rfl
      | succ n ih => rw [List.replicate_succ, List.replicate_succ, List.flatten_cons, ih]; rfl
    rw [e5] at g5
    have s25 := s2.trans (s3.trans (s4.trans s5))
    refine ro_cat (s25 _ _ hl1) g5 (by rw [List.length_replicate]; omega) fun l6 H6 s6 n6 g6 => ?_
    refine ⟨l6, _, _, rfl, s.trans (s25.trans s6), g6, ?_⟩
    rw [rngs_snoc hr]
    exact (hu.mono (tp_same (s25.trans s6))).app (dt_rep (hp.mono (tp_same (s3.trans (s4.trans (s5.trans s6))))) _)
  · rintro σ' H' ⟨l, us, v, rfl, s, hl1, hu⟩
    rw [hle, List.take_length] at hu
    tm_at "go"
    refine rc_tupL (.of hl1) hu fun v2 H2 s2 h2 => ?_
    exact k _ _ (s.trans s2) h2
end K

namespace K
open PySem L2 G
variable {M : Md}
def rLRanges : List PyData → List PyData → Prop := fun ds es => ∃ rs : List Row, ds = [cellsD rs] ∧ total rs ≤ 500 ∧ es = rngs rs
theorem ok_lranges {f fd} (F : Fun M.K "_law_ranges" "_law_ranges" s__law_ranges f fd) (b : Bl M) : FnOk M.prog M.w M.K M.mg M.base CX0 1 f fd ["_law_rows_here"] (spL rLRanges M.K) := by
  refine fn_ok F sc__law_ranges (fun vs H Q E h => ?_) (fun H vs Q E h => ?_)
  · obtain ⟨ds, d, h, ⟨rs, rfl, _⟩, _⟩ := h
    exact h.len
  obtain ⟨ds, d, h, ⟨rs, rfl, hl, rfl⟩, k⟩ := h
  obtain _ | ⟨hc, h⟩ := h
  cases h
  obtain ⟨a, xs, rfl, hxs, hrs⟩ := hc.tupE
  have hle := hrs.len
  rw [List.length_map] at hle
  tm_at "go"
  refine e_lstD ?_
  tm_at "go"
  refine ⟨by decide, fun l H0 s0 n0 g0 => ?_⟩
  tm_at "go"
  refine s_forT ?_
  tm_at "s"
  refine ⟨a, xs, rfl, (tp_same s0).sqt hxs, fun i σ1 H1 => ∃ (us : List V) (v : Option V), σ1 = [some (.ref a), some (.ref l), v] ∧ Same H H1 ∧ H1 l = some (.lst us) ∧ DtAll M.K H1 us (rngs (rs.take i)), ⟨[], _, rfl, s0, g0, .nil⟩, ?_, ?_, ?_⟩
  · rintro i σ' H' _ ⟨us, v, rfl, s, _⟩
    exact (tp_same s).sqt hxs
  · rintro i x σ' H' hx ⟨us, v, rfl, s, hl1, hu⟩
    obtain ⟨d, hd, hx'⟩ := hrs.getV hx
    rw [List.getElem?_map] at hd
    obtain ⟨r, hr, rfl⟩ := Option.map_eq_some_iff.mp hd
    have hw := width_le hr
    have hul := hu.len
    rw [rngs_len] at hul
    tm_at "go"
    refine s_expr ?_
    refine e_ext ?_
    tm_at "go"
    refine ⟨l, _, rfl, hl1, ?_⟩
    tm_at "go"
    refine e_lstD ?_
    tm_at "go"
    refine e_tupD ?_
    tm_at "go"
    refine tupend (by tm_at "dts") (Nat.le_of_ble_eq_true rfl) fun vp H2 s2 hp => ?_
    tm_at "go"
    refine ⟨(Nat.le_of_ble_eq_true rfl), fun l2 H3 s3 n3 g3 => ?_⟩
    tm_at "go"
    have e : (if ((r.2.1 : Nat) : Int) > 1 then ((r.2.1 : Nat) : Int) else 1) = ((width r : Nat) : Int) := by unfold width; split <;> omega
    rw [e]
    refine ro_rep g3 (by omega) (Nat.le_of_ble_eq_true rfl) fun l5 H5 s5 n5 g5 => ?_
    have e5 : (List.replicate (((width r : Nat) : Int)).toNat [vp]).flatten = List.replicate (width r) vp := by
      rw [Int.toNat_natCast]
      induction width r with
      | zero => rfl
      | succ n ih => rw [List.replicate_succ, List.replicate_succ, List.flatten_cons, ih]; rfl
    rw [e5] at g5
    have s25 := s2.trans (s3.trans s5)
    have k6 := kp_upd (o' := .lst (us ++ List.replicate (width r) vp)) (s25 _ _ hl1) (fun _ e => nomatch e) (fun _ _ e => nomatch e)
    refine ⟨l5, _, _, rfl, s25 _ _ hl1, g5, by rw [List.length_replicate]; omega, ?_⟩
    refine ⟨_, _, rfl, same_mut (s.trans s25) n0, upd_same, ?_⟩
    rw [rngs_snoc hr]
    exact (hu.mono ((tp_same s25).trans k6.t)).app (dt_rep (hp.mono ((tp_same (s3.trans s5)).trans k6.t)) _)
  · rintro σ' H' ⟨us, v, rfl, s, hl1, hu⟩
    rw [hle, List.take_length] at hu
    tm_at "go"
    exact k _ _ _ s n0 hl1 hu

def preMenu : List PyData → Prop := fun ds => ds = []
def menus : List (List Str) := [["a", "at", "i", "x"], ["big", "if", "t", "when"], ["c", "rule", "set", "y"], ["b", "not", "s", "zzzzzzzz"]]
def rMenu : List PyData → PyData → Prop := fun ds d => ∃ m ∈ menus, d = .tuple (m.map .str)
theorem ok_menu {f fd} (F : Fun M.K "_law_menu" "_law_menu" s__law_menu f fd) (b : Bl M) (dd : Dc M "_law_draw" ["_law_feed_here", "_law_many"] 1 (spD preDraw rDraw M.K)) : FnOk M.prog M.w M.K M.mg M.base CX0 2 f fd ["_law_feed_here"] (spD preMenu rMenu M.K) := by
  refine fn_ok F sc__law_menu (spD_len (n := 0) (by rintro ds rfl; rfl)) (fun H vs Q E h => ?_)
  obtain ⟨fp, cl, rest, ds, rfl, hf, hds, rfl, k⟩ := h
  cases hds
  tm_at "go"
  refine e_lstD ?_
  tm_at "go"
  refine e_tupD ?_
  tm_at "go"
  refine tupend (by tm_at "dts") (Nat.le_of_ble_eq_true rfl) fun v1 H1 s1 h1 => ?_
  tm_at "go"
  refine e_tupD ?_
  tm_at "go"
  refine tupend (by tm_at "dts") (Nat.le_of_ble_eq_true rfl) fun v2 H2 s2 h2 => ?_
  tm_at "go"
  refine e_tupD ?_
  tm_at "go"
  refine tupend (by tm_at "dts") (Nat.le_of_ble_eq_true rfl) fun v3 H3 s3 h3 => ?_
  tm_at "go"
  refine ⟨(Nat.le_of_ble_eq_true rfl), fun l H4 s4 n4 g4 => ?_⟩
  tm_at "go"
  refine s_expr ?_
  refine e_ext ?_
  tm_at "go"
  refine ⟨l, _, rfl, g4, ?_⟩
  refine e_lstD ?_
  tm_at "go"
  refine e_tupD ?_
  tm_at "go"
  refine tupend (by tm_at "dts") (Nat.le_of_ble_eq_true rfl) fun v5 H5 s5 h5 => ?_
  tm_at "go"
  refine ⟨(Nat.le_of_ble_eq_true rfl), fun l6 H6 s6 n6 g6 => ?_⟩
  have s06 := s1.trans (s2.trans (s3.trans (s4.trans (s5.trans s6))))
  have k7 := kp_upd (o' := .lst ([v1, v2, v3] ++ [v5])) ((s5.trans s6) _ _ g4) (fun _ e => nomatch e) (fun _ _ e => nomatch e)
  refine ⟨l6, _, _, rfl, (s5.trans s6) _ _ g4, g6, (Nat.le_of_ble_eq_true rfl), ?_⟩
  have f7 := hf.same (same_mut (o := .lst ([v1, v2, v3] ++ [v5])) s06 (same_none (s1.trans (s2.trans s3)) n4))
  tm_at "go"
  refine e_callD dd ?_
  tm_at "go"
  refine ⟨fp, cl, _, _, rfl, f7, by tm_at "dts", ⟨4, rfl, by decide, by decide⟩, ?_⟩
  rintro d v H8 ⟨m, r, hm, rfl, r0, r1⟩ k8 f8 hv
  cases hm
  cases hv
  have nl : l ≠ fp := ne_feed hf (s1.trans (s2.trans s3)) n4
  have g8 := k8.k l _ nl (upd_same (o := .lst ([v1, v2, v3] ++ [v5])))
  have t8 := k7.t.trans k8.t
  refine rx_pick (ds := menus.map fun m => .tuple (m.map .str)) (.of g8) (.cons (h1.mono ((tp_same (s2.trans (s3.trans (s4.trans (s5.trans s6))))).trans t8)) (.cons (h2.mono ((tp_same (s3.trans (s4.trans (s5.trans s6)))).trans t8)) (.cons (h3.mono ((tp_same (s4.trans (s5.trans s6))).trans t8)) (.cons (h5.mono ((tp_same s6).trans t8)) .nil)))) r0 (by show r < 4; omega) fun v d hd hv => ?_
  rw [List.getElem?_map] at hd
  obtain ⟨m, hm, rfl⟩ := Option.map_eq_some_iff.mp hd
  exact k _ _ _ ⟨m, List.mem_of_getElem? hm, rfl⟩ ((kp_mut (kp_same s06) (same_none (s1.trans (s2.trans s3)) n4)).trans k8) f8 hv

def rPower : List PyData → PyData → Prop := fun ds d => ∃ (b : Int) (n : Nat), ds = [.int b, .int n] ∧ (0 ≤ b ∧ b ≤ 4) ∧ n ≤ 9 ∧ d = .int (b ^ n)
theorem ok_power {f fd} (F : Fun M.K "_law_power" "_law_power" s__law_power f fd) (b : Bl M) : FnOk M.prog M.w M.K M.mg M.base CX0 1 f fd ["_law_base", "_law_many"] (spF rPower M.K) := by
  refine fn_ok F sc__law_power (fun vs H Q E h => ?_) (fun H vs Q E h => ?_)
  · obtain ⟨ds, d, h, ⟨b, n, rfl, _⟩, _⟩ := h
    exact h.len
  obtain ⟨ds, d, h, ⟨bb, n, rfl, hb, hn, rfl⟩, k⟩ := h
  obtain _ | ⟨hc, h⟩ := h
  obtain _ | ⟨hd, h⟩ := h
  cases h
  cases hc
  cases hd
  tm_at "go"
  refine s_forR1 b.range ?_
  tm_at "go"
  refine ⟨by omega, by omega, fun i σ1 H1 => H1 = H ∧ ∃ v, σ1 = [some (.int bb), some (.int n), some (.int (bb ^ i)), v], ⟨rfl, _, by rw [Int.pow_zero]; rfl⟩, ?_, ?_⟩
  · rintro i σ' _ hi ⟨rfl, v, rfl⟩
    tm_at "go"
    refine ro_mul (.inr ⟨by omega, by omega⟩) ?_
    exact ⟨rfl, some (.int i), by rw [Int.pow_succ]; rfl⟩
  · rintro σ' _ ⟨rfl, v, rfl⟩
    rw [Int.toNat_natCast]
    tm_at "go"
    exact k _ _ (Same.refl _) (.int _)

/-! states -/
abbrev Rng := Int × Int
def rngD (p : Rng) : PyData := .tuple [.int p.1, .int p.2]
def rg (rs : List Row) : List Rng := rs.flatMap fun r => List.replicate (width r) (r.2.2.1, r.2.2.2.1)
theorem rngs_eq (rs : List Row) : rngs rs = (rg rs).map rngD := by
  unfold rngs rg
  induction rs with
  | nil => rfl
  | cons r rs ih =>
    rw [List.flatMap_cons, List.flatMap_cons, List.map_append, ih, List.map_replicate]
    rfl
abbrev St1 := List Int
def stD (s : St1) : PyData := .tuple (s.map .int)
def span (p : Rng) : Nat := (p.2 + 1 - p.1).toNat
def widen (acc : List St1) (p : Rng) : List St1 := acc.flatMap fun o => (List.range (span p)).map fun t : Nat => (o ++ [p.1 + (t : Int)] : St1)
def statesOf (ps : List Rng) : List St1 := ps.foldl widen [[]]
def many (ps : List Rng) : Nat := (ps.map span).foldl (· * ·) 1
theorem flat_len {α : Type} (n : Nat) (f : α → List St1) (h : ∀ a, (f a).length = n) : ∀ l : List α, (l.flatMap f).length = l.length * n
  | [] => by simp
  | a :: l => by rw [List.flatMap_cons, List.length_append, h, flat_len n f h l, List.length_cons, Nat.succ_mul, Nat.add_comm]
theorem widen_len (acc : List St1) (p : Rng) : (widen acc p).length = acc.length * span p := flat_len _ _ (fun _ => by simp) _
theorem foldl_len (ps : List Rng) : ∀ acc : List St1, (ps.foldl widen acc).length = (ps.map span).foldl (· * ·) acc.length := by
  induction ps with
  | nil => intro acc; rfl
  | cons p ps ih => intro acc; rw [List.foldl_cons, ih, widen_len, List.map_cons, List.foldl_cons]
theorem states_len (ps : List Rng) : (statesOf ps).length = many ps := foldl_len ps [[]]
theorem states_snoc {ps : List Rng} {i : Nat} {p : Rng} (h : ps[i]? = some p) : statesOf (ps.take (i + 1)) = widen (statesOf (ps.take i)) p := by
  obtain ⟨h1, rfl⟩ := List.getElem?_eq_some_iff.mp h
  rw [List.take_succ_eq_append_getElem h1, statesOf, List.foldl_append]
  rfl
theorem foldl_le (ns : List Nat) (h : ∀ n ∈ ns, 1 ≤ n) : ∀ m, m ≤ ns.foldl (· * ·) m := by
  induction ns with
  | nil => intro m; exact Nat.le_refl _
  | cons n ns ih =>
    intro m
    have h1 := h n (List.mem_cons_self ..)
    exact Nat.le_trans (Nat.le_mul_of_pos_right m h1) (ih (fun k hk => h k (List.mem_cons_of_mem _ hk)) _)
theorem many_take {ps : List Rng} (h : ∀ p ∈ ps, 1 ≤ span p) (i : Nat) : many (ps.take i) ≤ many ps := by
  have e : ps.map span = (ps.take i).map span ++ (ps.drop i).map span := by rw [← List.map_append, List.take_append_drop]
  unfold many
  rw [e, List.foldl_append]
  refine foldl_le _ (fun n hn => ?_) _
  obtain ⟨p, hp, rfl⟩ := List.mem_map.mp hn
  exact h p (List.mem_of_mem_drop hp)
theorem fold_mem (ps : List Rng) : ∀ (acc : List St1) (n : Nat), (∀ o ∈ acc, o.length = n) → ∀ o ∈ ps.foldl widen acc, o.length = n + ps.length := by
  induction ps with
  | nil => intro acc n h o ho; exact h o ho
  | cons p ps ih =>
    intro acc n h o ho
    have := ih (widen acc p) (n + 1) (fun o' ho' => by
      obtain ⟨o2, h2, h3⟩ := List.mem_flatMap.mp ho'
      obtain ⟨t, _, rfl⟩ := List.mem_map.mp h3
      rw [List.length_append, h o2 h2]; rfl) o ho
    rw [List.length_cons]; omega
theorem states_mem {ps : List Rng} {o : St1} (h : o ∈ statesOf ps) : o.length = ps.length := by
  have := fold_mem ps [[]] 0 (fun o h => by rw [List.mem_singleton.mp h]; rfl) o h
  omega
theorem widen_snoc {acc : List St1} {j : Nat} {o : St1} {p : Rng} (h : acc[j]? = some o) : widen (acc.take (j + 1)) p = widen (acc.take j) p ++ (List.range (span p)).map fun t : Nat => (o ++ [p.1 + (t : Int)] : St1) := by
  obtain ⟨h1, rfl⟩ := List.getElem?_eq_some_iff.mp h
  rw [List.take_succ_eq_append_getElem h1, widen, List.flatMap_append]
  simp [widen]
theorem rg_len (rs : List Row) : (rg rs).length = total rs := by rw [← rngs_len, rngs_eq, List.length_map]
/-- what is asked of the rows of a law's cells -/
structure Small (rs : List Row) : Prop where
  tot : total rs ≤ 10
  sp : ∀ p ∈ rg rs, 1 ≤ span p ∧ -10 ≤ p.1 ∧ p.2 ≤ 10
  many : many (rg rs) ≤ 256
def rStates : List PyData → List PyData → Prop := fun ds es => ∃ rs : List Row, ds = [cellsD rs] ∧ Small rs ∧ es = (statesOf (rg rs)).map stD
theorem ok_states {f fd} (F : Fun M.K "_law_states" "_law_states" s__law_states f fd) (b : Bl M) (dr : Dc M "_law_ranges" ["_law_rows_here"] 1 (spL rLRanges M.K)) : FnOk M.prog M.w M.K M.mg M.base CX0 2 f fd ["_law_rows_here"] (spL rStates M.K) := by
  refine fn_ok F sc__law_states (fun vs H Q E h => ?_) (fun H vs Q E h => ?_)
  · obtain ⟨ds, d, h, ⟨rs, rfl, _⟩, _⟩ := h
    exact h.len
  obtain ⟨ds, d, h, ⟨rs, rfl, sm, rfl⟩, k⟩ := h
  obtain _ | ⟨hc, h⟩ := h
  cases h
  tm_at "go"
  refine e_lstD ?_
  tm_at "go"
  refine e_tupD ?_
  tm_at "go"
  refine tupend .nil (Nat.le_of_ble_eq_true rfl) fun v0 H0 s0 h0 => ?_
  tm_at "go"
  refine ⟨(Nat.le_of_ble_eq_true rfl), fun l1 H1 s1 n1 g1 => ?_⟩
  tm_at "go"
  refine s_forL ?_
  refine e_callL dr ?_
  tm_at "go"
  refine ⟨_, _, by tm_at "dts", ⟨rs, rfl, Nat.le_trans sm.tot (by decide), rfl⟩, fun l2 us H2 s2 n2 g2 hu => ?_⟩
  have s02 := s0.trans (s1.trans s2)
  refine ⟨l2, us, rfl, .of g2, fun i σ1 H' => ∃ (lf : Addr) (fs : List V) (v2 v3 v4 v5 : Option V), σ1 = [_, some (.ref lf), v2, v3, v4, v5, none] ∧ H lf = none ∧ Same H2 H' ∧ H' lf = some (.lst fs) ∧ DtAll M.K H' fs ((statesOf ((rg rs).take i)).map stD), ⟨l1, _, _, _, _, _, rfl, same_none s0 n1, Same.refl _, s2 _ _ g1, .cons (h0.mono (tp_same (s1.trans s2))) .nil⟩, ?_, ?_, ?_⟩
  · rintro i σ' H' _ ⟨lf, fs, v2, v3, v4, v5, rfl, nf, s, _⟩
    exact .of (s _ _ g2)
  · rintro i x σ' H3 hx ⟨lf, fs, v2, v3, v4, v5, rfl, nf, s3, g3, h3⟩
    rw [rngs_eq] at hu
    obtain ⟨d, hd, hx'⟩ := hu.getV hx
    rw [List.getElem?_map] at hd
    obtain ⟨pr, hp, rfl⟩ := Option.map_eq_some_iff.mp hd
    obtain ⟨ap, xp, rfl, htp, hdp⟩ := (hx'.mono (tp_same s3)).tupE
    obtain _ | ⟨e1, hdp⟩ := hdp
    obtain _ | ⟨e2, hdp⟩ := hdp
    cases hdp
    cases e1
    cases e2
    refine g_tup htp (gs_cons (g_name (by tm_at "at") (gs_cons (g_name (by tm_at "at") (gs_nil ?_))))) 
    tm_at "go"
    refine e_lstD ?_
    tm_at "go"
    refine ⟨(Nat.le_of_ble_eq_true rfl), fun l4 H4 s4 n4 g4 => ?_⟩
    tm_at "go"
    refine s_forL ?_
    tm_at "go"
    have ws := widen_len (statesOf ((rg rs).take i)) pr
    refine ⟨lf, fs, rfl, .of (s4 _ _ g3), fun j σ1 H' => ∃ (ws : List V) (v5 : Option V), σ1 = [_, some (.ref lf), some (.int pr.1), some (.int pr.2), some (.ref l4), v5, none] ∧ Same H3 H' ∧ H' l4 = some (.lst ws) ∧ DtAll M.K H' ws ((widen ((statesOf ((rg rs).take i)).take j) pr).map stD), ⟨[], _, rfl, s4, g4, .nil⟩, ?_, ?_, ?_⟩
    · rintro j σ' H' _ ⟨ws, v5, rfl, s, _⟩
      exact .of (s _ _ g3)
    · rintro j y σ' H5 hy ⟨ws, v5, rfl, s5, g5, h5⟩
      obtain ⟨d, hd, hy'⟩ := h3.getV hy
      rw [List.getElem?_map] at hd
      obtain ⟨o, ho, rfl⟩ := Option.map_eq_some_iff.mp hd
      have spn := sm.sp pr (List.mem_of_getElem? hp)
      refine g_name (by tm_at "at") ?_
      tm_at "go"
      refine s_expr ?_
      refine e_ext ?_
      tm_at "go"
      refine ⟨l4, ws, rfl, g5, ?_⟩
      refine e_lc (own := [("_law_value", 6)]) (Blk.of (N := N__law_states) (sc := defScope s__law_states) rfl rfl (by decide +kernel)) ?_
      refine lcR2_F (fun t => some (stD (o ++ [t]))) b.range ?_
      tm_at "go"
      refine ⟨pr.1, pr.2 + 1, rfl, rfl, by unfold span at spn; omega, by unfold span at spn; omega, fun t H' ht sH => ?_, fun p us6 H6 s6 n6 g6 h6 => ?_⟩
      · refine g_name (by tm_at "at") ⟨rfl, rfl, ts_nil ⟨Same.refl _, ift ?_⟩⟩
        tm_at "go"
        refine e_tupD ?_
        tm_at "go"
        refine tupend (by tm_at "dts") (Nat.le_of_ble_eq_true rfl) fun vp H2 s2 hp => ?_
        have ol : o.length ≤ 100 := by
          have h1 := states_mem (List.mem_of_getElem? ho)
          have h2 : ((rg rs).take i).length ≤ (rg rs).length := by rw [List.length_take]; omega
          have h3 := sm.tot
          rw [rg_len] at h2
          omega
        refine ro_catT (hy'.mono (tp_same (s5.trans (sH.trans s2)))) hp (by simp; omega) fun v9 H9 s9 h9 => ?_
        refine ⟨s2.trans s9, _, rfl, ?_⟩
        rw [stD, List.map_append]
        exact h9
      · have k6 := kp_upd (o' := .lst (ws ++ us6)) (s6 _ _ g5) (fun _ e => nomatch e) (fun _ _ e => nomatch e)
        have lw := h5.len
        have lu := h6.len
        refine ⟨p, _, _, rfl, s6 _ _ g5, g6, ?_, ?_⟩
        · have b1 : (widen ((statesOf ((rg rs).take i)).take j) pr).length ≤ 256 := by
            rw [widen_len, List.length_take]
            refine Nat.le_trans (Nat.mul_le_mul_right _ (Nat.min_le_right _ _)) ?_
            rw [← widen_len, ← states_snoc hp, states_len]
            exact Nat.le_trans (many_take (fun p hp => (sm.sp p hp).1) _) sm.many
          have b2 := List.length_filterMap_le (fun t : Nat => some (stD (o ++ [pr.1 + (t : Int)]))) (List.range (pr.2 + 1 - pr.1).toNat)
          rw [List.length_range] at b2
          rw [List.length_map] at lw
          omega
        · refine ⟨_, _, rfl, same_mut (s5.trans s6) n4, upd_same, ?_⟩
          rw [widen_snoc ho, List.map_append]
          refine (h5.mono ((tp_same s6).trans k6.t)).app ?_
          have h6' := h6.mono k6.t
          rw [List.filterMap_eq_map'] at h6'
          rw [List.map_map]
          exact h6'
    · rintro σ' H5 ⟨ws, v5, rfl, s5, g5, h5⟩
      tm_at "go"
      have l3 := h3.len
      rw [l3, List.length_map, List.take_length, ← states_snoc hp] at h5
      exact ⟨l4, ws, _, _, _, _, rfl, same_none s02 (same_none s3 n4), s3.trans s5, g5, h5⟩
  · rintro σ' H3 ⟨lf, fs, v2, v3, v4, v5, rfl, nf, s3, g3, h3⟩
    tm_at "go"
    have l2 := hu.len
    rw [l2, rngs_len, ← rg_len, List.take_length] at h3
    exact k _ _ _ (s02.trans s3) nf g3 h3
end K

namespace K
open PySem L2 G
variable {M : Md}
theorem dtAll_mem {K : PySem.W.Frag} {H : Hp} {xs : List V} {ds : List PyData} (h : DtAll K H xs ds) {y : V} (hy : y ∈ xs) : ∃ d ∈ ds, Dt K H y d := by
  obtain ⟨i, hi⟩ := List.mem_iff_getElem?.mp hy
  obtain ⟨d, h1, h2⟩ := h.getV hi
  exact ⟨d, List.mem_of_getElem? h1, h2⟩
theorem dtAll_pick {K : PySem.W.Frag} {H : Hp} {xs : List V} {ds : List PyData} (h : DtAll K H xs ds) : ∀ ys : List V, (∀ y ∈ ys, y ∈ xs) → ∃ es, DtAll K H ys es ∧ ∀ e ∈ es, e ∈ ds
  | [], _ => ⟨[], .nil, fun _ h => nomatch h⟩
  | y :: ys, hy => by
    obtain ⟨d, hd, h1⟩ := dtAll_mem h (hy y (List.mem_cons_self ..))
    obtain ⟨es, h2, h3⟩ := dtAll_pick h ys fun z hz => hy z (List.mem_cons_of_mem _ hz)
    refine ⟨d :: es, .cons h1 h2, fun e he => ?_⟩
    rcases List.mem_cons.mp he with rfl | he
    · exact hd
    · exact h3 e he
/-- some of the states -/
def spSome (K : PySem.W.Frag) : Sp := fun vs H Q _ => ∃ a xs ds m, vs = [.ref a, .int m] ∧ (1 ≤ m ∧ m ≤ 1000) ∧ H a = some (.lst xs) ∧ DtAll K H xs ds ∧ ds.length ≤ 1000 ∧
  ∀ l us es H', Same H H' → H l = none → H' l = some (.lst us) → DtAll K H' us es → (∀ e ∈ es, e ∈ ds) → es.length ≤ 2 * ds.length → Q (.ref l) H'
def mea (s : Int) : Nat := if s % 6 = 0 then 1 else if s % 6 = 2 then 3 else if s % 6 = 3 then 2 else if s % 6 = 4 then 1 else 0
theorem mea_lt {s : Int} (h : s % 2 = 0 ∨ s % 3 = 0) : mea (s + 1) < mea s := by
  unfold mea
  have h1 : s % 6 = 0 ∨ s % 6 = 2 ∨ s % 6 = 3 ∨ s % 6 = 4 := by omega
  rcases h1 with e | e | e | e
  · rw [if_neg (by omega), if_neg (by omega), if_neg (by omega), if_neg (by omega), if_pos e]; decide
  · rw [if_neg (by omega), if_neg (by omega), if_pos (by omega), if_neg (by omega), if_pos e]; decide
  · rw [if_neg (by omega), if_neg (by omega), if_neg (by omega), if_pos (by omega), if_neg (by omega), if_neg (by omega), if_pos e]; decide
  · rw [if_neg (by omega), if_neg (by omega), if_neg (by omega), if_neg (by omega), if_neg (by omega), if_neg (by omega), if_neg (by omega), if_pos e]; decide
theorem ok_some {f fd} (F : Fun M.K "_law_some" "_law_some" s__law_some f fd) (b : Bl M) : FnOk M.prog M.w M.K M.mg M.base CX0 1 f fd ["_law_states_now", "_law_most"] (spSome M.K) := by
  refine fn_ok F sc__law_some (fun vs H Q E h => ?_) (fun H vs Q E h => ?_)
  · obtain ⟨a, xs, ds, m, rfl, _⟩ := h
    rfl
  obtain ⟨a, xs, ds, m, rfl, hm, ha, hd, hl, k⟩ := h
  have hle := hd.len
  tm_at "go"
  refine rc_lenL (.of ha) ?_
  tm_at "go"
  refine ro_div (by omega) (by omega) ?_
  tm_at "go"
  have q0 : 0 ≤ (xs.length : Int) / m := Int.ediv_nonneg (by omega) (by omega)
  refine s_while (fun n σ1 H1 => H1 = H ∧ ∃ s : Int, 1 ≤ s ∧ n = mea s ∧ σ1 = [some (.ref a), some (.int m), some (.int s)]) (mea (1 + (xs.length : Int) / m)) ⟨rfl, _, by omega, rfl, rfl⟩ ?_
  · rintro n σ1 _ ⟨rfl, s, s1, rfl, rfl⟩
    tm_at "go"
    refine ro_mod (by decide) ?_
    tm_at "go"
    refine ifd (fun c1 => ?_) (fun c1 => ?_)
    · refine ift ?_
      tm_at "go"
      exact ⟨_, mea_lt (.inl c1), rfl, _, by omega, rfl, rfl⟩
    · tm_at "go"
      refine ro_mod (by decide) ?_
      tm_at "go"
      refine ifd (fun c2 => ?_) (fun c2 => ?_)
      · tm_at "go"
        exact ⟨_, mea_lt (.inr c2), rfl, _, by omega, rfl, rfl⟩
      · tm_at "go"
        refine ⟨a, xs, rfl, .of ha, fun e => ?_, fun p ys H5 s5 n5 g5 m5 l5 => ?_⟩
        · cases e; omega
        tm_at "go"
        refine rsl_list (.of (s5 _ _ ha)) fun p6 H6 s6 n6 g6 => ?_
        have l6 := cutV_length xs (some (-1)) none
        refine ro_cat (s6 _ _ g5) g6 (by omega) fun p7 H7 s7 n7 g7 => ?_
        obtain ⟨es, h7, m7⟩ := dtAll_pick (hd.mono (tp_same (s5.trans (s6.trans s7)))) (ys ++ cutV xs (some (-1)) none) (fun y hy => by
          rcases List.mem_append.mp hy with hy | hy
          · exact m5 y hy
          · exact List.mem_of_mem_drop (List.mem_of_mem_take hy))
        have l7 := h7.len
        rw [List.length_append] at l7
        exact k _ _ es _ (s5.trans (s6.trans s7)) (same_none (s5.trans s6) n7) g7 h7 m7 (by omega)
end K

namespace G
open PySem PySem.Spec PyProof.Rows L2
theorem iff0 {A B : Prop} (b : B) : if false = true then A else B := b
section
variable {c : Cd} {σ : L2.St} {H : Hp} {Q : VK} {pos : Pos} {x y : V}
def cutD {α : Type} (xs : List α) (lo hi : Option Int) : List α := (xs.drop (HT.sIx xs.length 0 lo)).take (HT.sIx xs.length xs.length hi - HT.sIx xs.length 0 lo)
theorem rsl_tup {ds : List PyData} {lo hi : Option Int} (hx : Dt c.K H x (.tuple ds)) (q : ∀ v H2, Same H H2 → Dt c.K H2 v (.tuple (cutD ds lo hi)) → Q v H2) : RSl c x lo hi H Q := by
  obtain ⟨a, xs, rfl, ht, hd⟩ := hx.tupE
  have hl := hd.len
  have hc : DtAll c.K H (cutV xs lo hi) (cutD ds lo hi) := by
    unfold cutV cutD
    rw [hl]
    exact DtAll.take _ (DtAll.drop _ hd)
  refine rsl_of (r := rSlA c.K) (fun X h => by rw [← h.K]; exact sl_tupA) ⟨a, xs, rfl, ht, fun e => ?_, fun _ p hp => q _ _ (same_new hp) (.tup (.of upd_same) (hc.mono (tp_same (same_new hp))))⟩
  refine q _ _ (Same.refl _) ?_
  have e2 : cutD ds lo hi = ds := by
    unfold cutD
    rw [← hl, e.1, e.2]
    simp [hl]
  rw [e2]
  exact hx
end
end G
namespace K
open PySem L2 G
variable {M : Md}
section
variable {c : Cd} {σ : L2.St} {H : Hp} {Q : VK} {pos : Pos}
theorem e_draw (D : Dc c.toMd "_law_draw" ["_law_feed_here", "_law_many"] 1 (spD preDraw rDraw c.K)) {e1 e2 : Expr} {p : Pos} (q : RE c e1 σ H fun x H1 => RE c e2 σ H1 fun y H2 => ∃ (fp cl : Addr) (m : Int), x = .ref fp ∧ y = .int m ∧ (0 < m ∧ m < 1000) ∧ Feed c.K H2 fp cl ∧ ∀ r H3, 0 ≤ r → r < m → Kp fp H2 H3 → Feed c.K H3 fp cl → Q (.int r) H3)
    (hk : 1 ≤ c.k := by exact Nat.le_of_ble_eq_true rfl) (hg : c.sc.names.lookup ("_law_draw" : Str) = some .globalImplicit := by rfl) (h1 : ∀ env, starEach [e1, e2] env = (false, eval e1 env) :: starEach [e2] env := by intro _; rfl) (h2 : ∀ env, starEach [e2] env = (false, eval e2 env) :: starEach [] env := by intro _; rfl) (hpl : ∀ env, (backTo pos (starEach [e2] env)).any (·.1) = false := by intro _; rfl) :
    RE c (.Call (.Name "_law_draw" p) [e1, e2] [] pos) σ H Q := by
  refine e_callD D (a_cons (RE.mono (fun x H1 z => a_cons (RE.mono (fun y H2 z => a_nil ?_) z) h2) q) h1) hk hg (by decide) h1 hpl
  obtain ⟨fp, cl, m, rfl, rfl, hm, hf, k⟩ := z
  refine ⟨fp, cl, _, _, rfl, hf, .cons (.int m) .nil, ⟨m, rfl, hm⟩, ?_⟩
  rintro d v H3 ⟨m', r, hm', rfl, r0, r1⟩ k3 f3 hv
  cases hm'
  cases hv
  exact k r H3 r0 r1 k3 f3
end
def nameOf (r : Row) : Str := r.1
structure RowOk (r : Row) : Prop where
  size : r.2.1 ≤ 3
  lo : -2 ≤ r.2.2.1
  lh : r.2.2.1 ≤ r.2.2.2.1
  hi : r.2.2.2.1 ≤ r.2.2.1 + 3
  lo1 : r.2.2.1 ≤ 1
  fst : r.2.2.1 ≤ r.2.2.2.2.2.2 ∧ r.2.2.2.2.2.2 ≤ r.2.2.2.1
  giv : r.2.2.2.2.1 = true → r.2.2.2.2.2.2 = r.2.2.1
structure Rows3 (most : Nat) (rs : List Row) : Prop where
  ok : ∀ r ∈ rs, RowOk r
  nm : ∃ m ∈ menus, (rs.map nameOf).Sublist m
  len : rs.length = 3
  many : many (rg rs) ≤ most
def preRows : List PyData → Prop := fun ds => ∃ most : Nat, ds = [.int most] ∧ 1 ≤ most ∧ most ≤ 100
def rRows : List PyData → PyData → Prop := fun ds d => ∃ (most : Nat) (rs : List Row), ds = [.int most] ∧ d = cellsD rs ∧ Rows3 most rs
/-- within: the feed goes on, the list stays -/
structure In (K : PySem.W.Frag) (fp cl l : Addr) (us : List V) (H H' : Hp) : Prop where
  kp : Kp fp H H'
  fd : Feed K H' fp cl
  nc : l ≠ cl
  g : H' l = some (.lst us)
  n : H l = none
  ne : l ≠ fp
theorem In.draw {K : PySem.W.Frag} {fp cl l : Addr} {us : List V} {H H1 H2 : Hp} (i : In K fp cl l us H H1) (k : Kp fp H1 H2) (f : Feed K H2 fp cl) : In K fp cl l us H H2 := ⟨i.kp.trans k, f, i.nc, k.k _ _ i.ne i.g, i.n, i.ne⟩
theorem In.same {K : PySem.W.Frag} {fp cl l : Addr} {us : List V} {H H1 H2 : Hp} (i : In K fp cl l us H H1) (s : Same H1 H2) : In K fp cl l us H H2 := ⟨i.kp.trans (kp_same s), i.fd.same s, i.nc, s _ _ i.g, i.n, i.ne⟩
theorem many_app (ps qs : List Rng) : many (ps ++ qs) = many ps * many qs := by
  unfold many
  rw [List.map_append, List.foldl_append]
  have h : ∀ (ns : List Nat) (a : Nat), ns.foldl (· * ·) a = a * ns.foldl (· * ·) 1 := by
    intro ns
    induction ns with
    | nil => intro a; simp
    | cons n ns ih => intro a; rw [List.foldl_cons, List.foldl_cons, ih (a * n), ih (1 * n), Nat.one_mul, Nat.mul_assoc]
  exact h _ _
theorem many_rep (n : Nat) (p : Rng) : many (List.replicate n p) = span p ^ n := by
  induction n with
  | zero => rfl
  | succ n ih =>
    rw [List.replicate_succ, show p :: List.replicate n p = [p] ++ List.replicate n p from rfl, many_app, ih, Nat.pow_succ, Nat.mul_comm]
    congr 1
    exact Nat.one_mul _
theorem many_row (rs : List Row) (r : Row) : many (rg (rs ++ [r])) = many (rg rs) * span (r.2.2.1, r.2.2.2.1) ^ width r := by
  have : rg (rs ++ [r]) = rg rs ++ List.replicate (width r) (r.2.2.1, r.2.2.2.1) := by simp [rg, List.flatMap_append]
  rw [this, many_app, many_rep]
theorem dtInts {K : PySem.W.Frag} {H : Hp} : ∀ ns : List Int, DtAll K H (ns.map V.int) (ns.map PyData.int)
  | [] => .nil
  | n :: ns => .cons (.int n) (dtInts ns)
theorem dtStrs {K : PySem.W.Frag} {H : Hp} : ∀ ns : List Str, DtAll K H (ns.map V.str) (ns.map PyData.str)
  | [] => .nil
  | n :: ns => .cons (.str n) (dtStrs ns)
theorem cutD_sub {α : Type} (xs : List α) (lo hi : Option Int) : (cutD xs lo hi).Sublist xs := (List.take_sublist _ _).trans (List.drop_sublist _ _)
theorem cutD_map {α β : Type} (g : α → β) (xs : List α) (lo hi : Option Int) : cutD (xs.map g) lo hi = (cutD xs lo hi).map g := by
  unfold cutD
  rw [List.length_map, List.map_take, List.map_drop]
set_option maxHeartbeats 1000000 in
theorem ok_rows {f fd} (F : Fun M.K "_law_rows" "_law_rows" s__law_rows f fd) (b : Bl M) (dd : Dc M "_law_draw" ["_law_feed_here", "_law_many"] 1 (spD preDraw rDraw M.K)) (dm : Dc M "_law_menu" ["_law_feed_here"] 2 (spD preMenu rMenu M.K)) (dp : Dc M "_law_power" ["_law_base", "_law_many"] 1 (spF rPower M.K)) :
    FnOk M.prog M.w M.K M.mg M.base CX0 3 f fd ["_law_feed_here", "_law_most"] (spD preRows rRows M.K) := by
  refine fn_ok F sc__law_rows (spD_len (n := 1) (by rintro ds ⟨_, rfl, _⟩; rfl)) (fun H vs Q E h => ?_)
  obtain ⟨fp, cl, rest, ds, rfl, hf, hds, ⟨most, rfl, m1, m2⟩, k⟩ := h
  obtain _ | ⟨hm, hds⟩ := hds
  cases hds
  cases hm
  tm_at "go"
  refine e_lstD ?_
  tm_at "go"
  refine ⟨by decide, fun l H1 s1 n1 g1 => ?_⟩
  tm_at "go"
  have i1 : In M.K fp cl l [] H H1 := ⟨kp_same s1, hf.same s1, ne_cl hf (Same.refl _) n1, g1, n1, ne_feed hf (Same.refl _) n1⟩
  refine s_forT ?_
  tm_at "go"
  refine e_callD dm ?_
  tm_at "go"
  refine ⟨fp, cl, _, _, rfl, i1.fd, .nil, rfl, ?_⟩
  rintro d vm H2 ⟨mn, hmn, rfl⟩ k2 f2 hvm
  tm_at "go"
  have i2 := i1.draw k2 f2
  refine e_draw dd ?_
  tm_at "go"
  refine ⟨fp, cl, _, rfl, rfl, by decide, i2.fd, fun r H3 r0 r1 k3 f3 => ?_⟩
  have i3 := i2.draw k3 f3
  tm_at "go"
  refine rsl_tup (hvm.mono k3.t) fun vn H4 s4 hvn => ?_
  have i4 := i3.same s4
  rw [cutD_map] at hvn
  have sub : (cutD mn (some r) none).Sublist mn := cutD_sub _ _ _
  have long : 3 ≤ (cutD mn (some r) none).length := by
    have h : ∀ m ∈ menus, 3 ≤ (cutD m (some 0) none).length ∧ 3 ≤ (cutD m (some 1) none).length := by decide +kernel
    have hr : r = 0 ∨ r = 1 := by omega
    rcases hr with rfl | rfl
    · exact (h mn hmn).1
    · exact (h mn hmn).2
  generalize cutD mn (some r) none = nms at *
  obtain ⟨a, xs, rfl, hxs, hns⟩ := hvn.tupE
  have hle := hns.len
  rw [List.length_map] at hle
  refine ⟨a, xs, rfl, hxs, fun i σ1 H' => ∃ (rs : List Row) (us : List V) (had : Bool) (v5 v6 v7 v8 v9 v10 v11 : Option V), σ1 = [some (.ref fp), some (.int most), some (.ref l), some (.int (many (rg rs))), some (.bl had), v5, v6, v7, v8, v9, v10, v11] ∧ Tp H4 H' ∧ In M.K fp cl l us H H' ∧ DtAll M.K H' us (rs.map rowD) ∧
    (∀ r ∈ rs, RowOk r) ∧ (rs.map nameOf).Sublist (nms.take i) ∧ rs.length = min i 3 ∧ many (rg rs) ≤ most, ⟨[], [], false, _, _, _, _, _, _, _, rfl, Tp.refl _, i4, .nil, (fun _ h => nomatch h), .slnil, rfl, m1⟩, ?_, ?_, ?_⟩
  · rintro i σ' H' _ ⟨rs, us, had, v5, v6, v7, v8, v9, v10, v11, rfl, t, _⟩
    exact t.sqt hxs
  · rintro i x σ' H5 hx ⟨rs, us, had, v5, v6, v7, v8, v9, v10, v11, rfl, t5, i5, h5, ok5, sub5, len5, many5⟩
    obtain ⟨d, hd, hx'⟩ := hns.getV hx
    rw [List.getElem?_map] at hd
    obtain ⟨nm, hnm, rfl⟩ := Option.map_eq_some_iff.mp hd
    cases hx'
    refine g_name (by tm_at "at") ?_
    refine b_cut (fun σ1 H' => ∃ sz : Nat, sz ≤ 3 ∧ σ1 = [some (.ref fp), some (.int most), some (.ref l), some (.int (many (rg rs))), some (.bl had), some (.str nm), some (.int sz), v7, v8, v9, v10, v11] ∧ Kp fp H5 H' ∧ In M.K fp cl l us H H') ?_ ?_
    · tm_at "go"
      refine t_val ?_
      tm_at "go"
      cases had with
      | true =>
        refine iff0 ?_
        refine iff0 ?_
        tm_at "go"
        exact ⟨0, by decide, rfl, Kp.refl _ _, i5⟩
      | false =>
        refine ift ?_
        tm_at "go"
        refine e_draw dd ?_
        tm_at "go"
        refine ⟨fp, cl, _, rfl, rfl, by decide, i5.fd, fun r6 H6 r60 r61 k6 f6 => ?_⟩
        have i6 := i5.draw k6 f6
        tm_at "go"
        refine ifd (fun c1 => ?_) (fun c1 => ?_)
        · tm_at "go"
          refine e_draw dd ?_
          tm_at "go"
          refine ⟨fp, cl, _, rfl, rfl, by decide, i6.fd, fun r7 H7 r70 r71 k7 f7 => ?_⟩
          have i7 := i6.draw k7 f7
          tm_at "go"
          exact ⟨(1 + r7).toNat, by omega, by rw [show (((1 + r7).toNat : Nat) : Int) = 1 + r7 by omega]; rfl, k6.trans k7, i7⟩
        · tm_at "go"
          exact ⟨0, by decide, rfl, k6, i6⟩
    rintro _ H6 ⟨sz, sz3, rfl, k6, i6⟩
    refine b_cut (fun σ1 H' => ∃ wd : Nat, (1 ≤ wd ∧ wd ≤ 4) ∧ σ1 = [some (.ref fp), some (.int most), some (.ref l), some (.int (many (rg rs))), some (.bl had), some (.str nm), some (.int sz), some (.int wd), v8, v9, v10, v11] ∧ Kp fp H5 H' ∧ In M.K fp cl l us H H') ?_ ?_
    · tm_at "go"
      refine e_lstD ?_
      tm_at "go"
      refine ⟨(Nat.le_of_ble_eq_true rfl), fun lw H7 s7 n7 g7 => ?_⟩
      have i7 := i6.same s7
      tm_at "go"
      refine e_draw dd ?_
      tm_at "go"
      refine ⟨fp, cl, _, rfl, rfl, by decide, i7.fd, fun r8 H8 r80 r81 k8 f8 => ?_⟩
      have i8 := i7.draw k8 f8
      have nw : lw ≠ fp := ne_feed i6.fd (Same.refl _) n7
      refine rx_pick (ds := ([2, 3, 4, 2, 1] : List Int).map .int) (.of (k8.k _ _ nw g7)) (dtInts [2, 3, 4, 2, 1]) r80 r81 fun v d hd hv => ?_
      rw [List.getElem?_map] at hd
      obtain ⟨wd, hw, rfl⟩ := Option.map_eq_some_iff.mp hd
      have hw' : wd ∈ ([2, 3, 4, 2, 1] : List Int) := List.mem_of_getElem? hw
      have hb : 1 ≤ wd ∧ wd ≤ 4 := by
        rcases List.mem_cons.mp hw' with rfl | hw'
        · decide
        rcases List.mem_cons.mp hw' with rfl | hw'
        · decide
        rcases List.mem_cons.mp hw' with rfl | hw'
        · decide
        rcases List.mem_cons.mp hw' with rfl | hw'
        · decide
        rcases List.mem_cons.mp hw' with rfl | hw'
        · decide
        cases hw'
      cases hv
      exact ⟨wd.toNat, by omega, by rw [show ((wd.toNat : Nat) : Int) = wd by omega]; rfl, k6.trans ((kp_same s7).trans k8), i8⟩
    rintro _ H7 ⟨wd, hwd, rfl, k7, i7⟩
    refine b_cut (fun σ1 H' => ∃ sz wd : Nat, sz ≤ 3 ∧ (1 ≤ wd ∧ wd ≤ 4) ∧ many (rg rs) * wd ^ max 1 sz ≤ most ∧ σ1 = [some (.ref fp), some (.int most), some (.ref l), some (.int (many (rg rs))), some (.bl had), some (.str nm), some (.int sz), some (.int wd), v8, v9, v10, v11] ∧ Kp fp H5 H' ∧ In M.K fp cl l us H H') ?_ ?_
    · tm_at "go"
      refine e_callF dp ?_
      tm_at "go"
      have e1 : (if ((sz : Nat) : Int) > 1 then ((sz : Nat) : Int) else 1) = ((max 1 sz : Nat) : Int) := by split <;> omega
      rw [e1]
      refine ⟨_, _, by tm_at "dts", ⟨wd, max 1 sz, rfl, by omega, by omega, rfl⟩, fun v H8 s8 hv => ?_⟩
      cases hv
      have i8 := i7.same s8
      refine ro_mul (.inl ⟨by omega, by omega⟩) ?_
      tm_at "go"
      have e2 : ((many (rg rs) : Nat) : Int) * ((wd : Nat) : Int) ^ max 1 sz = ((many (rg rs) * wd ^ max 1 sz : Nat) : Int) := by rw [Int.natCast_mul, Int.natCast_pow]
      rw [e2]
      refine ifd (fun c1 => ?_) (fun c1 => ?_)
      · tm_at "go"
        refine ro_mul (.inr ⟨by decide, by decide⟩) ?_
        tm_at "go"
        refine ifd (fun c2 => ?_) (fun c2 => ?_)
        · tm_at "go"
          exact ⟨0, 2, by decide, by decide, by rw [show max 1 0 = 1 from rfl, Nat.pow_one]; omega, rfl, k7.trans (kp_same s8), i8⟩
        · tm_at "go"
          exact ⟨0, 1, by decide, by decide, by rw [show max 1 0 = 1 from rfl, Nat.pow_one]; omega, rfl, k7.trans (kp_same s8), i8⟩
      · tm_at "go"
        exact ⟨sz, wd, sz3, hwd, by omega, rfl, k7.trans (kp_same s8), i8⟩
    clear sz3 hwd k6 i6 k7 i7
    clear wd sz
    rintro _ H8 ⟨sz, wd, sz3, hwd, hmany, rfl, k8, i8⟩
    refine b_cut (fun σ1 H' => ∃ (lo : Int) (gv sh : Bool), (-2 ≤ lo ∧ lo ≤ 1) ∧ σ1 = [some (.ref fp), some (.int most), some (.ref l), some (.int (many (rg rs))), some (.bl had), some (.str nm), some (.int sz), some (.int wd), some (.int lo), some (.bl gv), some (.bl sh), v11] ∧ Kp fp H5 H' ∧ In M.K fp cl l us H H') ?_ ?_
    · tm_at "go"
      refine e_draw dd ?_
      tm_at "go"
      refine ⟨fp, cl, _, rfl, rfl, by decide, i8.fd, fun r9 H9 r90 r91 k9 f9 => ?_⟩
      have i9 := i8.draw k9 f9
      tm_at "go"
      refine e_draw dd ?_
      tm_at "go"
      refine ⟨fp, cl, _, rfl, rfl, by decide, i9.fd, fun ra Ha ra0 ra1 ka fa => ?_⟩
      have ia := i9.draw ka fa
      tm_at "go"
      refine e_draw dd ?_
      tm_at "go"
      refine ⟨fp, cl, _, rfl, rfl, by decide, ia.fd, fun rb Hb rb0 rb1 kb fb => ?_⟩
      have ib := ia.draw kb fb
      tm_at "go"
      exact ⟨r9 - 2, _, _, by omega, rfl, k8.trans (k9.trans (ka.trans kb)), ib⟩
    clear k8 i8
    rintro _ H9 ⟨lo, gv, sh, hlo, rfl, k9, i9⟩
    refine b_cut (fun σ1 H' => ∃ fs : Int, (lo ≤ fs ∧ fs ≤ lo + wd - 1 ∧ (gv = true → fs = lo)) ∧ σ1 = [some (.ref fp), some (.int most), some (.ref l), some (.int (many (rg rs))), some (.bl had), some (.str nm), some (.int sz), some (.int wd), some (.int lo), some (.bl gv), some (.bl sh), some (.int fs)] ∧ Kp fp H5 H' ∧ In M.K fp cl l us H H') ?_ ?_
    · tm_at "go"
      refine t_val ?_
      tm_at "go"
      cases gv with
      | true =>
        refine ift ?_
        tm_at "go"
        exact ⟨lo, ⟨Int.le_refl _, by omega, fun _ => rfl⟩, rfl, k9, i9⟩
      | false =>
        refine iff0 ?_
        tm_at "go"
        refine e_draw dd ?_
        tm_at "go"
        refine ⟨fp, cl, _, rfl, rfl, by omega, i9.fd, fun ra Ha ra0 ra1 ka fa => ?_⟩
        tm_at "go"
        exact ⟨lo + ra, ⟨by omega, by omega, fun e => nomatch e⟩, rfl, k9.trans ka, i9.draw ka fa⟩
    clear k9 i9
    rintro _ H9 ⟨fs, hfs, rfl, k9, i9⟩
    have hul := h5.len
    rw [List.length_map] at hul
    tm_at "go"
    refine rc_lenL (.of i9.g) ?_
    tm_at "go"
    refine ifd (fun c1 => ?_) (fun c1 => ?_)
    · refine b_cut (fun σ1 H' => ∃ us', σ1 = [some (.ref fp), some (.int most), some (.ref l), some (.int (many (rg rs))), some (.bl had), some (.str nm), some (.int sz), some (.int wd), some (.int lo), some (.bl gv), some (.bl sh), some (.int fs)] ∧ Tp H4 H' ∧ In M.K fp cl l us' H H' ∧ DtAll M.K H' us' ((rs ++ [(nm, sz, lo, lo + wd - 1, gv, sh, fs)]).map rowD)) ?_ ?_
      · refine s_expr ?_
        refine e_app ?_
        tm_at "go"
        refine ⟨l, _, rfl, i9.g, ?_⟩
        refine e_tupD ?_
        tm_at "go"
        refine tupend (ds := [.str nm, .int sz, .int lo, .int (lo + wd - 1), .bool gv, .bool sh, .int fs]) (by tm_at "dts") (Nat.le_of_ble_eq_true rfl) fun v H10 s10 hv => ?_
        have i10 := i9.same s10
        have ku := kp_upd (o' := .lst (us ++ [v])) i10.g (fun _ e => nomatch e) (fun _ _ e => nomatch e)
        refine ⟨us, i10.g, by omega, us ++ [v], rfl, t5.trans (k9.t.trans ((tp_same s10).trans ku.t)), ⟨kp_mut i10.kp i10.n, i10.fd.upd i10.ne i10.nc, i10.nc, upd_same, i10.n, i10.ne⟩, ?_⟩
        · rw [List.map_append]
          exact (h5.mono (k9.t.trans ((tp_same s10).trans ku.t))).app (.cons (hv.mono ku.t) .nil)
      rintro _ Ha ⟨us', rfl, ta, ia, ha⟩
      tm_at "go"
      refine e_callF dp ?_
      tm_at "go"
      have e1 : (if ((sz : Nat) : Int) > 1 then ((sz : Nat) : Int) else 1) = ((max 1 sz : Nat) : Int) := by split <;> omega
      rw [e1]
      refine ⟨_, _, by tm_at "dts", ⟨wd, max 1 sz, rfl, by omega, by omega, rfl⟩, fun v Hb sb hv => ?_⟩
      cases hv
      have ib := ia.same sb
      refine ro_mul (.inl ⟨by omega, by omega⟩) ?_
      have e2 : ((many (rg rs) : Nat) : Int) * ((wd : Nat) : Int) ^ max 1 sz = ((many (rg rs) * wd ^ max 1 sz : Nat) : Int) := by rw [Int.natCast_mul, Int.natCast_pow]
      have e3 : many (rg (rs ++ [(nm, sz, lo, lo + wd - 1, gv, sh, fs)])) = many (rg rs) * wd ^ max 1 sz := by
        rw [many_row]
        congr 1
        show (lo + wd - 1 + 1 - lo).toNat ^ max 1 sz = _
        congr 1
        omega
      rw [e2, ← e3]
      have sub' : ((rs ++ [((nm, sz, lo, lo + wd - 1, gv, sh, fs) : Row)]).map nameOf).Sublist (nms.take (i + 1)) := by
        obtain ⟨z1, z2⟩ := List.getElem?_eq_some_iff.mp hnm
        rw [List.take_succ_eq_append_getElem z1, z2, List.map_append]
        exact sub5.append (List.Sublist.refl _)
      have ok' : ∀ r ∈ rs ++ [((nm, sz, lo, lo + wd - 1, gv, sh, fs) : Row)], RowOk r := by
        intro r hr
        rcases List.mem_append.mp hr with hr | hr
        · exact ok5 r hr
        · rw [List.mem_singleton.mp hr]
          exact ⟨sz3, hlo.1, by show lo ≤ lo + wd - 1; omega, by show lo + wd - 1 ≤ lo + 3; omega, hlo.2, ⟨hfs.1, hfs.2.1⟩, hfs.2.2⟩
      have len' : (rs ++ [((nm, sz, lo, lo + wd - 1, gv, sh, fs) : Row)]).length = min (i + 1) 3 := by rw [List.length_append, List.length_singleton]; omega
      tm_at "go"
      refine ifb (fun e => ?_) (fun e => ?_)
      · exact ⟨_, us', true, _, _, _, _, _, _, _, rfl, ta.trans (tp_same sb), ib, ha.mono (tp_same sb), ok', sub', len', by rw [e3]; exact hmany⟩
      · tm_at "go"
        exact ⟨_, us', _, _, _, _, _, _, _, _, rfl, ta.trans (tp_same sb), ib, ha.mono (tp_same sb), ok', sub', len', by rw [e3]; exact hmany⟩
    · tm_at "go"
      exact ⟨rs, us, had, _, _, _, _, _, _, _, rfl, t5.trans k9.t, i9, h5.mono k9.t, ok5, sub5.trans (List.take_sublist_take_left (Nat.le_succ i)), by omega, many5⟩
  · rintro σ' H5 ⟨rs, us, had, v5, v6, v7, v8, v9, v10, v11, rfl, t5, i5, h5, ok5, sub5, len5, many5⟩
    tm_at "go"
    refine rc_tupL (.of i5.g) h5 fun v2 H6 s6 h6 => ?_
    have i6 := i5.same s6
    refine k _ _ _ ⟨most, rs, rfl, rfl, ok5, ⟨mn, hmn, (sub5.trans (List.take_sublist _ _)).trans sub⟩, by omega, many5⟩ i6.kp i6.fd h6
end K

namespace G
open PySem PySem.Spec PyProof.Rows L2
structure Shp (n : Nat) (d : PyData) : Prop where
  lay : PyData.canLay0 d = true
  dep : PyData.depth d ≤ n
theorem shp_all {n : Nat} : ∀ {ds : List PyData}, (∀ d ∈ ds, Shp n d) → PyData.canLayAll0 ds = true ∧ PyData.depthAll ds ≤ n
  | [], _ => ⟨by simp [PyData.canLayAll0], by simp [PyData.depthAll]⟩
  | d :: ds, h => by
    have h1 := h d (List.mem_cons_self ..)
    have h2 := shp_all fun e he => h e (List.mem_cons_of_mem _ he)
    refine ⟨by simp [PyData.canLayAll0, h1.lay, h2.1], ?_⟩
    simp only [PyData.depthAll]
    have := h1.dep
    have := h2.2
    omega
theorem shp_tup {n : Nat} {ds : List PyData} (h : ∀ d ∈ ds, Shp n d) : Shp (n + 1) (.tuple ds) := by
  have := shp_all h
  exact ⟨by simp only [PyData.canLay0]; exact this.1, by simp only [PyData.depth]; omega⟩
theorem shp_lst {n : Nat} {ds : List PyData} (h : ∀ d ∈ ds, Shp n d) : Shp (n + 1) (.list ds) := by
  have := shp_all h
  exact ⟨by simp only [PyData.canLay0]; exact this.1, by simp only [PyData.depth]; omega⟩
theorem shp_int {n : Nat} (i : Int) : Shp (n + 1) (.int i) := ⟨by simp [PyData.canLay0], by simp [PyData.depth]⟩
theorem shp_bl {n : Nat} (i : Bool) : Shp (n + 1) (.bool i) := ⟨by simp [PyData.canLay0], by simp [PyData.depth]⟩
theorem shp_non {n : Nat} : Shp (n + 1) .none := ⟨by simp [PyData.canLay0], by simp [PyData.depth]⟩
theorem shp_str {n : Nat} {s : Str} (h : PyData.strOk s = true) : Shp (n + 1) (.str s) := ⟨by simp only [PyData.canLay0]; exact h, by simp [PyData.depth]⟩
theorem Shp.ok {n : Nat} {d : PyData} (h : Shp n d) (hn : n ≤ 64 := by decide) : SeqAt.shaped d = true := by
  show (PyData.canLay0 d && decide (PyData.depth d ≤ 64)) = true
  rw [h.lay, Bool.true_and]
  exact decide_eq_true (Nat.le_trans h.dep hn)
section
variable {c : Cd} {σ : L2.St} {H : Hp} {Q : VK} {pos : Pos} {x y : V}
/-- xs == [] -/
theorem ro_eqNil {p q0 : Addr} {xs : List V} {ds : List PyData} {n : Nat} (h1 : H p = some (.lst xs)) (hd : DtAll c.K H xs ds) (hs : ∀ d ∈ ds, Shp n d) (hn : n + 1 ≤ 64) (h2 : H q0 = some (.lst [])) (q : Q (.bl ds.isEmpty) H) : RQ c .Eq (.ref p) (.ref q0) H Q := by
  refine ro_eqD (.lst (SqL.of h1) hd.dp) (.lst (SqL.of h2) .nil) ((shp_lst hs).ok hn) (by decide) ?_
  cases ds with
  | nil => exact q
  | cons d ds => exact q
theorem ro_neNil {p q0 : Addr} {xs : List V} {ds : List PyData} {n : Nat} (h1 : H p = some (.lst xs)) (hd : DtAll c.K H xs ds) (hs : ∀ d ∈ ds, Shp n d) (hn : n + 1 ≤ 64) (h2 : H q0 = some (.lst [])) (q : Q (.bl (!ds.isEmpty)) H) : RQ c .NotEq (.ref p) (.ref q0) H Q := by
  refine ro_neD (.lst (SqL.of h1) hd.dp) (.lst (SqL.of h2) .nil) ((shp_lst hs).ok hn) (by decide) ?_
  cases ds with
  | nil => exact q
  | cons d ds => exact q
end
end G
namespace K
open PySem L2 G
variable {M : Md}
inductive Ex where
  | int (i : Int) | nm (s : Str) | at (t : Str) (e : Ex) | un (op : Str) (e : Ex) | bin (op : Str) (a b : Ex) | kk (op : Str) (e : Ex) (n : Int) | ite (a b d : Ex)
def Ex.d : Ex → PyData
  | .int i => .int i
  | .nm s => .str s
  | .at t e => .tuple [.str "at", .str t, e.d]
  | .un op e => .tuple [.str op, e.d]
  | .bin op a b => .tuple [.str op, a.d, b.d]
  | .kk op e n => .tuple [.str op, e.d, .int n]
  | .ite a b e => .tuple [.str "if", a.d, b.d, e.d]
def Ex.dep : Ex → Nat
  | .int _ | .nm _ => 0
  | .at _ e | .un _ e | .kk _ e _ => e.dep + 1
  | .bin _ a b => max a.dep b.dep + 1
  | .ite a b e => max a.dep (max b.dep e.dep) + 1
def bins : List Str := ["+", "-", "*", "least", "most", "=", "<", "<=", "and", "or"]
def uns : List Str := ["not", "neg"]
def kks : List Str := ["div", "mod"]
/-- an expression that fits the rows -/
def Fit (rs : List Row) : Ex → Prop
  | .int i => -7 ≤ i ∧ i ≤ 7
  | .nm s => ∃ r ∈ rs, r.1 = s ∧ r.2.1 = 0
  | .at t e => (∃ r ∈ rs, r.1 = t ∧ 0 < r.2.1) ∧ Fit rs e
  | .un op e => op ∈ uns ∧ Fit rs e
  | .bin op a b => op ∈ bins ∧ Fit rs a ∧ Fit rs b
  | .kk op e n => op ∈ kks ∧ Fit rs e ∧ (1 ≤ n ∧ n ≤ 3)
  | .ite a b e => Fit rs a ∧ Fit rs b ∧ Fit rs e
/-- rows that drawing functions are given -/
structure RowsIn (rs : List Row) : Prop where
  len : rs.length ≤ 10
  nm : ∀ r ∈ rs, PyData.strOk r.1 = true
def preLeaf : List PyData → Prop := fun ds => ∃ rs, ds = [cellsD rs] ∧ RowsIn rs
def rLeaf : List PyData → PyData → Prop := fun ds d => ∃ rs e, ds = [cellsD rs] ∧ d = Ex.d e ∧ Fit rs e ∧ e.dep = 0
def plains (rs : List Row) : List Str := (rs.filter fun r => r.2.1 == 0).map nameOf
def gPlain : PyData → Option PyData
  | .tuple (n :: .int s :: _) => if s = 0 then some n else none
  | _ => none
theorem gPlain_all (rs : List Row) : (rs.map rowD).filterMap gPlain = (plains rs).map .str := by
  induction rs with
  | nil => rfl
  | cons r rs ih =>
    unfold plains at *
    rw [List.map_cons, List.filterMap_cons, List.filter_cons]
    have e : gPlain (rowD r) = if ((r.2.1 : Nat) : Int) = 0 then some (PyData.str r.1) else none := rfl
    rw [e]
    by_cases h : r.2.1 = 0
    · rw [if_pos (by omega), if_pos (by simpa using h), List.map_cons, List.map_cons, ← ih]; rfl
    · rw [if_neg (by omega), if_neg (by simpa using h), ← ih]
theorem plains_mem {rs : List Row} {s : Str} (h : s ∈ plains rs) : ∃ r ∈ rs, r.1 = s ∧ r.2.1 = 0 := by
  obtain ⟨r, hr, rfl⟩ := List.mem_map.mp h
  obtain ⟨h1, h2⟩ := List.mem_filter.mp hr
  exact ⟨r, h1, rfl, by simpa using h2⟩
theorem leafInt (w : Int) (h : w ∈ ([0, 1, 2, -1, 3, -2, 7, 1] : List Int)) : -7 ≤ w ∧ w ≤ 7 := by
  have : ∀ w ∈ ([0, 1, 2, -1, 3, -2, 7, 1] : List Int), -7 ≤ w ∧ w ≤ 7 := by decide
  exact this w h
theorem ok_leaf {f fd} (F : Fun M.K "_law_leaf" "_law_leaf" s__law_leaf f fd) (b : Bl M) (dd : Dc M "_law_draw" ["_law_feed_here", "_law_many"] 1 (spD preDraw rDraw M.K)) :
    FnOk M.prog M.w M.K M.mg M.base CX0 2 f fd ["_law_feed_here", "_law_rows_here"] (spD preLeaf rLeaf M.K) := by
  refine fn_ok F sc__law_leaf (spD_len (n := 1) (by rintro ds ⟨_, rfl, _⟩; rfl)) (fun H vs Q E h => ?_)
  obtain ⟨fp, cl, rest, ds, rfl, hf, hds, ⟨rs, rfl, ri⟩, k⟩ := h
  obtain _ | ⟨hc, hds⟩ := hds
  cases hds
  refine b_cons (s_setLc (own := [("_law_own", 3)]) (by tm_at "at") (Blk.of (N := N__law_leaf) (sc := defScope s__law_leaf) rfl rfl (by decide +kernel)) ?_)
  refine lcT_F gPlain ?_
  tm_at "go"
  refine ⟨rs.map rowD, hc, by rw [List.length_map]; exact Nat.le_trans ri.len (show 10 ≤ 1000 by decide), fun d x H' hd s hx => ?_, fun l us H1 s1 n1 g1 h1 => ?_⟩
  · obtain ⟨r, hr, rfl⟩ := List.mem_map.mp hd
    refine g_name (by tm_at "at") ⟨rfl, rfl, ts_one ?_⟩
    tm_at "go"
    refine ⟨Same.refl _, ifd (fun c1 => ?_) (fun c1 => ?_)⟩
    · tm_at "go"
      exact ⟨Same.refl _, _, by show (if _ then _ else _) = _; rw [if_pos c1], .str _⟩
    · show (if _ then _ else _) = _
      rw [if_neg c1]
  rw [gPlain_all] at h1
  have hul := h1.len
  rw [List.length_map] at hul
  tm_at "go"
  refine e_lstD ?_
  tm_at "go"
  refine ⟨(Nat.le_of_ble_eq_true rfl), fun q0 H2 s2 n2 g2 => ?_⟩
  have f2 := (hf.same s1).same s2
  have k2 : Kp fp H H2 := kp_same (s1.trans s2)
  have nl : l ≠ fp := ne_feed hf (Same.refl _) n1
  refine ro_eqNil (n := 1) (s2 _ _ g1) (h1.mono (tp_same s2)) (fun d hd => ?_) (by decide) g2 ?_
  · obtain ⟨s, hs, rfl⟩ := List.mem_map.mp hd
    obtain ⟨r, hr, rfl, _⟩ := plains_mem hs
    exact shp_str (ri.nm r hr)
  refine ⟨_, rfl, ifb (fun e => ?_) (fun e => ?_)⟩
  · refine ift ?_
    tm_at "go"
    refine e_lstD ?_
    tm_at "go"
    refine ⟨(Nat.le_of_ble_eq_true rfl), fun lw H7 s7 n7 g7 => ?_⟩
    tm_at "go"
    refine e_draw dd ?_
    tm_at "go"
    refine ⟨fp, cl, _, rfl, rfl, by decide, f2.same s7, fun r8 H8 r80 r81 k8 f8 => ?_⟩
    have nw : lw ≠ fp := ne_feed f2 (Same.refl _) n7
    refine rx_pick (ds := ([0, 1, 2, -1, 3, -2, 7, 1] : List Int).map .int) (.of (k8.k _ _ nw g7)) (dtInts [0, 1, 2, -1, 3, -2, 7, 1]) r80 r81 fun v d hd hv => ?_
    rw [List.getElem?_map] at hd
    obtain ⟨wd, hw, rfl⟩ := Option.map_eq_some_iff.mp hd
    exact k _ _ _ ⟨rs, .int wd, rfl, rfl, leafInt wd (List.mem_of_getElem? hw), rfl⟩ (k2.trans ((kp_same s7).trans k8)) f8 hv
  · tm_at "go"
    refine e_draw dd ?_
    tm_at "go"
    refine ⟨fp, cl, _, rfl, rfl, by decide, f2, fun r3 H3 r30 r31 k3 f3 => ?_⟩
    tm_at "go"
    refine ifd (fun c1 => ?_) (fun c1 => ?_)
    · have k3' := k2.trans k3
      tm_at "go"
      refine e_lstD ?_
      tm_at "go"
      refine ⟨(Nat.le_of_ble_eq_true rfl), fun lw H7 s7 n7 g7 => ?_⟩
      tm_at "go"
      refine e_draw dd ?_
      tm_at "go"
      refine ⟨fp, cl, _, rfl, rfl, by decide, f3.same s7, fun r8 H8 r80 r81 k8 f8 => ?_⟩
      have nw : lw ≠ fp := ne_feed f3 (Same.refl _) n7
      refine rx_pick (ds := ([0, 1, 2, -1, 3, -2, 7, 1] : List Int).map .int) (.of (k8.k _ _ nw g7)) (dtInts [0, 1, 2, -1, 3, -2, 7, 1]) r80 r81 fun v d hd hv => ?_
      rw [List.getElem?_map] at hd
      obtain ⟨wd, hw, rfl⟩ := Option.map_eq_some_iff.mp hd
      exact k _ _ _ ⟨rs, .int wd, rfl, rfl, leafInt wd (List.mem_of_getElem? hw), rfl⟩ (k3'.trans ((kp_same s7).trans k8)) f8 hv
    · tm_at "go"
      have g3 := k3.k _ _ nl (s2 _ _ g1)
      refine e_draw dd ?_
      tm_at "go"
      refine rc_lenL (.of g3) ?_
      have hp : 0 < (plains rs).length := by
        cases hpl : plains rs with
        | nil => rw [hpl] at e; cases e
        | cons => exact Nat.succ_pos _
      have hp2 : (plains rs).length ≤ 10 := by
        unfold plains
        rw [List.length_map]
        exact Nat.le_trans (List.length_filter_le _ _) ri.len
      refine ⟨fp, cl, _, rfl, rfl, by omega, f3, fun r8 H8 r80 r81 k8 f8 => ?_⟩
      refine rx_pick (ds := (plains rs).map .str) (.of (k8.k _ _ nl g3)) (h1.mono ((tp_same s2).trans (k3.t.trans k8.t))) r80 (by rw [List.length_map]; omega) fun v d hd hv => ?_
      rw [List.getElem?_map] at hd
      obtain ⟨wd, hw, rfl⟩ := Option.map_eq_some_iff.mp hd
      exact k _ _ _ ⟨rs, .nm wd, rfl, rfl, plains_mem (List.mem_of_getElem? hw), rfl⟩ (k2.trans (k3.trans k8)) f8 hv
end K

namespace K
open PySem L2 G
variable {M : Md}
def plan0 : List (Key × V) := [(Sum.inr "at", .str "ne"), (Sum.inr "not", .str "e"), (Sum.inr "neg", .str "e"), (Sum.inr "div", .str "ek"), (Sum.inr "mod", .str "ek"), (Sum.inr "if", .str "eee")]
def planAt (i : Nat) : List (Key × V) := (bins.take i).foldl (fun kv w => putK kv (Sum.inr w) (.str "ee")) plan0
theorem plan_len : ∀ i < 11, (planAt i).length < 1000 := by decide +kernel
theorem plan_bin : ∀ w ∈ bins, valV (planAt 10) (Sum.inr w) = some (.str "ee") := by decide +kernel
theorem plan_un : ∀ w ∈ uns, valV (planAt 10) (Sum.inr w) = some (.str "e") := by decide +kernel
theorem plan_if : valV (planAt 10) (Sum.inr "if") = some (.str "eee") := by decide +kernel
def spPlans (_ : PySem.W.Frag) : Sp := fun vs H Q _ => vs = [] ∧ ∀ p H', Same H H' → H p = none → H' p = some (.dK (planAt 10)) → Q (.ref p) H'
theorem ok_plans {f fd} (F : Fun M.K "_law_plans" "_law_plans" s__law_plans f fd) (b : Bl M) : FnOk M.prog M.w M.K M.mg M.base CX0 1 f fd [] (spPlans M.K) := by
  refine fn_ok F sc__law_plans (fun vs H Q E h => by rw [h.1]; rfl) (fun H vs Q E h => ?_)
  obtain ⟨rfl, k⟩ := h
  tm_at "go"
  refine e_disp (fun X h => pps_cons (pe_re h) (pe_re h) (pps_cons (pe_re h) (pe_re h) (pps_cons (pe_re h) (pe_re h) (pps_cons (pe_re h) (pe_re h) (pps_cons (pe_re h) (pe_re h) (pps_cons (pe_re h) (pe_re h) pps_nil)))))) rfl rfl (by intro e; cases e) (by decide) ?_
  intro p hp
  simp only [tPairs]
  tm_at "go"
  refine ⟨upd_same, plan0, rfl, by decide, ?_⟩
  rw [show mergeK [] plan0 = planAt 0 by decide +kernel]
  have s1 : Same H (upd (upd H p (.dK [])) p (.dK (planAt 0))) := same_mut (same_new hp) hp
  have g1 : (upd (upd H p (.dK [])) p (.dK (planAt 0))) p = _ := upd_same
  generalize upd (upd H p (.dK [])) p (.dK (planAt 0)) = H1 at *
  tm_at "go"
  refine s_forT ?_
  refine e_tupD ?_
  tm_at "go"
  refine tupend (ds := bins.map .str) (dtStrs bins) (Nat.le_of_ble_eq_true rfl) fun v H2 s2 hv => ?_
  obtain ⟨a, xs, rfl, hxs, hns⟩ := hv.tupE
  have hle := hns.len
  rw [List.length_map] at hle
  refine ⟨a, xs, rfl, hxs, fun i σ1 H' => ∃ v1, σ1 = [some (.ref p), v1] ∧ Same H H' ∧ Tp H2 H' ∧ H' p = some (.dK (planAt i)), ⟨_, rfl, s1.trans s2, Tp.refl _, s2 _ _ g1⟩, ?_, ?_, ?_⟩
  · rintro i σ' H' _ ⟨v1, rfl, s, t, g⟩
    exact t.sqt hxs
  · rintro i x σ' H' hx ⟨v1, rfl, s, t, g⟩
    have hi : i < 10 := by
      have := (List.getElem?_eq_some_iff.mp hx).1
      rw [hle] at this
      exact this
    obtain ⟨d, hd, hx'⟩ := hns.getV hx
    rw [List.getElem?_map] at hd
    obtain ⟨w, hw, rfl⟩ := Option.map_eq_some_iff.mp hd
    cases hx'
    refine g_name (by tm_at "at") ?_
    refine b_one (s_dput ?_)
    tm_at "go"
    refine ⟨p, _, rfl, DPut.k (k := Sum.inr w) g (Nat.lt_trans (plan_len i (by omega)) (by decide)), ?_⟩
    have e : putK (planAt i) (Sum.inr w) (.str "ee") = planAt (i + 1) := by
      obtain ⟨z1, z2⟩ := List.getElem?_eq_some_iff.mp hw
      unfold planAt
      rw [List.take_succ_eq_append_getElem z1, z2, List.foldl_append]
      rfl
    rw [e]
    have ku := kp_upd (o' := .dK (planAt (i + 1))) g (fun _ e => nomatch e) (fun _ _ e => nomatch e)
    exact ⟨_, rfl, same_mut s hp, t.trans ku.t, upd_same⟩
  · rintro σ' H' ⟨v1, rfl, s, t, g⟩
    rw [hle] at g
    tm_at "go"
    exact k p H' s hp g
end K

namespace K
open PySem L2 G
variable {M : Md}
def preForm (n : Nat) : List PyData → Prop := fun ds => ∃ (rs : List Row) (deep : Int), ds = [cellsD rs, .int deep] ∧ RowsIn rs ∧ deep ≤ n
def rForm : List PyData → PyData → Prop := fun ds d => ∃ (rs : List Row) (deep : Int) (e : Ex), ds = [cellsD rs, .int deep] ∧ d = e.d ∧ Fit rs e ∧ e.dep ≤ deep.toNat
def wordsL : List Str := ["+", "-", "*", "least", "most", "=", "<", "<=", "and", "or", "not", "neg", "div", "mod", "if", "at", "at", "+"]
def tabs (rs : List Row) : List Str := (rs.filter fun r => decide (0 < r.2.1)).map nameOf
def gTab : PyData → Option PyData
  | .tuple (n :: .int s :: _) => if 0 < s then some n else none
  | _ => none
theorem gTab_all (rs : List Row) : (rs.map rowD).filterMap gTab = (tabs rs).map .str := by
  induction rs with
  | nil => rfl
  | cons r rs ih =>
    unfold tabs at *
    rw [List.map_cons, List.filterMap_cons, List.filter_cons]
    have e : gTab (rowD r) = if 0 < ((r.2.1 : Nat) : Int) then some (PyData.str r.1) else none := rfl
    rw [e]
    by_cases h : 0 < r.2.1
    · rw [if_pos (by omega), if_pos (by simpa using h), List.map_cons, List.map_cons, ← ih]; rfl
    · rw [if_neg (by omega), if_neg (by simpa using h), ← ih]
theorem tabs_mem {rs : List Row} {s : Str} (h : s ∈ tabs rs) : ∃ r ∈ rs, r.1 = s ∧ 0 < r.2.1 := by
  obtain ⟨r, hr, rfl⟩ := List.mem_map.mp h
  obtain ⟨h1, h2⟩ := List.mem_filter.mp hr
  exact ⟨r, h1, rfl, by simpa using h2⟩
theorem rowD_inj {r r' : Row} (h : rowD r = rowD r') : r = r' := by
  obtain ⟨a, b, c, d, e, f, g⟩ := r
  obtain ⟨a', b', c', d', e', f', g'⟩ := r'
  unfold rowD at h
  simp only [PyData.tuple.injEq, List.cons.injEq, PyData.str.injEq, PyData.int.injEq, PyData.bool.injEq] at h
  obtain ⟨rfl, h2, rfl, rfl, rfl, rfl, rfl, _⟩ := h
  have : b = b' := by omega
  rw [this]
theorem cellsD_inj {rs rs' : List Row} (h : cellsD rs = cellsD rs') : rs = rs' := by
  unfold cellsD at h
  rw [PyData.tuple.injEq] at h
  induction rs generalizing rs' with
  | nil =>
    cases rs' with
    | nil => rfl
    | cons => cases h
  | cons r rs ih =>
    cases rs' with
    | nil => cases h
    | cons r' rs' =>
      rw [List.map_cons, List.map_cons, List.cons.injEq] at h
      rw [rowD_inj h.1, ih h.2]
theorem inS (w : Str) (l : List Str) : inV (.str w) (l.map .str) = decide (w ∈ l) := by
  unfold inV
  rw [Bool.eq_iff_iff, List.any_eq_true, decide_eq_true_iff]
  constructor
  · rintro ⟨y, hy, h⟩
    obtain ⟨z, hz, rfl⟩ := List.mem_map.mp hy
    have : z = w := by simpa [eqV] using h
    rw [← this]; exact hz
  · intro h
    exact ⟨.str w, List.mem_map.mpr ⟨w, h, rfl⟩, by simp [eqV]⟩
theorem flatS (l : List Str) : (l.map V.str).all flatV = true := by simp [flatV]
theorem dtStrs_eq {K : PySem.W.Frag} {H : Hp} : ∀ {ws : List Str} {xs : List V}, DtAll K H xs (ws.map .str) → xs = ws.map .str
  | [], _, h => by cases h; rfl
  | w :: ws, _, h => by
    cases h with
    | cons h1 h2 =>
      cases h1
      rw [dtStrs_eq h2, List.map_cons]
theorem ro_inST {c : Cd} {H : Hp} {Q : VK} {y : V} {w : Str} {ws : List Str} (hx : Dt c.K H y (.tuple (ws.map .str))) (q : Q (.bl (decide (w ∈ ws))) H) : RQ c .In (.str w) y H Q := by
  obtain ⟨a, xs, rfl, ht, hd⟩ := hx.tupE
  obtain rfl := dtStrs_eq hd
  refine rq_of (r := rIn c.K false) (fun X h => by rw [← h.K]; exact op_in_seq) ⟨a, _, rfl, .inr ht, rfl, flatS ws, ?_⟩
  show Q (.bl (inV (.str w) (ws.map .str))) H
  rw [inS]
  exact q
theorem words_all : ∀ w ∈ wordsL, w = "at" ∨ w ∈ kks ∨ w ∈ bins ∨ w ∈ uns ∨ w = "if" := by decide +kernel
abbrev dcForm (M : Md) (m : Nat) : Prop := Dc M "_law_formula" ["_law_feed_here", "_law_rows_here", "_law_deep"] (m + 3) (spD (preForm m) rForm M.K)
set_option maxHeartbeats 2000000 in
theorem ok_form (n : Nat) {f fd} (F : Fun M.K "_law_formula" "_law_formula" s__law_formula f fd) (b : Bl M) (dd : Dc M "_law_draw" ["_law_feed_here", "_law_many"] 1 (spD preDraw rDraw M.K)) (dl : Dc M "_law_leaf" ["_law_feed_here", "_law_rows_here"] 2 (spD preLeaf rLeaf M.K)) (dp : Dc M "_law_plans" [] 1 (spPlans M.K)) (rec : ∀ m, n = m + 1 → dcForm M m) :
    FnOk M.prog M.w M.K M.mg M.base CX0 (n + 3) f fd ["_law_feed_here", "_law_rows_here", "_law_deep"] (spD (preForm n) rForm M.K) := by
  refine fn_ok F sc__law_formula (spD_len (n := 2) (by rintro ds ⟨_, _, rfl, _⟩; rfl)) (fun H vs Q E h => ?_)
  obtain ⟨fp, cl, rest, ds, rfl, hf, hds, ⟨rs, deep, rfl, ri, hdeep⟩, k⟩ := h
  obtain _ | ⟨hc, hds⟩ := hds
  obtain _ | ⟨hdp, hds⟩ := hds
  cases hds
  cases hdp
  rename_i vr
  refine b_cut (fun σ1 H' => 1 ≤ deep ∧ Kp fp H H' ∧ Feed M.K H' fp cl ∧ σ1 = [some (.ref fp), some vr, some (.int deep), none, none, none, none, none]) ?_ ?_
  · tm_at "go"
    refine ifd (fun c1 => ?_) (fun c1 => ?_)
    · refine ift ?_
      tm_at "go"
      refine e_callD dl ?_
      tm_at "go"
      refine ⟨fp, cl, _, _, rfl, hf, by tm_at "dts", ⟨rs, rfl, ri⟩, ?_⟩
      rintro d v H1 ⟨rs', e, e1, rfl, fit, dep⟩ k1 f1 hv
      obtain rfl : rs = rs' := cellsD_inj (List.cons.inj e1).1
      exact k _ _ _ ⟨rs, deep, e, rfl, rfl, fit, by omega⟩ k1 f1 hv
    · tm_at "go"
      refine e_draw dd ?_
      tm_at "go"
      refine ⟨fp, cl, _, rfl, rfl, by decide, hf, fun r1 H1 r10 r11 k1 f1 => ?_⟩
      tm_at "go"
      refine ifd (fun c2 => ?_) (fun c2 => ?_)
      · tm_at "go"
        refine e_callD dl ?_
        tm_at "go"
        refine ⟨fp, cl, _, _, rfl, f1, by tm_at "dts", ⟨rs, rfl, ri⟩, ?_⟩
        rintro d v H2 ⟨rs', e, e1, rfl, fit, dep⟩ k2 f2 hv
        obtain rfl : rs = rs' := cellsD_inj (List.cons.inj e1).1
        exact k _ _ _ ⟨rs, deep, e, rfl, rfl, fit, by omega⟩ (k1.trans k2) f2 hv
      · tm_at "go"
        exact ⟨by omega, k1, f1, rfl⟩
  rintro _ H1 ⟨hd1, k1, f1, rfl⟩
  obtain ⟨m, rfl⟩ : ∃ m, n = m + 1 := ⟨n - 1, by omega⟩
  have dr := rec m rfl
  have prim : preForm m [cellsD rs, .int (deep - 1)] := ⟨rs, deep - 1, rfl, ri, by omega⟩
  tm_at "go"
  refine e_lstD ?_
  tm_at "go"
  refine ⟨(Nat.le_of_ble_eq_true rfl), fun l2 H2 s2 n2 g2 => ?_⟩
  have nl2 : l2 ≠ fp := ne_feed f1 (Same.refl _) n2
  tm_at "go"
  refine s_expr ?_
  refine e_ext ?_
  tm_at "go"
  refine ⟨l2, _, rfl, g2, ?_⟩
  refine e_lstD ?_
  tm_at "go"
  refine ⟨(Nat.le_of_ble_eq_true rfl), fun l3 H3 s3 n3 g3 => ?_⟩
  refine ⟨l3, _, _, rfl, s3 _ _ g2, g3, (Nat.le_of_ble_eq_true rfl), ?_⟩
  have s4 : Same H1 (upd H3 l2 (.lst (wordsL.map .str))) := same_mut (s2.trans s3) n2
  have g4 : (upd H3 l2 (.lst (wordsL.map .str))) l2 = _ := upd_same
  show RB _ _ _ _ (upd H3 l2 (.lst (wordsL.map .str)))
  generalize upd H3 l2 (.lst (wordsL.map .str)) = H4 at *
  refine b_cut (fun σ1 H' => ∃ (w : Str) (l6 : Addr) (us : List V), w ∈ wordsL ∧ Kp fp H1 H' ∧ Feed M.K H' fp cl ∧ H' l6 = some (.lst us) ∧ DtAll M.K H' us ((tabs rs).map .str) ∧ l6 ≠ fp ∧ σ1 = [some (.ref fp), some vr, some (.int deep), some (.ref l2), some (.str w), some (.ref l6), none, none]) ?_ ?_
  · tm_at "go"
    refine e_draw dd ?_
    tm_at "go"
    refine ⟨fp, cl, _, rfl, rfl, by decide, f1.same s4, fun r5 H5 r50 r51 k5 f5 => ?_⟩
    have g5 := k5.k _ _ nl2 g4
    refine rx_pick (ds := wordsL.map .str) (.of g5) (dtStrs wordsL) r50 r51 fun v d hd hv => ?_
    rw [List.getElem?_map] at hd
    obtain ⟨w, hw, rfl⟩ := Option.map_eq_some_iff.mp hd
    cases hv
    refine e_lc (own := [("_law_own", 6)]) (Blk.of (N := N__law_formula) (sc := defScope s__law_formula) rfl rfl (by decide +kernel)) ?_
    refine lcT_F gTab ?_
    tm_at "go"
    refine ⟨rs.map rowD, hc.mono (k1.t.trans ((tp_same s4).trans k5.t)), by rw [List.length_map]; exact Nat.le_trans ri.len (show 10 ≤ 1000 by decide), fun d x H' hd s hx => ?_, fun l6 us H6 s6 n6 g6 h6 => ?_⟩
    · obtain ⟨r, hr, rfl⟩ := List.mem_map.mp hd
      refine g_name (by tm_at "at") ⟨rfl, rfl, ts_one ?_⟩
      tm_at "go"
      refine ⟨Same.refl _, ifd (fun c1 => ?_) (fun c1 => ?_)⟩
      · tm_at "go"
        exact ⟨Same.refl _, _, by show (if _ then _ else _) = _; rw [if_pos c1], .str _⟩
      · show (if _ then _ else _) = _
        rw [if_neg c1]
    rw [gTab_all] at h6
    exact ⟨w, l6, us, List.mem_of_getElem? hw, (kp_same s4).trans (k5.trans (kp_same s6)), f5.same s6, g6, h6, ne_feed f5 (Same.refl _) n6, rfl⟩
  rintro _ H5 ⟨w, l6, us, hw, k5, f5, g6, h6, nl6, rfl⟩
  have k15 := k1.trans k5
  tm_at "go"
  refine ifd (fun c1 => ?_) (fun c1 => ?_)
  · subst c1
    refine b_cut (fun σ1 H' => 0 < (tabs rs).length ∧ Same H5 H' ∧ σ1 = [some (.ref fp), some vr, some (.int deep), some (.ref l2), some (.str "at"), some (.ref l6), none, none]) ?_ ?_
    · tm_at "go"
      refine e_lstD ?_
      tm_at "go"
      refine ⟨(Nat.le_of_ble_eq_true rfl), fun q0 H7 s7 n7 g7 => ?_⟩
      refine ro_eqNil (n := 1) (s7 _ _ g6) (h6.mono (tp_same s7)) (fun d hd => ?_) (by decide) g7 ?_
      · obtain ⟨s, hs, rfl⟩ := List.mem_map.mp hd
        obtain ⟨r, hr, rfl, _⟩ := tabs_mem hs
        exact shp_str (ri.nm r hr)
      refine ⟨_, rfl, ifb (fun e => ?_) (fun e => ?_)⟩
      · tm_at "go"
        refine e_callD dl ?_
        tm_at "go"
        refine ⟨fp, cl, _, _, rfl, f5.same s7, .cons (hc.mono (k15.t.trans (tp_same s7))) .nil, ⟨rs, rfl, ri⟩, ?_⟩
        rintro d v H8 ⟨rs', e, e1, rfl, fit, dep⟩ k8 f8 hv
        obtain rfl : rs = rs' := cellsD_inj (List.cons.inj e1).1
        exact k _ _ _ ⟨rs, deep, e, rfl, rfl, fit, by omega⟩ (k15.trans ((kp_same s7).trans k8)) f8 hv
      · tm_at "go"
        refine ⟨?_, s7, rfl⟩
        cases hpl : tabs rs with
        | nil => rw [hpl] at e; cases e
        | cons => exact Nat.succ_pos _
    rintro _ H7 ⟨hp, s7, rfl⟩
    tm_at "go"
    refine e_tupD ?_
    tm_at "go"
    refine rx_pick (ds := (tabs rs).map .str) (.of (s7 _ _ g6)) (h6.mono (tp_same s7)) (by decide) (by rw [List.length_map]; omega) fun v d hd hv => ?_
    rw [List.getElem?_map] at hd
    obtain ⟨tn, htn, rfl⟩ := Option.map_eq_some_iff.mp hd
    cases hv
    tm_at "go"
    refine e_callD dr ?_ (Nat.le_refl _)
    tm_at "go"
    refine ⟨fp, cl, _, _, rfl, f5.same s7, .cons (hc.mono (k15.t.trans (tp_same s7))) (.cons (.int _) .nil), prim, ?_⟩
    rintro d v H8 ⟨rs', deep', e, e1, rfl, fit, dep⟩ k8 f8 hv
    obtain rfl : rs = rs' := cellsD_inj (List.cons.inj e1).1
    obtain rfl : deep - 1 = deep' := PyData.int.inj (List.cons.inj (List.cons.inj e1).2).1
    tm_at "go"
    refine tupend (ds := [.str "at", .str tn, e.d]) (.cons (.str _) (.cons (.str _) (.cons hv .nil))) (Nat.le_of_ble_eq_true rfl) fun v9 H9 s9 h9 => ?_
    exact k _ _ _ ⟨rs, deep, .at tn e, rfl, rfl, ⟨tabs_mem (List.mem_of_getElem? htn), fit⟩, by show e.dep + 1 ≤ _; omega⟩ (k15.trans ((kp_same s7).trans (k8.trans (kp_same s9)))) (f8.same s9) h9
  tm_at "go"
  refine e_tupD ?_
  tm_at "go"
  refine tupend (ds := kks.map .str) (dtStrs kks) (Nat.le_of_ble_eq_true rfl) fun v6 H6 s6 hv6 => ?_
  refine ro_inST hv6 ?_
  refine ⟨_, rfl, ifd (fun c2 => ?_) (fun c2 => ?_)⟩
  · tm_at "go"
    refine e_tupD ?_
    tm_at "go"
    refine e_callD dr ?_ (Nat.le_refl _)
    tm_at "go"
    refine ⟨fp, cl, _, _, rfl, f5.same s6, .cons (hc.mono (k15.t.trans (tp_same s6))) (.cons (.int _) .nil), prim, ?_⟩
    rintro d v H8 ⟨rs', deep', e, e1, rfl, fit, dep⟩ k8 f8 hv
    obtain rfl : rs = rs' := cellsD_inj (List.cons.inj e1).1
    obtain rfl : deep - 1 = deep' := PyData.int.inj (List.cons.inj (List.cons.inj e1).2).1
    tm_at "go"
    refine e_draw dd ?_
    tm_at "go"
    refine ⟨fp, cl, _, rfl, rfl, by decide, f8, fun r9 H9 r90 r91 k9 f9 => ?_⟩
    tm_at "go"
    refine tupend (ds := [.str w, e.d, .int (1 + r9)]) (.cons (.str _) (.cons (hv.mono k9.t) (.cons (.int _) .nil))) (Nat.le_of_ble_eq_true rfl) fun v10 H10 s10 h10 => ?_
    exact k _ _ _ ⟨rs, deep, .kk w e (1 + r9), rfl, rfl, ⟨c2, fit, by omega⟩, by show e.dep + 1 ≤ _; omega⟩ (k15.trans ((kp_same s6).trans (k8.trans (k9.trans (kp_same s10))))) (f9.same s10) h10
  tm_at "go"
  refine e_tupD ?_
  tm_at "go"
  refine tupend (ds := [.str w]) (by tm_at "dts") (Nat.le_of_ble_eq_true rfl) fun v7 H7 s7 hv7 => ?_
  tm_at "go"
  have s57 := s6.trans s7
  refine e_lc (own := [("_law_way", 7)]) (Blk.of (N := N__law_formula) (sc := defScope s__law_formula) rfl rfl (by decide +kernel)) ?_
  obtain ⟨pl, hpl, hps, hend⟩ : ∃ pl : Str, valV (planAt 10) (Sum.inr w) = some (.str pl) ∧ pl.cps.size ≤ 1000 ∧ ∀ es : List Ex, es.length = pl.cps.size → (∀ e ∈ es, Fit rs e ∧ e.dep ≤ (deep - 1).toNat) → ∃ e : Ex, e.d = .tuple (.str w :: es.map Ex.d) ∧ Fit rs e ∧ e.dep ≤ deep.toNat := by
    have ex0 : ∀ es : List Ex, es.length = 1 → ∃ a, es = [a] := fun es h => by
      match es, h with
      | [a], _ => exact ⟨a, rfl⟩
    have ex1 : ∀ es : List Ex, es.length = 2 → ∃ a b, es = [a, b] := fun es h => by
      match es, h with
      | [a, b], _ => exact ⟨a, b, rfl⟩
    have ex2 : ∀ es : List Ex, es.length = 3 → ∃ a b c, es = [a, b, c] := fun es h => by
      match es, h with
      | [a, b, c], _ => exact ⟨a, b, c, rfl⟩
    rcases words_all w hw with h | h | h | h | h
    · exact absurd h c1
    · exact absurd h c2
    · refine ⟨"ee", plan_bin w h, by decide, fun es hl he => ?_⟩
      obtain ⟨a, b, rfl⟩ := ex1 es hl
      have ha := he a (by simp)
      have hb := he b (by simp)
      exact ⟨.bin w a b, rfl, ⟨h, ha.1, hb.1⟩, by show max a.dep b.dep + 1 ≤ _; omega⟩
    · refine ⟨"e", plan_un w h, by decide, fun es hl he => ?_⟩
      obtain ⟨a, rfl⟩ := ex0 es hl
      have ha := he a (by simp)
      exact ⟨.un w a, rfl, ⟨h, ha.1⟩, by show a.dep + 1 ≤ _; omega⟩
    · subst h
      refine ⟨"eee", plan_if, by decide, fun es hl he => ?_⟩
      obtain ⟨a, b, d, rfl⟩ := ex2 es hl
      have ha := he a (by simp)
      have hb := he b (by simp)
      have hd := he d (by simp)
      exact ⟨.ite a b d, rfl, ⟨ha.1, hb.1, hd.1⟩, by show max a.dep (max b.dep d.dep) + 1 ≤ _; omega⟩
  refine lc_S ?_
  refine e_dgetK ?_
  refine e_call0 dp ?_
  refine ⟨rfl, fun pd H8 s8 n8 g8 => ?_⟩
  tm_at "go"
  refine ⟨pd, _, Sum.inr w, _, rfl, g8, rfl, hpl, ?_⟩
  refine ⟨pl, rfl, hps, fun D hD => ?_⟩
  have f8 := f5.same (s57.trans s8)
  have nD : D ≠ fp := ne_feed f8 (Same.refl _) hD
  refine ⟨fun i acc H' => ∃ es : List Ex, acc.length ≤ i ∧ es.length = i ∧ Kp fp H H' ∧ Kp fp H7 H' ∧ Feed M.K H' fp cl ∧ H' D = some (.lst acc) ∧ DtAll M.K H' acc (es.map Ex.d) ∧ ∀ e ∈ es, Fit rs e ∧ e.dep ≤ (deep - 1).toNat, ?_, ?_, ?_, ?_⟩
  · have kH8 : Kp fp H _ := k15.trans (kp_same (s57.trans s8))
    exact ⟨[], Nat.le_refl _, rfl, kp_mut kH8 (kp_none kH8 hD nD), kp_mut (kp_same s8) (same_none s8 hD), f8.upd nD (ne_cl f8 (Same.refl _) hD), upd_same, .nil, fun _ h => nomatch h⟩
  · rintro i acc H' ⟨es, h, _⟩
    exact h
  · rintro i ch acc H9 hi ⟨es, hl, hle, kH, k7, f9, g9, h9, he⟩
    refine g_name (by tm_at "at") ⟨rfl, ts_nil (ift ?_)⟩
    tm_at "go"
    refine e_callD dr ?_ (Nat.le_refl _)
    tm_at "go"
    refine ⟨fp, cl, _, _, rfl, f9, .cons (hc.mono kH.t) (.cons (.int _) .nil), prim, ?_⟩
    rintro d v H10 ⟨rs', deep', e, e1, rfl, fit, dep⟩ k10 f10 hv
    obtain rfl : rs = rs' := cellsD_inj (List.cons.inj e1).1
    obtain rfl : deep - 1 = deep' := PyData.int.inj (List.cons.inj (List.cons.inj e1).2).1
    have g10 := k10.k _ _ nD g9
    have kH8 : Kp fp H _ := k15.trans (kp_same (s57.trans s8))
    have ku := kp_upd (o' := .lst (acc ++ [v])) g10 (fun _ e => nomatch e) (fun _ _ e => nomatch e)
    refine ⟨g10, es ++ [e], by rw [List.length_append]; exact Nat.succ_le_succ hl, by rw [List.length_append, hle]; rfl, kp_mut (kH.trans k10) (kp_none kH8 hD nD), kp_mut (k7.trans k10) (same_none s8 hD), f10.upd nD (ne_cl f8 (Same.refl _) hD), upd_same, ?_, ?_⟩
    · rw [List.map_append]
      exact (h9.mono (k10.t.trans ku.t)).app (.cons (hv.mono ku.t) .nil)
    · intro e' he'
      rcases List.mem_append.mp he' with he' | he'
      · exact he e' he'
      · rw [List.mem_singleton.mp he']
        exact ⟨fit, dep⟩
  · rintro acc H9 ⟨es, hl, hle, kH, k7, f9, g9, h9, he⟩
    obtain ⟨e, hed, fit, dep⟩ := hend es hle he
    tm_at "go"
    refine rc_tupL (.of g9) h9 fun v10 H10 s10 h10 => ?_
    refine ro_catT (hv7.mono (k7.t.trans (tp_same s10))) h10 (by rw [List.length_map, hle]; exact Nat.le_trans (Nat.add_le_add_left hps 1) (by decide)) fun v11 H11 s11 h11 => ?_
    exact k _ _ _ ⟨rs, deep, e, rfl, hed.symm, fit, dep⟩ (kH.trans (kp_same (s10.trans s11))) (f9.same (s10.trans s11)) h11
end K

namespace K
open PySem L2 G
variable {M : Md}
inductive Tg where
  | nm (s : Str) | at (t : Str) (e : Ex)
def Tg.d : Tg → PyData
  | .nm s => .str s
  | .at t e => .tuple [.str t, e.d]
def FitT (rs : List Row) : Tg → Prop
  | .nm s => ∃ r ∈ rs, r.1 = s ∧ r.2.1 = 0
  | .at t e => (∃ r ∈ rs, r.1 = t ∧ 0 < r.2.1) ∧ Fit rs e ∧ e.dep ≤ 2
structure Rl where
  name : Str
  guard : Ex
  as : List (Tg × Ex)
def asD (p : Tg × Ex) : PyData := .tuple [p.1.d, p.2.d]
def Rl.d (r : Rl) : PyData := .tuple [.str r.name, r.guard.d, .tuple (r.as.map asD)]
structure FitR (rs : List Row) (r : Rl) : Prop where
  nm : PyData.strOk r.name = true
  guard : Fit rs r.guard ∧ r.guard.dep ≤ 2
  len : r.as.length ≤ 10
  ne : r.as ≠ []
  as : ∀ p ∈ r.as, FitT rs p.1 ∧ Fit rs p.2 ∧ p.2.dep ≤ 2
def preGoal : List PyData → Prop := fun ds => ∃ (rs : List Row), ds = [cellsD rs] ∧ RowsIn rs ∧ 0 < rs.length
def rGoal : List PyData → PyData → Prop := fun ds d => ∃ (rs : List Row) (t : Tg), ds = [cellsD rs] ∧ d = t.d ∧ FitT rs t
theorem ok_goal {f fd} (F : Fun M.K "_law_goal" "_law_goal" s__law_goal f fd) (b : Bl M) (dd : Dc M "_law_draw" ["_law_feed_here", "_law_many"] 1 (spD preDraw rDraw M.K)) (df : dcForm M 1) :
    FnOk M.prog M.w M.K M.mg M.base CX0 5 f fd ["_law_feed_here", "_law_rows_here"] (spD preGoal rGoal M.K) := by
  refine fn_ok F sc__law_goal (spD_len (n := 1) (by rintro ds ⟨_, rfl, _⟩; rfl)) (fun H vs Q E h => ?_)
  obtain ⟨fp, cl, rest, ds, rfl, hf, hds, ⟨rs, rfl, ri, hpos⟩, k⟩ := h
  obtain _ | ⟨hc, hds⟩ := hds
  cases hds
  tm_at "go"
  refine e_draw dd ?_
  tm_at "go"
  refine rc_lenT hc ?_
  have hl := ri.len
  refine ⟨fp, cl, _, rfl, rfl, by rw [List.length_map]; omega, hf, fun r1 H1 r10 r11 k1 f1 => ?_⟩
  rw [List.length_map] at r11
  refine rx_pickT (hc.mono k1.t) r10 (by rw [List.length_map]; exact r11) fun v d hd hv => ?_
  rw [List.getElem?_map] at hd
  obtain ⟨r, hr, rfl⟩ := Option.map_eq_some_iff.mp hd
  have hmem := List.mem_of_getElem? hr
  tm_at "go"
  refine ifd (fun c1 => ?_) (fun c1 => ?_)
  · tm_at "go"
    exact k _ _ _ ⟨rs, .nm r.1, rfl, rfl, r, hmem, rfl, by omega⟩ k1 f1 (.str _)
  · refine e_tupD ?_
    tm_at "go"
    refine e_callD df ?_
    tm_at "go"
    refine ⟨fp, cl, _, _, rfl, f1, by tm_at "dts", ⟨rs, 1, rfl, ri, by decide⟩, ?_⟩
    rintro d v2 H2 ⟨rs', deep', e, e1, rfl, fit, dep⟩ k2 f2 hv2
    obtain rfl : rs = rs' := cellsD_inj (List.cons.inj e1).1
    obtain rfl : 1 = deep' := PyData.int.inj (List.cons.inj (List.cons.inj e1).2).1
    tm_at "go"
    refine tupend (ds := [.str r.1, e.d]) (.cons (.str _) (.cons hv2 .nil)) (Nat.le_of_ble_eq_true rfl) fun v9 H9 s9 h9 => ?_
    exact k _ _ _ ⟨rs, .at r.1 e, rfl, rfl, ⟨r, hmem, rfl, by omega⟩, fit, Nat.le_trans dep (by decide)⟩ (k1.trans (k2.trans (kp_same s9))) (f2.same s9) h9
def preRule : List PyData → Prop := fun ds => ∃ (rs : List Row) (nm : Str), ds = [cellsD rs, .str nm] ∧ RowsIn rs ∧ 0 < rs.length ∧ PyData.strOk nm = true
def rRule : List PyData → PyData → Prop := fun ds d => ∃ (rs : List Row) (nm : Str) (r : Rl), ds = [cellsD rs, .str nm] ∧ d = r.d ∧ FitR rs r
theorem ok_rule {f fd} (F : Fun M.K "_law_rule" "_law_rule" s__law_rule f fd) (b : Bl M) (dd : Dc M "_law_draw" ["_law_feed_here", "_law_many"] 1 (spD preDraw rDraw M.K)) (df : dcForm M 2) (dg : Dc M "_law_goal" ["_law_feed_here", "_law_rows_here"] 5 (spD preGoal rGoal M.K)) :
    FnOk M.prog M.w M.K M.mg M.base CX0 6 f fd ["_law_feed_here", "_law_rows_here", "_law_name"] (spD preRule rRule M.K) := by
  refine fn_ok F sc__law_rule (spD_len (n := 2) (by rintro ds ⟨_, _, rfl, _⟩; rfl)) (fun H vs Q E h => ?_)
  obtain ⟨fp, cl, rest, ds, rfl, hf, hds, ⟨rs, nm, rfl, ri, hpos, hnm⟩, k⟩ := h
  obtain _ | ⟨hc, hds⟩ := hds
  obtain _ | ⟨hn, hds⟩ := hds
  cases hds
  cases hn
  rename_i vr
  refine b_cut (fun σ1 H' => ∃ (g : Ex) (vg : V), Fit rs g ∧ g.dep ≤ 2 ∧ Dt M.K H' vg g.d ∧ Kp fp H H' ∧ Feed M.K H' fp cl ∧ σ1 = [some (.ref fp), some vr, some (.str nm), some vg, none, none]) ?_ ?_
  · tm_at "go"
    refine e_draw dd ?_
    tm_at "go"
    refine ⟨fp, cl, _, rfl, rfl, by decide, hf, fun r1 H1 r10 r11 k1 f1 => ?_⟩
    tm_at "go"
    refine ifd (fun c1 => ?_) (fun c1 => ?_)
    · tm_at "go"
      exact ⟨.int 1, _, ⟨by decide, by decide⟩, Nat.zero_le _, .int 1, k1, f1, rfl⟩
    · refine e_callD df ?_
      tm_at "go"
      refine ⟨fp, cl, _, _, rfl, f1, by tm_at "dts", ⟨rs, 2, rfl, ri, by decide⟩, ?_⟩
      rintro d v2 H2 ⟨rs', deep', e, e1, rfl, fit, dep⟩ k2 f2 hv2
      obtain rfl : rs = rs' := cellsD_inj (List.cons.inj e1).1
      obtain rfl : 2 = deep' := PyData.int.inj (List.cons.inj (List.cons.inj e1).2).1
      exact ⟨e, v2, fit, dep, hv2, k1.trans k2, f2, rfl⟩
  rintro _ H1 ⟨g, vg, gfit, gdep, hg, k1, f1, rfl⟩
  refine b_cut (fun σ1 H' => ∃ (l : Addr) (us : List V) (as : List (Tg × Ex)), (∀ p ∈ as, FitT rs p.1 ∧ Fit rs p.2 ∧ p.2.dep ≤ 2) ∧ as ≠ [] ∧ as.length ≤ 10 ∧ H' l = some (.lst us) ∧ DtAll M.K H' us (as.map asD) ∧ Kp fp H1 H' ∧ Feed M.K H' fp cl ∧ σ1 = [some (.ref fp), some vr, some (.str nm), some vg, some (.ref l), none]) ?_ ?_
  · refine s_setLc (own := [("_law_k", 5)]) (by tm_at "at") (Blk.of (N := N__law_rule) (sc := defScope s__law_rule) rfl rfl (by decide +kernel)) ?_
    refine lc_R1 b.range ?_
    tm_at "go"
    refine e_draw dd ?_
    tm_at "go"
    refine ⟨fp, cl, _, rfl, rfl, by decide, f1, fun r2 H2 r20 r21 k2 f2 => ?_⟩
    tm_at "go"
    refine ⟨by omega, fun D hD => ?_⟩
    have nD : D ≠ fp := ne_feed f2 (Same.refl _) hD
    have nC : D ≠ cl := ne_cl f2 (Same.refl _) hD
    refine ⟨fun i acc H' => ∃ as : List (Tg × Ex), acc.length ≤ i ∧ as.length = i ∧ Kp fp H1 H' ∧ Feed M.K H' fp cl ∧ H' D = some (.lst acc) ∧ DtAll M.K H' acc (as.map asD) ∧ ∀ p ∈ as, FitT rs p.1 ∧ Fit rs p.2 ∧ p.2.dep ≤ 2, ?_, ?_, ?_, ?_⟩
    · exact ⟨[], Nat.le_refl _, rfl, kp_mut k2 (kp_none k2 hD nD), f2.upd nD nC, upd_same, .nil, fun _ h => nomatch h⟩
    · rintro i acc H' ⟨as, h, _⟩
      exact h
    · rintro i acc H9 hi ⟨as, hl, hle, kH, f9, g9, h9, he⟩
      refine g_name (by tm_at "at") ⟨rfl, ts_nil (ift ?_)⟩
      refine e_tupD ?_
      refine a_cons ?_
      refine e_callD dg ?_
      tm_at "go"
      refine ⟨fp, cl, _, _, rfl, f9, .cons (hc.mono (k1.t.trans kH.t)) .nil, ⟨rs, rfl, ri, hpos⟩, ?_⟩
      rintro d va H10 ⟨rs', t, e1, rfl, fitt⟩ k10 f10 hva
      obtain rfl : rs = rs' := cellsD_inj (List.cons.inj e1).1
      tm_at "go"
      refine e_callD df ?_
      tm_at "go"
      refine ⟨fp, cl, _, _, rfl, f10, .cons (hc.mono (k1.t.trans (kH.t.trans k10.t))) (.cons (.int _) .nil), ⟨rs, 2, rfl, ri, by decide⟩, ?_⟩
      rintro d v2 H11 ⟨rs', deep', e, e1, rfl, fit, dep⟩ k11 f11 hv2
      obtain rfl : rs = rs' := cellsD_inj (List.cons.inj e1).1
      obtain rfl : 2 = deep' := PyData.int.inj (List.cons.inj (List.cons.inj e1).2).1
      tm_at "go"
      refine tupend (ds := [t.d, e.d]) (.cons (hva.mono k11.t) (.cons hv2 .nil)) (Nat.le_of_ble_eq_true rfl) fun v9 H12 s12 h12 => ?_
      have k912 := k10.trans (k11.trans (kp_same (m := fp) s12))
      have g12 := k912.k _ _ nD g9
      have ku := kp_upd (o' := .lst (acc ++ [v9])) g12 (fun _ e => nomatch e) (fun _ _ e => nomatch e)
      refine ⟨g12, as ++ [(t, e)], by rw [List.length_append]; exact Nat.succ_le_succ hl, by rw [List.length_append, hle]; rfl, kp_mut (kH.trans k912) (kp_none k2 hD nD), (f11.same s12).upd nD nC, upd_same, ?_, ?_⟩
      · rw [List.map_append]
        exact (h9.mono (k912.t.trans ku.t)).app (.cons (h12.mono ku.t) .nil)
      · intro e' he'
        rcases List.mem_append.mp he' with he' | he'
        · exact he e' he'
        · rw [List.mem_singleton.mp he']
          exact ⟨fitt, fit, dep⟩
    · rintro acc H9 ⟨as, hl, hle, kH, f9, g9, h9, he⟩
      exact ⟨D, acc, as, he, by intro e; rw [e] at hle; simp at hle; omega, by omega, g9, h9, kH, f9, rfl⟩
  rintro _ H2 ⟨l, us, as, has, hne, hle, g2, h2, k2, f2, rfl⟩
  tm_at "go"
  refine e_tupD ?_
  tm_at "go"
  refine rc_tupL (.of g2) h2 fun v3 H3 s3 h3 => ?_
  tm_at "go"
  refine tupend (ds := [.str nm, g.d, .tuple (as.map asD)]) (.cons (.str _) (.cons (hg.mono (k2.t.trans (tp_same s3))) (.cons h3 .nil))) (Nat.le_of_ble_eq_true rfl) fun v9 H9 s9 h9 => ?_
  exact k _ _ _ ⟨rs, nm, ⟨nm, g, as⟩, rfl, rfl, hnm, ⟨gfit, gdep⟩, hle, hne, has⟩ (k1.trans (k2.trans (kp_same (s3.trans s9)))) (f2.same (s3.trans s9)) h9
end K

namespace K
open PySem L2 G
variable {M : Md}
/-! ### the meaning of expressions -/
def gt (st : St1) (j : Int) : Int := st.getD j.toNat 0
def b2 (p : Prop) [Decidable p] : Int := if p then 1 else 0
def un1 (op : Str) (v : Int) : Int := if op = "not" then b2 (v = 0) else -v
def cmp2 (op : Str) (a b : Int) : Bool := if op = "=" then decide (a = b) else if op = "<" then decide (a < b) else decide (a ≤ b)
def bin2 (op : Str) (a b : Int) : Int := if op = "+" then a + b else if op = "-" then a - b else if op = "*" then a * b else if op = "div" then a / b else if op = "mod" then a % b else
  if op = "least" then (if b < a then b else a) else if op = "most" then (if b > a then b else a) else if cmp2 op a b = true then 1 else 0
def ix (rs : List Row) (s : Str) : Int := (fIdx rs s none 0).getD 0
abbrev Res := Option Int × List Int
def thn1 (r : Res) (g : Int → Res) : Res := match r.1 with
  | none => (none, r.2)
  | some v => ((g v).1, r.2 ++ (g v).2)
def keyed (rs : List Row) (t : Str) (r : Res) : Res := match r.1 with
  | none => (none, r.2)
  | some v => (fIdx rs t (some v) 0, r.2)
def isLazy (op : Str) : Bool := decide (op = "and") || decide (op = "or")
def ev (rs : List Row) (st : St1) : Ex → Res
  | .int i => (some i, [])
  | .nm s => (some (gt st (ix rs s)), [ix rs s])
  | .at t e => thn1 (keyed rs t (ev rs st e)) fun j => (some (gt st j), [j])
  | .un op e => thn1 (ev rs st e) fun v => (some (un1 op v), [])
  | .bin op a b => if isLazy op = true then thn1 (ev rs st a) fun v => if decide (v ≠ 0) = decide (op = "or") then (some (b2 (v ≠ 0)), []) else thn1 (ev rs st b) fun w => (some (b2 (w ≠ 0)), [])
    else thn1 (ev rs st a) fun v => thn1 (ev rs st b) fun w => (some (bin2 op v w), [])
  | .kk op e n => thn1 (ev rs st e) fun v => (some (bin2 op v n), [])
  | .ite a b e => thn1 (ev rs st a) fun v => if v ≠ 0 then ev rs st b else ev rs st e
def resD (r : Res) : PyData := .tuple [optD r.1, .tuple (r.2.map .int)]
structure StOk (rs : List Row) (st : St1) : Prop where
  len : st.length = total rs
  val : ∀ v ∈ st, -10 ≤ v ∧ v ≤ 10
  tot : total rs ≤ 10
  nd : (rs.map nameOf).Nodup
  ri : RowsIn rs
  rng : ∀ (i : Nat) (r : Rng), (rg rs)[i]? = some r → r.1 ≤ gt st i ∧ gt st i ≤ r.2
theorem fIdx_in : ∀ {rs : List Row} {s : Str} {key : Option Int} {b j : Int}, fIdx rs s key b = some j → b ≤ j ∧ j < b + total rs
  | [], _, _, _, _, h => by cases h
  | r :: rs, s, key, b, j, h => by
    have e : total (r :: rs) = width r + total rs := by simp [total]
    have w1 : 1 ≤ width r := Nat.le_max_left _ _
    have w2 : r.2.1 ≤ width r := Nat.le_max_right _ _
    unfold fIdx at h
    split at h
    · cases key with
      | none =>
        rw [hit] at h
        split at h
        · cases h; omega
        · cases h
      | some k =>
        rw [hit] at h
        split at h
        · cases h; omega
        · cases h
    · have := fIdx_in h
      omega
theorem fIdx_plain : ∀ {rs : List Row} {s : Str} (b : Int), (rs.map nameOf).Nodup → (∃ r ∈ rs, r.1 = s ∧ r.2.1 = 0) → ∃ j, fIdx rs s none b = some j
  | [], _, _, _, h => by obtain ⟨r, hr, _⟩ := h; cases hr
  | r :: rs, s, b, nd, h => by
    rw [List.map_cons, List.nodup_cons] at nd
    unfold fIdx
    by_cases e : r.1 = s
    · rw [if_pos e]
      obtain ⟨r', hr', e', z'⟩ := h
      rcases List.mem_cons.mp hr' with rfl | hm
      · refine ⟨b, ?_⟩
        rw [hit]
        rw [if_pos (by omega)]
      · exact absurd (List.mem_map.mpr ⟨r', hm, show nameOf r' = nameOf r from e'.trans e.symm⟩) nd.1
    · rw [if_neg e]
      refine fIdx_plain _ nd.2 ?_
      obtain ⟨r', hr', e', z'⟩ := h
      rcases List.mem_cons.mp hr' with rfl | hm
      · exact absurd e' e
      · exact ⟨r', hm, e', z'⟩
theorem ix_ok {rs : List Row} {s : Str} (nd : (rs.map nameOf).Nodup) (h : ∃ r ∈ rs, r.1 = s ∧ r.2.1 = 0) : fIdx rs s none 0 = some (ix rs s) ∧ 0 ≤ ix rs s ∧ ix rs s < total rs := by
  obtain ⟨j, hj⟩ := fIdx_plain 0 nd h
  have e : ix rs s = j := by unfold ix; rw [hj]; rfl
  have := fIdx_in hj
  rw [e]
  exact ⟨hj, by omega, by omega⟩
theorem gt_at {rs : List Row} {st : St1} (S : StOk rs st) {j : Int} (h0 : 0 ≤ j) (h1 : j < total rs) : atI (st.map PyData.int) j = some (.int (gt st j)) := by
  have hl := S.len
  have hlt : j.toNat < st.length := by omega
  refine pl_at (j := j.toNat) (by omega) ?_
  rw [List.getElem?_map, List.getElem?_eq_getElem hlt]
  unfold gt
  rw [List.getD_eq_getElem?_getD, List.getElem?_eq_getElem hlt]
  rfl
theorem gt_val {rs : List Row} {st : St1} (S : StOk rs st) (j : Int) : -10 ≤ gt st j ∧ gt st j ≤ 10 := by
  unfold gt
  rw [List.getD_eq_getElem?_getD]
  cases e : st[j.toNat]? with
  | none => exact ⟨by decide, by decide⟩
  | some v => exact S.val v (List.mem_of_getElem? e)
theorem thn1_some {r : Res} {g : Int → Res} {w : Int} (h : (thn1 r g).1 = some w) : ∃ v, r.1 = some v ∧ (g v).1 = some w := by
  unfold thn1 at h
  cases e : r.1 with
  | none => rw [e] at h; cases h
  | some v => rw [e] at h; exact ⟨v, rfl, h⟩
def Bd : Nat → Nat
  | 0 => 10
  | n + 1 => Bd n * Bd n
theorem Bd_ge : ∀ n, 10 ≤ Bd n
  | 0 => Nat.le_refl _
  | n + 1 => Nat.le_trans (Bd_ge n) (Nat.le_mul_of_pos_left _ (Nat.lt_of_lt_of_le (by decide) (Bd_ge n)))
theorem Bd_two (n : Nat) : 2 * Bd n ≤ Bd (n + 1) := Nat.mul_le_mul_right _ (Nat.le_trans (by decide) (Bd_ge n))
theorem Bd_up (n : Nat) : Bd n ≤ Bd (n + 1) := by have := Bd_two n; omega
theorem un1_b {op : Str} {v : Int} {n : Nat} (h : v.natAbs ≤ Bd n) : (un1 op v).natAbs ≤ Bd (n + 1) := by
  have h1 := Bd_up n
  have h2 := Bd_ge n
  unfold un1 b2
  split
  · split <;> simp <;> omega
  · rw [Int.natAbs_neg]; omega
theorem bin2_b {op : Str} {a b : Int} {n : Nat} (ha : a.natAbs ≤ Bd n) (hb : b.natAbs ≤ Bd n) (hd : op = "div" ∨ op = "mod" → 1 ≤ b) : (bin2 op a b).natAbs ≤ Bd (n + 1) := by
  have h1 := Bd_two n
  have h2 := Bd_ge n
  unfold bin2
  split
  · omega
  split
  · omega
  split
  · rw [Int.natAbs_mul]; exact Nat.mul_le_mul ha hb
  split
  · rename_i h
    have hb1 := hd (.inl h)
    have : (a / b).natAbs ≤ a.natAbs := Int.natAbs_ediv_le_natAbs a b
    omega
  split
  · rename_i h
    have hb1 := hd (.inr h)
    have q1 := Int.emod_nonneg a (show b ≠ 0 by omega)
    have q2 := Int.emod_lt_of_pos a (show 0 < b by omega)
    omega
  split
  · split <;> omega
  split
  · split <;> omega
  split <;> simp <;> omega
theorem thn1_len {r : Res} {g : Int → Res} {a b : Nat} (h : r.2.length ≤ a) (h2 : ∀ v, r.1 = some v → (g v).2.length ≤ b) : (thn1 r g).2.length ≤ a + b := by
  unfold thn1
  cases e : r.1 with
  | none => simp; omega
  | some v => have := h2 v e; simp; omega
theorem kind_bin {op : Str} (h : op ∈ bins) : op ≠ "div" ∧ op ≠ "mod" := by
  have : ∀ op ∈ bins, op ≠ "div" ∧ op ≠ "mod" := by decide +kernel
  exact this op h
theorem b2_b (p : Prop) [Decidable p] (n : Nat) : (b2 p).natAbs ≤ Bd n := by
  have := Bd_ge n
  unfold b2
  split <;> simp <;> omega
theorem Bd_mono {m n : Nat} (h : m ≤ n) : Bd m ≤ Bd n := by
  induction h with
  | refl => exact Nat.le_refl _
  | step _ ih => exact Nat.le_trans ih (Bd_up _)
theorem evB {rs : List Row} {st : St1} (S : StOk rs st) : ∀ (e : Ex) (n : Nat) (v : Int), e.dep ≤ n → Fit rs e → (ev rs st e).1 = some v → v.natAbs ≤ Bd n
  | .int i, n, v, _, hf, h => by
    have h2 := Bd_ge n
    unfold ev at h
    cases h
    unfold Fit at hf
    omega
  | .nm s, n, v, _, hf, h => by
    have h2 := Bd_ge n
    unfold ev at h
    cases h
    have := gt_val S (ix rs s)
    omega
  | .at t e, n, v, hn, hf, h => by
    have h2 := Bd_ge n
    unfold ev at h
    obtain ⟨j, _, h3⟩ := thn1_some h
    cases h3
    have := gt_val S j
    omega
  | .un op e, n, v, hn, hf, h => by
    unfold Ex.dep at hn
    obtain ⟨m, rfl⟩ : ∃ m, n = m + 1 := ⟨n - 1, by omega⟩
    unfold ev at h
    obtain ⟨w, h3, h4⟩ := thn1_some h
    cases h4
    exact un1_b (evB S e m w (by omega) hf.2 h3)
  | .bin op a b, n, v, hn, hf, h => by
    unfold Ex.dep at hn
    obtain ⟨m, rfl⟩ : ∃ m, n = m + 1 := ⟨n - 1, by omega⟩
    unfold ev at h
    split at h
    · obtain ⟨w, h3, h4⟩ := thn1_some h
      split at h4
      · cases h4; exact b2_b _ _
      · obtain ⟨w2, h5, h6⟩ := thn1_some h4
        cases h6; exact b2_b _ _
    · obtain ⟨w, h3, h4⟩ := thn1_some h
      obtain ⟨w2, h5, h6⟩ := thn1_some h4
      cases h6
      exact bin2_b (evB S a m w (by omega) hf.2.1 h3) (evB S b m w2 (by omega) hf.2.2 h5) (fun z => z.elim (fun z => absurd z (kind_bin hf.1).1) (fun z => absurd z (kind_bin hf.1).2))
  | .kk op e k, n, v, hn, hf, h => by
    unfold Ex.dep at hn
    obtain ⟨m, rfl⟩ : ∃ m, n = m + 1 := ⟨n - 1, by omega⟩
    unfold ev at h
    obtain ⟨w, h3, h4⟩ := thn1_some h
    cases h4
    have h2 := Bd_ge m
    have h5 := hf.2.2
    exact bin2_b (evB S e m w (by omega) hf.2.1 h3) (by omega) (fun _ => h5.1)
  | .ite a b e, n, v, hn, hf, h => by
    unfold Ex.dep at hn
    obtain ⟨m, rfl⟩ : ∃ m, n = m + 1 := ⟨n - 1, by omega⟩
    unfold ev at h
    obtain ⟨w, h3, h4⟩ := thn1_some h
    have h2 := Bd_up m
    split at h4
    · exact Nat.le_trans (evB S b m v (by omega) hf.2.1 h4) h2
    · exact Nat.le_trans (evB S e m v (by omega) hf.2.2 h4) h2
theorem keyed_snd (rs : List Row) (t : Str) (r : Res) : (keyed rs t r).2 = r.2 := by
  unfold keyed
  split <;> rfl
theorem evL {rs : List Row} {st : St1} : ∀ (e : Ex) (n : Nat), e.dep ≤ n → (ev rs st e).2.length ≤ 2 ^ (n + 1)
  | .int i, n, _ => by unfold ev; exact Nat.zero_le _
  | .nm s, n, _ => by unfold ev; exact Nat.pos_of_ne_zero (by simp)
  | .at t e, n, hn => by
    unfold Ex.dep at hn
    obtain ⟨m, rfl⟩ : ∃ m, n = m + 1 := ⟨n - 1, by omega⟩
    have h1 := evL (rs := rs) (st := st) e m (by omega)
    have h2 : 0 < 2 ^ (m + 1) := Nat.pos_of_ne_zero (by simp)
    unfold ev
    rw [Nat.pow_succ, Nat.mul_two]
    exact thn1_len (by rw [keyed_snd]; exact h1) (fun v _ => h2)
  | .un op e, n, hn => by
    unfold Ex.dep at hn
    obtain ⟨m, rfl⟩ : ∃ m, n = m + 1 := ⟨n - 1, by omega⟩
    have h1 := evL (rs := rs) (st := st) e m (by omega)
    unfold ev
    rw [Nat.pow_succ, Nat.mul_two]
    exact thn1_len h1 (fun v _ => Nat.zero_le _)
  | .bin op a b, n, hn => by
    unfold Ex.dep at hn
    obtain ⟨m, rfl⟩ : ∃ m, n = m + 1 := ⟨n - 1, by omega⟩
    have h1 := evL (rs := rs) (st := st) a m (by omega)
    have h2 := evL (rs := rs) (st := st) b m (by omega)
    unfold ev
    rw [Nat.pow_succ, Nat.mul_two]
    split
    · refine thn1_len h1 fun v _ => ?_
      split
      · exact Nat.zero_le _
      · exact thn1_len (b := 0) h2 fun _ _ => Nat.le_refl _
    · refine thn1_len h1 fun v _ => ?_
      exact thn1_len (b := 0) h2 fun _ _ => Nat.le_refl _
  | .kk op e k, n, hn => by
    unfold Ex.dep at hn
    obtain ⟨m, rfl⟩ : ∃ m, n = m + 1 := ⟨n - 1, by omega⟩
    have h1 := evL (rs := rs) (st := st) e m (by omega)
    unfold ev
    rw [Nat.pow_succ, Nat.mul_two]
    exact thn1_len h1 (fun v _ => Nat.zero_le _)
  | .ite a b e, n, hn => by
    unfold Ex.dep at hn
    obtain ⟨m, rfl⟩ : ∃ m, n = m + 1 := ⟨n - 1, by omega⟩
    have h1 := evL (rs := rs) (st := st) a m (by omega)
    have h2 := evL (rs := rs) (st := st) b m (by omega)
    have h3 := evL (rs := rs) (st := st) e m (by omega)
    unfold ev
    rw [Nat.pow_succ, Nat.mul_two]
    refine thn1_len h1 fun v _ => ?_
    split
    · exact h2
    · exact h3
end K

namespace K
open PySem L2 G
variable {M : Md}
theorem dib {p : Prop} [Decidable p] : (if decide p = true then (1 : Int) else 0) = b2 p := by
  unfold b2
  by_cases h : p
  · rw [if_pos (decide_eq_true h), if_pos h]
  · rw [if_neg (by simp [h]), if_neg h]
def rIndex : List PyData → PyData → Prop := fun ds d => ∃ (rs : List Row) (s : Str) (j : Int), ds = [cellsD rs, .str s, .none] ∧ fIdx rs s none 0 = some j ∧ d = .int j
theorem ok_index {f fd} (F : Fun M.K "cell_index" "cell_index" s_cell_index f fd) (b : Bl M) (df : Dc M "found_index" ["cells", "name", "key"] 2 (spF rFound M.K)) : FnOk M.prog M.w M.K M.mg M.base CX0 3 f fd ["cells", "name", "key"] (spF rIndex M.K) := by
  refine fn_ok F sc_cell_index (fun vs H Q E h => ?_) (fun H vs Q E h => ?_)
  · obtain ⟨ds, d, h, ⟨rs, s, j, rfl, _⟩, _⟩ := h
    exact h.len
  obtain ⟨ds, d, h, ⟨rs, s, j, rfl, hj, rfl⟩, k⟩ := h
  obtain _ | ⟨hc, h⟩ := h
  obtain _ | ⟨hs, h⟩ := h
  obtain _ | ⟨hn, h⟩ := h
  cases h
  cases hs
  cases hn
  tm_at "go"
  refine e_callF df ?_
  tm_at "go"
  refine ⟨_, _, .cons hc (.cons (.str _) (.cons .non .nil)), ⟨rs, s, none, rfl, rfl⟩, fun v H1 s1 hv => ?_⟩
  rw [hj] at hv
  cases hv
  tm_at "go"
  exact k _ _ s1 (.int _)
def isIntD : PyData → Bool
  | .int _ => true
  | _ => false
def plainD : PyData → Prop
  | .int _ | .str _ | .tuple _ => True
  | _ => False
theorem rc_isiD {c : Cd} {H : Hp} {Q : VK} {v : V} {x : PyData} (hp : plainD x) (hx : Dt c.K H v x) (q : Q (.bl (isIntD x)) H) : RC c (.builtin "isinstance") [v, .ty "int"] H Q := by
  cases x with
  | int i =>
    cases hx
    exact rc_isi (.base (.int i)) rfl q
  | str s =>
    cases hx
    exact rc_isi (.base (.str s)) rfl q
  | tuple ds =>
    obtain ⟨a, xs, rfl, ht, _⟩ := hx.tupE
    exact rc_isi (ty_tup ht) rfl q
  | none => exact hp.elim
  | bool => exact hp.elim
  | list => exact hp.elim
  | dict => exact hp.elim
def rOne : List PyData → PyData → Prop := fun ds d => ∃ (op : Str) (v : Int), ds = [.str op, .int v] ∧ d = .int (un1 op v)
theorem ok_one {f fd} (F : Fun M.K "_of_one" "_of_one" s__of_one f fd) (b : Bl M) : FnOk M.prog M.w M.K M.mg M.base CX0 1 f fd ["op", "value"] (spF rOne M.K) := by
  refine fn_ok F sc__of_one (fun vs H Q E h => ?_) (fun H vs Q E h => ?_)
  · obtain ⟨ds, d, h, ⟨op, v, rfl, _⟩, _⟩ := h
    exact h.len
  obtain ⟨ds, d, h, ⟨op, v, rfl, rfl⟩, k⟩ := h
  obtain _ | ⟨h1, h⟩ := h
  obtain _ | ⟨h2, h⟩ := h
  cases h
  cases h1
  cases h2
  tm_at "go"
  refine ifd (fun c1 => ?_) (fun c1 => ?_)
  · tm_at "go"
    refine k _ _ (Same.refl _) ?_
    rw [un1, if_pos c1, dib]
    exact .int _
  · tm_at "go"
    refine k _ _ (Same.refl _) ?_
    rw [un1, if_neg c1]
    exact .int _
def rCmp : List PyData → PyData → Prop := fun ds d => ∃ (op : Str) (a b : Int), ds = [.str op, .int a, .int b] ∧ d = .bool (cmp2 op a b)
theorem ok_cmp {f fd} (F : Fun M.K "_compared" "_compared" s__compared f fd) (b : Bl M) : FnOk M.prog M.w M.K M.mg M.base CX0 1 f fd ["op", "one", "other"] (spF rCmp M.K) := by
  refine fn_ok F sc__compared (fun vs H Q E h => ?_) (fun H vs Q E h => ?_)
  · obtain ⟨ds, d, h, ⟨op, v, w, rfl, _⟩, _⟩ := h
    exact h.len
  obtain ⟨ds, d, h, ⟨op, v, w, rfl, rfl⟩, k⟩ := h
  obtain _ | ⟨h1, h⟩ := h
  obtain _ | ⟨h2, h⟩ := h
  obtain _ | ⟨h3, h⟩ := h
  cases h
  cases h1
  cases h2
  cases h3
  tm_at "go"
  refine ifd (fun c1 => ?_) (fun c1 => ?_)
  · tm_at "go"
    refine k _ _ (Same.refl _) ?_
    rw [cmp2, if_pos c1]
    exact .bl _
  · tm_at "go"
    refine ifd (fun c2 => ?_) (fun c2 => ?_)
    · tm_at "go"
      refine k _ _ (Same.refl _) ?_
      rw [cmp2, if_neg c1, if_pos c2]
      exact .bl _
    · tm_at "go"
      refine k _ _ (Same.refl _) ?_
      rw [cmp2, if_neg c1, if_neg c2]
      exact .bl _
def rTwo : List PyData → PyData → Prop := fun ds d => ∃ (op : Str) (a b : Int), ds = [.str op, .int a, .int b] ∧ (-(2 ^ 64) < a ∧ a < 2 ^ 64) ∧ (op = "div" ∨ op = "mod" → 1 ≤ b ∧ b < 1000) ∧ d = .int (bin2 op a b)
set_option maxHeartbeats 1000000 in
theorem ok_two {f fd} (F : Fun M.K "value_of_two" "value_of_two" s_value_of_two f fd) (b : Bl M) (dc : Dc M "_compared" ["op", "one", "other"] 1 (spF rCmp M.K)) : FnOk M.prog M.w M.K M.mg M.base CX0 2 f fd ["op", "one", "other"] (spF rTwo M.K) := by
  refine fn_ok F sc_value_of_two (fun vs H Q E h => ?_) (fun H vs Q E h => ?_)
  · obtain ⟨ds, d, h, ⟨op, v, w, rfl, _⟩, _⟩ := h
    exact h.len
  obtain ⟨ds, d, h, ⟨op, x, y, rfl, hb, hdm, rfl⟩, k⟩ := h
  obtain _ | ⟨h1, h⟩ := h
  obtain _ | ⟨h2, h⟩ := h
  obtain _ | ⟨h3, h⟩ := h
  cases h
  cases h1
  cases h2
  cases h3
  tm_at "go"
  refine ifd (fun c1 => ?_) (fun c1 => ?_)
  · tm_at "go"
    refine k _ _ (Same.refl _) ?_
    rw [bin2, if_pos c1]
    exact .int _
  tm_at "go"
  refine ifd (fun c2 => ?_) (fun c2 => ?_)
  · tm_at "go"
    refine k _ _ (Same.refl _) ?_
    rw [bin2, if_neg c1, if_pos c2]
    exact .int _
  tm_at "go"
  refine ifd (fun c3 => ?_) (fun c3 => ?_)
  · tm_at "go"
    refine ro_mul (.inl hb) ?_
    refine k _ _ (Same.refl _) ?_
    rw [bin2, if_neg c1, if_neg c2, if_pos c3]
    exact .int _
  tm_at "go"
  refine ifd (fun c4 => ?_) (fun c4 => ?_)
  · tm_at "go"
    have := hdm (.inl c4)
    refine ro_div (by omega) (by omega) ?_
    refine k _ _ (Same.refl _) ?_
    rw [bin2, if_neg c1, if_neg c2, if_neg c3, if_pos c4]
    exact .int _
  tm_at "go"
  refine ifd (fun c5 => ?_) (fun c5 => ?_)
  · tm_at "go"
    have := hdm (.inr c5)
    refine ro_mod (by omega) ?_
    refine k _ _ (Same.refl _) ?_
    rw [bin2, if_neg c1, if_neg c2, if_neg c3, if_neg c4, if_pos c5]
    exact .int _
  tm_at "go"
  refine ifd (fun c6 => ?_) (fun c6 => ?_)
  · tm_at "go"
    refine k _ _ (Same.refl _) ?_
    rw [bin2, if_neg c1, if_neg c2, if_neg c3, if_neg c4, if_neg c5, if_pos c6]
    exact .int _
  tm_at "go"
  refine ifd (fun c7 => ?_) (fun c7 => ?_)
  · tm_at "go"
    refine k _ _ (Same.refl _) ?_
    rw [bin2, if_neg c1, if_neg c2, if_neg c3, if_neg c4, if_neg c5, if_neg c6, if_pos c7]
    exact .int _
  tm_at "go"
  refine e_callF dc ?_
  tm_at "go"
  refine ⟨_, _, .cons (.str _) (.cons (.int _) (.cons (.int _) .nil)), ⟨op, x, y, rfl, rfl⟩, fun v H1 s1 hv => ?_⟩
  cases hv
  tm_at "go"
  refine k _ _ s1 ?_
  rw [bin2, if_neg c1, if_neg c2, if_neg c3, if_neg c4, if_neg c5, if_neg c6, if_neg c7]
  exact .int _
end K

namespace K
open PySem L2 G
variable {M : Md}
/-- what evaluated is given, and what it answers, to the depth n -/
structure EvIn (rs : List Row) (st : St1) (e : Ex) (n : Nat) : Prop where
  S : StOk rs st
  fit : Fit rs e
  dep : e.dep ≤ n
  n4 : n ≤ 4
def rEv (n : Nat) : List PyData → PyData → Prop := fun ds d => ∃ (rs : List Row) (st : St1) (e : Ex), ds = [cellsD rs, stD st, e.d] ∧ EvIn rs st e n ∧ d = resD (ev rs st e)
abbrev dcEv (M : Md) (n : Nat) : Prop := Dc M "evaluated" ["cells", "state", "expression"] (2 * n + 4) (spF (rEv n) M.K)
def rKey (n : Nat) : List PyData → PyData → Prop := fun ds d => ∃ (rs : List Row) (st : St1) (t : Str) (e : Ex), ds = [cellsD rs, stD st, .str t, e.d] ∧ EvIn rs st e n ∧ d = resD (keyed rs t (ev rs st e))
theorem Ex.plain (e : Ex) : plainD e.d := by cases e <;> trivial
theorem optN {K : PySem.W.Frag} {H : Hp} {v : V} {o : Option Int} (h : Dt K H v (optD o)) : (o = none ∧ v = .non) ∨ ∃ i, o = some i ∧ v = .int i := by
  cases o with
  | none => cases h; exact .inl ⟨rfl, rfl⟩
  | some i => cases h; exact .inr ⟨i, rfl, rfl⟩
theorem ok_keyed (n : Nat) {f fd} (F : Fun M.K "keyed_index" "keyed_index" s_keyed_index f fd) (b : Bl M) (df : Dc M "found_index" ["cells", "name", "key"] 2 (spF rFound M.K)) (de : dcEv M n) : FnOk M.prog M.w M.K M.mg M.base CX0 (2 * n + 5) f fd ["cells", "state", "table", "key"] (spF (rKey n) M.K) := by
  refine fn_ok F sc_keyed_index (fun vs H Q E h => ?_) (fun H vs Q E h => ?_)
  · obtain ⟨ds, d, h, ⟨rs, st, t, e, rfl, _⟩, _⟩ := h
    exact h.len
  obtain ⟨ds, d, h, ⟨rs, st, t, e, rfl, hi, rfl⟩, k⟩ := h
  obtain _ | ⟨hc, h⟩ := h
  obtain _ | ⟨hst, h⟩ := h
  obtain _ | ⟨ht, h⟩ := h
  obtain _ | ⟨he, h⟩ := h
  cases h
  cases ht
  refine b_cons (s_asg ?_)
  refine e_callF de ?_ (Nat.le_refl _)
  tm_at "go"
  refine ⟨_, _, .cons hc (.cons hst (.cons he .nil)), ⟨rs, st, e, rfl, hi, rfl⟩, fun v H1 s1 hv => ?_⟩
  refine g_unp2 (by tm_at "at") (by tm_at "at") hv fun v1 v2 h1 h2 => ?_
  rcases optN h1 with ⟨eo, rfl⟩ | ⟨i, eo, rfl⟩
  · tm_at "go"
    refine e_tupD ?_
    tm_at "go"
    refine tupend (ds := [.none, .tuple ((ev rs st e).2.map .int)]) (.cons .non (.cons h2 .nil)) (Nat.le_of_ble_eq_true rfl) fun v9 H9 s9 h9 => ?_
    refine k _ _ (s1.trans s9) ?_
    unfold keyed resD
    rw [eo]
    exact h9
  · tm_at "go"
    refine e_tupD ?_
    tm_at "go"
    refine e_callF df ?_
    tm_at "go"
    refine ⟨_, _, .cons (hc.mono (tp_same s1)) (.cons (.str _) (.cons (.int _) .nil)), ⟨rs, t, some i, rfl, rfl⟩, fun v3 H3 s3 hv3 => ?_⟩
    tm_at "go"
    refine tupend (ds := [optD (fIdx rs t (some i) 0), .tuple ((ev rs st e).2.map .int)]) (.cons hv3 (.cons (h2.mono (tp_same s3)) .nil)) (Nat.le_of_ble_eq_true rfl) fun v9 H9 s9 h9 => ?_
    refine k _ _ (s1.trans (s3.trans s9)) ?_
    unfold keyed resD
    rw [eo]
    exact h9
end K

namespace K
open PySem L2 G
variable {M : Md}
def lazyE : Ex → Prop
  | .bin op _ _ => isLazy op = true
  | .ite _ _ _ => True
  | _ => False
def rLazy (n : Nat) : List PyData → PyData → Prop := fun ds d => ∃ (rs : List Row) (st : St1) (e : Ex), ds = [cellsD rs, stD st, e.d] ∧ lazyE e ∧ EvIn rs st e (n + 1) ∧ d = resD (ev rs st e)
theorem thn1_none {r : Res} {g : Int → Res} (h : r.1 = none) : thn1 r g = (none, r.2) := by
  unfold thn1
  rw [h]
theorem thn1_val {r : Res} {g : Int → Res} {v : Int} (h : r.1 = some v) : thn1 r g = ((g v).1, r.2 ++ (g v).2) := by
  unfold thn1
  rw [h]
theorem thn1_map {r : Res} {f : Int → Int} : thn1 r (fun w => (some (f w), [])) = (r.1.map f, r.2) := by
  unfold thn1
  cases r.1 with
  | none => rfl
  | some w => simp
theorem nb2 (v : Int) : (!decide (v = 0)) = decide (v ≠ 0) := by simp
theorem intb {p : Bool} : (if p = true then (1 : Int) else 0) = b2 (p = true) := rfl
theorem b2e {p q : Prop} [Decidable p] [Decidable q] (h : p ↔ q) : b2 p = b2 q := by
  unfold b2
  by_cases hp : p
  · rw [if_pos hp, if_pos (h.mp hp)]
  · rw [if_neg hp, if_neg (fun z => hp (h.mpr z))]
theorem lenLooks {rs : List Row} {st : St1} {e : Ex} {n : Nat} (h : e.dep ≤ n) (h4 : n ≤ 4) : ((ev rs st e).2.map PyData.int).length ≤ 32 := by
  rw [List.length_map]
  exact Nat.le_trans (evL e n h) (Nat.pow_le_pow_right (n := 2) (by decide) (show n + 1 ≤ 5 by omega))
set_option maxHeartbeats 2000000 in
theorem ok_lazy (n : Nat) {f fd} (F : Fun M.K "_lazy_value" "_lazy_value" s__lazy_value f fd) (b : Bl M) (de : dcEv M n) : FnOk M.prog M.w M.K M.mg M.base CX0 (2 * n + 5) f fd ["cells", "state", "expression"] (spF (rLazy n) M.K) := by
  refine fn_ok F sc__lazy_value (fun vs H Q E h => ?_) (fun H vs Q E h => ?_)
  · obtain ⟨ds, d, h, ⟨rs, st, e, rfl, _⟩, _⟩ := h
    exact h.len
  obtain ⟨ds, d, h, ⟨rs, st, e, rfl, hl, hi, rfl⟩, k⟩ := h
  obtain _ | ⟨hc, h⟩ := h
  obtain _ | ⟨hst, h⟩ := h
  obtain _ | ⟨he, h⟩ := h
  cases h
  obtain ⟨S, fit, dep, n4⟩ := hi
  cases e with
  | int => exact hl.elim
  | nm => exact hl.elim
  | «at» => exact hl.elim
  | un => exact hl.elim
  | kk => exact hl.elim
  | bin op ea eb =>
    unfold Ex.d at he
    unfold Fit at fit
    unfold Ex.dep at dep
    have hlz : isLazy op = true := hl
    have hop : op ≠ "if" := by
      rintro rfl
      exact absurd (show isLazy "if" = true from hl) (by decide)
    tm_at "go"
    refine s_asg ?_
    refine e_callF de ?_ (Nat.le_refl _)
    tm_at "go"
    refine rx_tup he (d := ea.d) rfl fun va hva => ?_
    tm_at "go"
    refine ⟨_, _, .cons hc (.cons hst (.cons hva .nil)), ⟨rs, st, ea, rfl, ⟨S, fit.2.1, by omega, by omega⟩, rfl⟩, fun v H1 s1 hv => ?_⟩
    refine g_unp2 (by tm_at "at") (by tm_at "at") hv fun v1 v2 h1 h2 => ?_
    rcases optN h1 with ⟨eo, rfl⟩ | ⟨i, eo, rfl⟩
    · tm_at "go"
      refine e_tupD ?_
      tm_at "go"
      refine tupend (ds := [.none, .tuple ((ev rs st ea).2.map .int)]) (.cons .non (.cons h2 .nil)) (Nat.le_of_ble_eq_true rfl) fun v9 H9 s9 h9 => ?_
      refine k _ _ (s1.trans s9) ?_
      have e1 : ev rs st (.bin op ea eb) = (none, (ev rs st ea).2) := by
        rw [ev, if_pos hlz, thn1_none eo]
      rw [e1]
      exact h9
    · tm_at "go"
      refine ifd (fun c1 => absurd c1 hop) (fun c1 => ?_)
      tm_at "go"
      rw [nb2]
      refine ifd (fun c2 => ?_) (fun c2 => ?_)
      · tm_at "go"
        refine e_tupD ?_
        tm_at "go"
        refine tupend (ds := [.int (b2 (i ≠ 0)), .tuple ((ev rs st ea).2.map .int)]) (.cons (by rw [intb, b2e (q := i ≠ 0) (by simp)]; exact .int _) (.cons h2 .nil)) (Nat.le_of_ble_eq_true rfl) fun v9 H9 s9 h9 => ?_
        refine k _ _ (s1.trans s9) ?_
        have e1 : ev rs st (.bin op ea eb) = (some (b2 (i ≠ 0)), (ev rs st ea).2 ++ []) := by
          rw [ev, if_pos hlz, thn1_val eo, if_pos c2]
        rw [e1, List.append_nil]
        exact h9
      · tm_at "go"
        refine s_asg ?_
        refine e_callF de ?_ (Nat.le_refl _)
        tm_at "go"
        refine rx_tup (he.mono (tp_same s1)) (d := eb.d) rfl fun vb hvb => ?_
        tm_at "go"
        refine ⟨_, _, .cons (hc.mono (tp_same s1)) (.cons (hst.mono (tp_same s1)) (.cons hvb .nil)), ⟨rs, st, eb, rfl, ⟨S, fit.2.2, by omega, by omega⟩, rfl⟩, fun v H2 s2 hv => ?_⟩
        refine g_unp2 (by tm_at "at") (by tm_at "at") hv fun v3 v4 h3 h4 => ?_
        have e1 : ev rs st (.bin op ea eb) = ((ev rs st eb).1.map (fun w => b2 (w ≠ 0)), (ev rs st ea).2 ++ (ev rs st eb).2) := by
          rw [ev, if_pos hlz, thn1_val eo, if_neg c2, thn1_map]
        refine b_one (s_ret (e_tupD ?_))
        refine a_cons (e_if (t_cmp ?_))
        rcases optN h3 with ⟨eo2, rfl⟩ | ⟨i2, eo2, rfl⟩
        · tm_at "go"
          refine ro_catT (h2.mono (tp_same s2)) h4 (by have := lenLooks (rs := rs) (st := st) (e := ea) (n := n) (by omega) (by omega); have := lenLooks (rs := rs) (st := st) (e := eb) (n := n) (by omega) (by omega); omega) fun v8 H8 s8 h8 => ?_
          tm_at "go"
          refine tupend (ds := [.none, .tuple ((ev rs st ea).2.map .int ++ (ev rs st eb).2.map .int)]) (.cons .non (.cons h8 .nil)) (Nat.le_of_ble_eq_true rfl) fun v9 H9 s9 h9 => ?_
          refine k _ _ (s1.trans (s2.trans (s8.trans s9))) ?_
          rw [e1, eo2, resD, List.map_append]
          exact h9
        · tm_at "go"
          refine ro_catT (h2.mono (tp_same s2)) h4 (by have := lenLooks (rs := rs) (st := st) (e := ea) (n := n) (by omega) (by omega); have := lenLooks (rs := rs) (st := st) (e := eb) (n := n) (by omega) (by omega); omega) fun v8 H8 s8 h8 => ?_
          tm_at "go"
          refine tupend (ds := [.int (b2 (i2 ≠ 0)), .tuple ((ev rs st ea).2.map .int ++ (ev rs st eb).2.map .int)]) (.cons (by rw [intb, b2e (q := i2 ≠ 0) (by simp)]; exact .int _) (.cons h8 .nil)) (Nat.le_of_ble_eq_true rfl) fun v9 H9 s9 h9 => ?_
          refine k _ _ (s1.trans (s2.trans (s8.trans s9))) ?_
          rw [e1, eo2, resD, List.map_append]
          exact h9
  | ite ea eb ed =>
    unfold Ex.d at he
    unfold Fit at fit
    unfold Ex.dep at dep
    tm_at "go"
    refine s_asg ?_
    refine e_callF de ?_ (Nat.le_refl _)
    tm_at "go"
    refine rx_tup he (d := ea.d) rfl fun va hva => ?_
    tm_at "go"
    refine ⟨_, _, .cons hc (.cons hst (.cons hva .nil)), ⟨rs, st, ea, rfl, ⟨S, fit.1, by omega, by omega⟩, rfl⟩, fun v H1 s1 hv => ?_⟩
    refine g_unp2 (by tm_at "at") (by tm_at "at") hv fun v1 v2 h1 h2 => ?_
    rcases optN h1 with ⟨eo, rfl⟩ | ⟨i, eo, rfl⟩
    · tm_at "go"
      refine e_tupD ?_
      tm_at "go"
      refine tupend (ds := [.none, .tuple ((ev rs st ea).2.map .int)]) (.cons .non (.cons h2 .nil)) (Nat.le_of_ble_eq_true rfl) fun v9 H9 s9 h9 => ?_
      refine k _ _ (s1.trans s9) ?_
      have e1 : ev rs st (.ite ea eb ed) = (none, (ev rs st ea).2) := by rw [ev, thn1_none eo]
      rw [e1]
      exact h9
    · tm_at "go"
      refine s_asg ?_
      refine e_callF de ?_ (Nat.le_refl _)
      tm_at "go"
      refine t_val ?_
      tm_at "go"
      rw [nb2]
      refine ifd (fun c2 => ?_) (fun c2 => ?_)
      · tm_at "go"
        refine rx_tup (he.mono (tp_same s1)) (d := eb.d) rfl fun vb hvb => ?_
        tm_at "go"
        refine ⟨_, _, .cons (hc.mono (tp_same s1)) (.cons (hst.mono (tp_same s1)) (.cons hvb .nil)), ⟨rs, st, eb, rfl, ⟨S, fit.2.1, by omega, by omega⟩, rfl⟩, fun v H2 s2 hv => ?_⟩
        refine g_unp2 (by tm_at "at") (by tm_at "at") hv fun v3 v4 h3 h4 => ?_
        have e1 : ev rs st (.ite ea eb ed) = ((ev rs st eb).1, (ev rs st ea).2 ++ (ev rs st eb).2) := by rw [ev, thn1_val eo, if_pos c2]
        tm_at "go"
        refine e_tupD ?_
        tm_at "go"
        refine ro_catT (h2.mono (tp_same s2)) h4 (by have := lenLooks (rs := rs) (st := st) (e := ea) (n := n) (by omega) (by omega); have := lenLooks (rs := rs) (st := st) (e := eb) (n := n) (by omega) (by omega); omega) fun v8 H8 s8 h8 => ?_
        tm_at "go"
        refine tupend (ds := [optD (ev rs st eb).1, .tuple ((ev rs st ea).2.map .int ++ (ev rs st eb).2.map .int)]) (.cons (h3.mono (tp_same s8)) (.cons h8 .nil)) (Nat.le_of_ble_eq_true rfl) fun v9 H9 s9 h9 => ?_
        refine k _ _ (s1.trans (s2.trans (s8.trans s9))) ?_
        rw [e1, resD, List.map_append]
        exact h9
      · tm_at "go"
        refine rx_tup (he.mono (tp_same s1)) (d := ed.d) rfl fun vb hvb => ?_
        tm_at "go"
        refine ⟨_, _, .cons (hc.mono (tp_same s1)) (.cons (hst.mono (tp_same s1)) (.cons hvb .nil)), ⟨rs, st, ed, rfl, ⟨S, fit.2.2, by omega, by omega⟩, rfl⟩, fun v H2 s2 hv => ?_⟩
        refine g_unp2 (by tm_at "at") (by tm_at "at") hv fun v3 v4 h3 h4 => ?_
        have e1 : ev rs st (.ite ea eb ed) = ((ev rs st ed).1, (ev rs st ea).2 ++ (ev rs st ed).2) := by rw [ev, thn1_val eo, if_neg c2]
        tm_at "go"
        refine e_tupD ?_
        tm_at "go"
        refine ro_catT (h2.mono (tp_same s2)) h4 (by have := lenLooks (rs := rs) (st := st) (e := ea) (n := n) (by omega) (by omega); have := lenLooks (rs := rs) (st := st) (e := ed) (n := n) (by omega) (by omega); omega) fun v8 H8 s8 h8 => ?_
        tm_at "go"
        refine tupend (ds := [optD (ev rs st ed).1, .tuple ((ev rs st ea).2.map .int ++ (ev rs st ed).2.map .int)]) (.cons (h3.mono (tp_same s8)) (.cons h8 .nil)) (Nat.le_of_ble_eq_true rfl) fun v9 H9 s9 h9 => ?_
        refine k _ _ (s1.trans (s2.trans (s8.trans s9))) ?_
        rw [e1, resD, List.map_append]
        exact h9
end K

namespace K
open PySem L2 G
variable {M : Md}
def fullE : Ex → Prop
  | .bin op _ _ => isLazy op = false
  | .un _ _ => True
  | .kk _ _ _ => True
  | _ => False
def pts : Ex → List Ex
  | .bin _ a b => [a, b]
  | .un _ e => [e]
  | .kk _ e n => [e, .int n]
  | _ => []
def opOf : Ex → Str
  | .bin op _ _ => op
  | .un op _ => op
  | .kk op _ _ => op
  | _ => ""
theorem full_d {e : Ex} (h : fullE e) : e.d = .tuple (.str (opOf e) :: (pts e).map Ex.d) := by
  cases e with
  | bin => rfl
  | un => rfl
  | kk => rfl
  | int => exact h.elim
  | nm => exact h.elim
  | «at» => exact h.elim
  | ite => exact h.elim
abbrev Ress := Option (List Int) × List Int
def evs (rs : List Row) (st : St1) : List Ex → Ress
  | [] => (some [], [])
  | p :: ps => match (ev rs st p).1 with
    | none => (none, (ev rs st p).2)
    | some v => ((evs rs st ps).1.map (v :: ·), (ev rs st p).2 ++ (evs rs st ps).2)
def fullR (op : Str) (r : Ress) : Res := match r.1 with
  | none => (none, r.2)
  | some [] => (none, r.2)
  | some [v] => (some (un1 op v), r.2)
  | some (v :: w :: _) => (some (bin2 op v w), r.2)
theorem evs_none {rs : List Row} {st : St1} {p : Ex} {ps : List Ex} (h : (ev rs st p).1 = none) : evs rs st (p :: ps) = (none, (ev rs st p).2) := by
  rw [evs, h]
theorem evs_some {rs : List Row} {st : St1} {p : Ex} {ps : List Ex} {v : Int} (h : (ev rs st p).1 = some v) : evs rs st (p :: ps) = ((evs rs st ps).1.map (v :: ·), (ev rs st p).2 ++ (evs rs st ps).2) := by
  rw [evs, h]
theorem two_full (rs : List Row) (st : St1) (op : Str) (a b : Ex) : thn1 (ev rs st a) (fun v => thn1 (ev rs st b) fun w => (some (bin2 op v w), [])) = fullR op (evs rs st [a, b]) := by
  cases ea : (ev rs st a).1 with
  | none => rw [thn1_none ea, evs_none ea]; rfl
  | some v =>
    rw [thn1_val ea, evs_some ea]
    cases eb : (ev rs st b).1 with
    | none => rw [thn1_none eb, evs_none eb]; rfl
    | some w => rw [thn1_val eb, evs_some eb]; rfl
theorem ev_full {rs : List Row} {st : St1} {e : Ex} (h : fullE e) : ev rs st e = fullR (opOf e) (evs rs st (pts e)) := by
  cases e with
  | bin op a b =>
    have hf : isLazy op = false := h
    rw [ev, if_neg (by rw [hf]; decide), two_full]
    rfl
  | un op a =>
    rw [ev]
    show _ = fullR op (evs rs st [a])
    cases ea : (ev rs st a).1 with
    | none => rw [thn1_none ea, evs_none ea]; rfl
    | some v => rw [thn1_val ea, evs_some ea]; rfl
  | kk op a n =>
    rw [ev]
    show _ = fullR op (evs rs st [a, .int n])
    rw [← two_full]
    cases ea : (ev rs st a).1 with
    | none => rw [thn1_none ea, thn1_none ea]
    | some v => rw [thn1_val ea, thn1_val ea]; rfl
  | int => exact h.elim
  | nm => exact h.elim
  | «at» => exact h.elim
  | ite => exact h.elim
theorem cut1 {α : Type} (x : α) (l : List α) (h : l.length = 1 ∨ l.length = 2) : cutD (x :: l) (some 1) none = l := by
  match l, h with
  | [a], _ => rfl
  | [a, b], _ => rfl
theorem pts_len {e : Ex} (h : fullE e) : (pts e).length = 1 ∨ (pts e).length = 2 := by
  cases e with
  | bin => exact .inr rfl
  | un => exact .inl rfl
  | kk => exact .inr rfl
  | int => exact h.elim
  | nm => exact h.elim
  | «at» => exact h.elim
  | ite => exact h.elim
def rFull (n : Nat) : List PyData → PyData → Prop := fun ds d => ∃ (rs : List Row) (st : St1) (e : Ex), ds = [cellsD rs, stD st, e.d] ∧ fullE e ∧ EvIn rs st e (n + 1) ∧ d = resD (ev rs st e)
theorem pts_in {rs : List Row} {st : St1} {e : Ex} {n : Nat} (h : EvIn rs st e (n + 1)) : ∀ p ∈ pts e, EvIn rs st p n := by
  obtain ⟨S, fit, dep, n4⟩ := h
  have h4 : n ≤ 4 := by omega
  cases e with
  | bin op a b =>
    unfold Fit at fit
    unfold Ex.dep at dep
    intro p hp
    rcases List.mem_cons.mp hp with rfl | hp
    · exact ⟨S, fit.2.1, by omega, h4⟩
    rcases List.mem_cons.mp hp with rfl | hp
    · exact ⟨S, fit.2.2, by omega, h4⟩
    cases hp
  | un op a =>
    unfold Fit at fit
    unfold Ex.dep at dep
    intro p hp
    rcases List.mem_cons.mp hp with rfl | hp
    · exact ⟨S, fit.2, by omega, h4⟩
    cases hp
  | kk op a k =>
    unfold Fit at fit
    unfold Ex.dep at dep
    intro p hp
    rcases List.mem_cons.mp hp with rfl | hp
    · exact ⟨S, fit.2.1, by omega, h4⟩
    rcases List.mem_cons.mp hp with rfl | hp
    · exact ⟨S, by unfold Fit; omega, Nat.zero_le _, h4⟩
    cases hp
  | int => exact fun _ h => nomatch h
  | nm => exact fun _ h => nomatch h
  | «at» => exact fun _ h => nomatch h
  | ite => exact fun _ h => nomatch h
theorem evs_bd {rs : List Row} {st : St1} {n : Nat} : ∀ {ps : List Ex} {vs : List Int}, (∀ p ∈ ps, EvIn rs st p n) → (evs rs st ps).1 = some vs → (∀ v ∈ vs, v.natAbs ≤ Bd n) ∧ vs.length = ps.length
  | [], vs, _, h => by
    rw [evs] at h
    cases h
    exact ⟨(fun _ h => nomatch h), rfl⟩
  | p :: ps, vs, hp, h => by
    have h1 := hp p (List.mem_cons_self ..)
    cases e : (ev rs st p).1 with
    | none => rw [evs_none e] at h; cases h
    | some v =>
      rw [evs_some e] at h
      obtain ⟨ws, hw, rfl⟩ := Option.map_eq_some_iff.mp h
      obtain ⟨h2, h3⟩ := evs_bd (fun q hq => hp q (List.mem_cons_of_mem _ hq)) hw
      refine ⟨fun w hw => ?_, by rw [List.length_cons, List.length_cons, h3]⟩
      rcases List.mem_cons.mp hw with rfl | hw
      · exact evB h1.S p n _ h1.dep h1.fit e
      · exact h2 w hw
set_option maxHeartbeats 2000000 in
theorem ok_full (n : Nat) {f fd} (F : Fun M.K "_full_value" "_full_value" s__full_value f fd) (b : Bl M) (de : dcEv M n) (d1 : Dc M "_of_one" ["op", "value"] 1 (spF rOne M.K)) (d2 : Dc M "value_of_two" ["op", "one", "other"] 2 (spF rTwo M.K)) : FnOk M.prog M.w M.K M.mg M.base CX0 (2 * n + 5) f fd ["cells", "state", "expression"] (spF (rFull n) M.K) := by
  refine fn_ok F sc__full_value (fun vs H Q E h => ?_) (fun H vs Q E h => ?_)
  · obtain ⟨ds, d, h, ⟨rs, st, e, rfl, _⟩, _⟩ := h
    exact h.len
  obtain ⟨ds, d, h, ⟨rs, st, e, rfl, hl, hi, rfl⟩, k⟩ := h
  obtain _ | ⟨hc, h⟩ := h
  obtain _ | ⟨hst, h⟩ := h
  obtain _ | ⟨he, h⟩ := h
  cases h
  rename_i vc vst ve
  rw [full_d hl] at he
  have hpi := pts_in hi
  have hpl := pts_len hl
  have n3 : n ≤ 3 := by have := hi.n4; omega
  tm_at "go"
  refine e_lstD ?_
  tm_at "go"
  refine ⟨by decide, fun l H1 s1 n1 g1 => ?_⟩
  tm_at "go"
  refine e_tupD ?_
  tm_at "go"
  refine tupend (ds := []) .nil (Nat.le_of_ble_eq_true rfl) fun vk0 H2 s2 h2 => ?_
  tm_at "go"
  refine s_forT ?_
  tm_at "go"
  refine rsl_tup (he.mono (tp_same (s1.trans s2))) fun vp H3 s3 hvp => ?_
  rw [cut1 _ _ (by rw [List.length_map]; exact hpl)] at hvp
  obtain ⟨a, xs, rfl, hxs, hns⟩ := hvp.tupE
  have hle := hns.len
  rw [List.length_map] at hle
  have s13 := s1.trans (s2.trans s3)
  refine ⟨a, xs, rfl, hxs, fun i σ1 H' => ∃ (vs lk : List Int) (vlk : V) (v5 v6 v7 : Option V), σ1 = [some vc, some vst, some ve, some (.ref l), some vlk, v5, v6, v7] ∧ Same H H' ∧ Tp H3 H' ∧ H' l = some (.lst (vs.map V.int)) ∧ Dt M.K H' vlk (.tuple (lk.map .int)) ∧
    evs rs st (pts e) = ((evs rs st ((pts e).drop i)).1.map (vs ++ ·), lk ++ (evs rs st ((pts e).drop i)).2) ∧ vs.length ≤ i ∧ lk.length ≤ 32 * i, ⟨[], [], vk0, _, _, _, rfl, s13, Tp.refl _, (s2.trans s3) _ _ g1, h2.mono (tp_same s3), ?_, Nat.le_refl _, Nat.le_refl _⟩, ?_, ?_, ?_⟩
  · simp
  · rintro i σ' H' _ ⟨vs, lk, vlk, v5, v6, v7, rfl, s, t, _⟩
    exact t.sqt hxs
  · rintro i x σ' H4 hx ⟨vs, lk, vlk, v5, v6, v7, rfl, s4, t4, g4, hlk, hev, lv, llk⟩
    obtain ⟨d, hd, hx'⟩ := hns.getV hx
    rw [List.getElem?_map] at hd
    obtain ⟨p, hp, rfl⟩ := Option.map_eq_some_iff.mp hd
    have hpin := hpi p (List.mem_of_getElem? hp)
    have ed : (pts e).drop i = p :: (pts e).drop (i + 1) := by
      obtain ⟨h1, h2⟩ := List.getElem?_eq_some_iff.mp hp
      rw [← h2]; exact List.drop_eq_getElem_cons h1
    have hi2 : i < 2 := by
      have := (List.getElem?_eq_some_iff.mp hx).1
      omega
    rw [ed] at hev
    refine g_name (by tm_at "at") ?_
    refine b_cons (s_asg ?_)
    refine e_callF de ?_ (Nat.le_refl _)
    tm_at "go"
    refine ⟨_, _, .cons (hc.mono (tp_same s4)) (.cons (hst.mono (tp_same s4)) (.cons (hx'.mono t4) .nil)), ⟨rs, st, p, rfl, hpin, rfl⟩, fun v H5 s5 hv => ?_⟩
    refine g_unp2 (by tm_at "at") (by tm_at "at") hv fun v1 v2 h1 h2 => ?_
    have llp := lenLooks (rs := rs) (st := st) (e := p) hpin.dep hpin.n4
    tm_at "go"
    refine ro_catT (hlk.mono (tp_same s5)) h2 (by rw [List.length_map (as := lk)]; omega) fun v8 H8 s8 h8 => ?_
    rw [List.length_map] at llp
    rcases optN h1 with ⟨eo, rfl⟩ | ⟨w, eo, rfl⟩
    · tm_at "go"
      refine e_tupD ?_
      tm_at "go"
      refine tupend (ds := [.none, .tuple (lk.map .int ++ (ev rs st p).2.map .int)]) (.cons .non (.cons h8 .nil)) (Nat.le_of_ble_eq_true rfl) fun v9 H9 s9 h9 => ?_
      refine k _ _ (s4.trans (s5.trans (s8.trans s9))) ?_
      rw [ev_full hl, hev, evs_none eo, resD]
      show Dt _ _ _ (.tuple [.none, .tuple ((lk ++ (ev rs st p).2).map .int)])
      rw [List.map_append]
      exact h9
    · tm_at "go"
      refine s_expr ?_
      refine e_app ?_
      tm_at "go"
      have g8 := (s5.trans s8) _ _ g4
      have ku := kp_upd (o' := .lst (vs.map V.int ++ [.int w])) g8 (fun _ e => nomatch e) (fun _ _ e => nomatch e)
      refine ⟨l, _, rfl, g8, ?_⟩
      tm_at "go"
      refine ⟨_, g8, by rw [List.length_map]; omega, ?_⟩
      refine ⟨vs ++ [w], lk ++ (ev rs st p).2, v8, _, _, _, rfl, same_mut (s4.trans (s5.trans s8)) n1, t4.trans ((tp_same (s5.trans s8)).trans ku.t), ?_, ?_, ?_, ?_, ?_⟩
      · rw [List.map_append]; exact upd_same
      · rw [List.map_append]; exact h8.mono ku.t
      · rw [hev, evs_some eo]
        simp [Function.comp_def]
      · rw [List.length_append]; exact Nat.succ_le_succ lv
      · rw [List.length_append]; omega
  · rintro σ' H4 ⟨vs, lk, vlk, v5, v6, v7, rfl, s4, t4, g4, hlk, hev, lv, llk⟩
    rw [List.drop_eq_nil_of_le (by omega), evs] at hev
    have hev' : evs rs st (pts e) = (some vs, lk) := by rw [hev]; simp
    obtain ⟨hbd, hlen⟩ := evs_bd hpi (vs := vs) (by rw [hev'])
    have hB : Bd n ≤ 100000000 := Nat.le_trans (Bd_mono n3) (by decide)
    have hres : ev rs st e = fullR (opOf e) (some vs, lk) := by rw [ev_full hl, hev']
    tm_at "go"
    refine rc_lenL (.of g4) ?_
    tm_at "go"
    match vs, hlen with
    | [], h0 => exact absurd h0 (by simp; omega)
    | [v], h0 =>
      refine ifT rfl ?_
      tm_at "go"
      refine e_tupD ?_
      tm_at "go"
      refine e_callF d1 ?_
      tm_at "go"
      refine rx_str (he.mono (tp_same s4)) (n := opOf e) (pl_at (j := 0) rfl rfl) ?_
      tm_at "go"
      refine rx_list (.of g4) (v := .int v) (by rfl) ?_
      tm_at "go"
      refine ⟨_, _, .cons (.str _) (.cons (.int _) .nil), ⟨opOf e, v, rfl, rfl⟩, fun v3 H5 s5 hv3 => ?_⟩
      tm_at "go"
      refine tupend (ds := [.int (un1 (opOf e) v), .tuple (lk.map .int)]) (.cons hv3 (.cons (hlk.mono (tp_same s5)) .nil)) (Nat.le_of_ble_eq_true rfl) fun v9 H9 s9 h9 => ?_
      refine k _ _ (s4.trans (s5.trans s9)) ?_
      rw [hres]
      exact h9
    | [v, w], h0 =>
      refine ifF (by simp) ?_
      tm_at "go"
      refine e_tupD ?_
      tm_at "go"
      refine e_callF d2 ?_
      tm_at "go"
      refine rx_str (he.mono (tp_same s4)) (n := opOf e) (pl_at (j := 0) rfl rfl) ?_
      tm_at "go"
      refine rx_list (.of g4) (v := .int v) (by rfl) ?_
      tm_at "go"
      refine rx_list (.of g4) (v := .int w) (by rfl) ?_
      tm_at "go"
      have hv := hbd v (by simp)
      have hdm : opOf e = "div" ∨ opOf e = "mod" → 1 ≤ w ∧ w < 1000 := by
        intro hop
        obtain ⟨_, fit, _, _⟩ := hi
        cases e with
        | bin op a b =>
          have := kind_bin fit.1
          exact hop.elim (fun z => absurd z this.1) (fun z => absurd z this.2)
        | un op a => exact absurd h0 (by show ¬ (2 = 1); decide)
        | kk op a kn =>
          have hk := fit.2.2
          have h2 : evs rs st [a, .int kn] = (some [v, w], lk) := hev'
          cases ea : (ev rs st a).1 with
          | none => rw [evs_none ea] at h2; cases (Prod.mk.inj h2).1
          | some x =>
            rw [evs_some ea] at h2
            have h3 := (Prod.mk.inj h2).1
            have h4 : (evs rs st [.int kn]).1 = some [kn] := rfl
            rw [h4] at h3
            simp at h3
            omega
        | int => exact hl.elim
        | nm => exact hl.elim
        | «at» => exact hl.elim
        | ite => exact hl.elim
      refine ⟨_, _, .cons (.str _) (.cons (.int _) (.cons (.int _) .nil)), ⟨opOf e, v, w, rfl, by omega, hdm, rfl⟩, fun v3 H5 s5 hv3 => ?_⟩
      tm_at "go"
      refine tupend (ds := [.int (bin2 (opOf e) v w), .tuple (lk.map .int)]) (.cons hv3 (.cons (hlk.mono (tp_same s5)) .nil)) (Nat.le_of_ble_eq_true rfl) fun v9 H9 s9 h9 => ?_
      refine k _ _ (s4.trans (s5.trans s9)) ?_
      rw [hres]
      exact h9
    | _ :: _ :: _ :: _, h0 => exact absurd h0 (by simp; omega)
end K

namespace K
open PySem L2 G
variable {M : Md}
def lazyW : List Str := ["and", "or", "if"]
structure Lz (M : Md) : Prop where
  ex : ∃ aL, M.mg "LAZY" = some (.ref aL) ∧ ∀ H, SqT M.K H aL (lazyW.map V.str)
abbrev dcIx (M : Md) : Prop := DcV M "cell_index" ["cells", "name", "key"] [.non] 3 (spF rIndex M.K)
theorem thn1_keyed {rs : List Row} {st : St1} {t : Str} {e : Ex} : ev rs st (.at t e) = thn1 (keyed rs t (ev rs st e)) fun j => (some (gt st j), [j]) := by rw [ev]
theorem keyed_in {rs : List Row} {st : St1} {t : Str} {e : Ex} {j : Int} (h : (keyed rs t (ev rs st e)).1 = some j) : 0 ≤ j ∧ j < total rs := by
  unfold keyed at h
  split at h
  · cases h
  · have := fIdx_in h
    omega
theorem bins_at : ∀ op ∈ bins, op ≠ "at" ∧ (op ∈ lazyW → isLazy op = true) ∧ (op ∉ lazyW → isLazy op = false) := by decide +kernel
theorem uns_at : ∀ op ∈ uns, op ≠ "at" ∧ op ∉ lazyW := by decide +kernel
theorem kks_at : ∀ op ∈ kks, op ≠ "at" ∧ op ∉ lazyW := by decide +kernel
set_option maxHeartbeats 2000000 in
theorem ok_ev (n : Nat) {f fd} (F : Fun M.K "evaluated" "evaluated" s_evaluated f fd) (b : Bl M) (lz : Lz M) (dx : dcIx M)
    (rec : ∀ m, n = m + 1 → Dc M "keyed_index" ["cells", "state", "table", "key"] (2 * m + 5) (spF (rKey m) M.K) ∧ Dc M "_lazy_value" ["cells", "state", "expression"] (2 * m + 5) (spF (rLazy m) M.K) ∧ Dc M "_full_value" ["cells", "state", "expression"] (2 * m + 5) (spF (rFull m) M.K)) :
    FnOk M.prog M.w M.K M.mg M.base CX0 (2 * n + 4) f fd ["cells", "state", "expression"] (spF (rEv n) M.K) := by
  refine fn_ok F sc_evaluated (fun vs H Q E h => ?_) (fun H vs Q E h => ?_)
  · obtain ⟨ds, d, h, ⟨rs, st, e, rfl, _⟩, _⟩ := h
    exact h.len
  obtain ⟨ds, d, h, ⟨rs, st, e, rfl, hi, rfl⟩, k⟩ := h
  obtain _ | ⟨hc, h⟩ := h
  obtain _ | ⟨hst, h⟩ := h
  obtain _ | ⟨he, h⟩ := h
  cases h
  rename_i vc vst ve
  have S := hi.S
  refine b_cut (fun σ1 H' => isIntD e.d = false ∧ Same H H' ∧ σ1 = [some vc, some vst, some ve, none, none]) ?_ ?_
  · tm_at "go"
    refine t_val ?_
    tm_at "go"
    refine rc_isiD e.plain he ?_
    have s1 := Same.refl H
    refine ⟨_, rfl, ifb (fun c1 => ?_) (fun c1 => ?_)⟩
    · tm_at "go"
      refine e_tupD ?_
      tm_at "go"
      refine e_tupD ?_
      tm_at "go"
      refine tupend (ds := []) .nil (Nat.le_of_ble_eq_true rfl) fun v2 H2 s2 h2 => ?_
      tm_at "go"
      refine tupend (ds := [e.d, .tuple []]) (.cons (he.mono (tp_same (s1.trans s2))) (.cons h2 .nil)) (Nat.le_of_ble_eq_true rfl) fun v9 H9 s9 h9 => ?_
      refine k _ _ (s1.trans (s2.trans s9)) ?_
      cases e with
      | int i => exact h9
      | nm => cases c1
      | «at» => cases c1
      | un => cases c1
      | bin => cases c1
      | kk => cases c1
      | ite => cases c1
    · tm_at "go"
      exact ⟨c1, s1, rfl⟩
  rintro _ H1 ⟨ci, s1, rfl⟩
  have he1 := he.mono (tp_same s1)
  cases e with
  | int => cases ci
  | nm s =>
    cases he1
    tm_at "go"
    refine t_val ?_
    tm_at "go"
    refine rc_isi (.base (.str s)) rfl ?_
    refine ⟨true, rfl, ift ?_⟩
    obtain ⟨hx, x0, x1⟩ := ix_ok S.nd hi.fit
    tm_at "go"
    refine e_callV dx ?_
    tm_at "go"
    refine ⟨_, _, .cons (hc.mono (tp_same s1)) (.cons (.str _) (.cons .non .nil)), ⟨rs, s, ix rs s, rfl, hx, rfl⟩, fun v H2 s2 hv => ?_⟩
    cases hv
    tm_at "go"
    refine e_tupD ?_
    tm_at "go"
    refine rx_int (hst.mono (tp_same (s1.trans s2))) (gt_at S x0 x1) ?_
    tm_at "go"
    refine e_tupD ?_
    tm_at "go"
    refine tupend (ds := [.int (ix rs s)]) (by tm_at "dts") (Nat.le_of_ble_eq_true rfl) fun v3 H3 s3 h3 => ?_
    tm_at "go"
    refine tupend (ds := [.int (gt st (ix rs s)), .tuple [.int (ix rs s)]]) (.cons (.int _) (.cons h3 .nil)) (Nat.le_of_ble_eq_true rfl) fun v9 H9 s9 h9 => ?_
    refine k _ _ (s1.trans (s2.trans (s3.trans s9))) ?_
    rw [ev]
    exact h9
  | «at» t e =>
    obtain ⟨m, rfl⟩ : ∃ m, n = m + 1 := ⟨n - 1, by have := hi.dep; unfold Ex.dep at this; omega⟩
    obtain ⟨dk, dl, df⟩ := rec m rfl
    have hi' : EvIn rs st e m := ⟨S, hi.fit.2, by have := hi.dep; unfold Ex.dep at this; omega, by have := hi.n4; omega⟩
    obtain ⟨ae, xe, rfl, hte, hde⟩ := he1.tupE
    tm_at "go"
    refine t_val ?_
    tm_at "go"
    refine rc_isi (ty_tup hte) rfl ?_
    refine ⟨false, rfl, iff0 ?_⟩
    tm_at "go"
    refine s_asg ?_
    refine e_callF dk ?_ (by show 2 * m + 5 ≤ 2 * (m + 1) + 3; omega)
    tm_at "go"
    refine rx_tup he1 (d := e.d) rfl fun v2 h2 => ?_
    tm_at "go"
    refine ⟨_, _, .cons (hc.mono (tp_same s1)) (.cons (hst.mono (tp_same s1)) (.cons (.str _) (.cons h2 .nil))), ⟨rs, st, t, e, rfl, hi', rfl⟩, fun v H2 s2 hv => ?_⟩
    refine g_unp2 (by tm_at "at") (by tm_at "at") hv fun v3 v4 h3 h4 => ?_
    rcases optN h3 with ⟨eo, rfl⟩ | ⟨j, eo, rfl⟩
    · tm_at "go"
      refine e_tupD ?_
      tm_at "go"
      refine tupend (ds := [.none, .tuple ((keyed rs t (ev rs st e)).2.map .int)]) (.cons .non (.cons h4 .nil)) (Nat.le_of_ble_eq_true rfl) fun v9 H9 s9 h9 => ?_
      refine k _ _ (s1.trans (s2.trans s9)) ?_
      rw [thn1_keyed, thn1_none eo]
      exact h9
    · obtain ⟨j0, j1⟩ := keyed_in eo
      tm_at "go"
      refine e_tupD ?_
      tm_at "go"
      refine rx_int (hst.mono (tp_same (s1.trans s2))) (gt_at S j0 j1) ?_
      tm_at "go"
      refine e_tupD ?_
      tm_at "go"
      refine tupend (ds := [.int j]) (by tm_at "dts") (Nat.le_of_ble_eq_true rfl) fun v5 H5 s5 h5 => ?_
      refine ro_catT (h4.mono (tp_same s5)) h5 (by have := lenLooks (rs := rs) (st := st) (e := e) hi'.dep hi'.n4; rw [keyed_snd, List.length_singleton]; omega) fun v8 H8 s8 h8 => ?_
      tm_at "go"
      refine tupend (ds := [.int (gt st j), .tuple ((keyed rs t (ev rs st e)).2.map .int ++ [.int j])]) (.cons (.int _) (.cons h8 .nil)) (Nat.le_of_ble_eq_true rfl) fun v9 H9 s9 h9 => ?_
      refine k _ _ (s1.trans (s2.trans (s5.trans (s8.trans s9)))) ?_
      rw [thn1_keyed, thn1_val eo, resD, List.map_append]
      exact h9
  | ite ea eb ed =>
    obtain ⟨m, rfl⟩ : ∃ m, n = m + 1 := ⟨n - 1, by have := hi.dep; unfold Ex.dep at this; omega⟩
    obtain ⟨dk, dl, df⟩ := rec m rfl
    obtain ⟨aL, hL, hS⟩ := lz.ex
    obtain ⟨ae, xe, rfl, hte, hde⟩ := he1.tupE
    tm_at "go"
    refine t_val ?_
    tm_at "go"
    refine rc_isi (ty_tup hte) rfl ?_
    refine ⟨false, rfl, iff0 ?_⟩
    tm_at "go"
    refine e_glob (v := .ref aL) hL rfl ?_
    refine ro_inST (ws := lazyW) (.tup (hS _) (dtStrs lazyW)) ?_
    refine ⟨_, rfl, ifT (by decide +kernel) ?_⟩
    tm_at "go"
    refine e_callF dl ?_ (by show 2 * m + 5 ≤ 2 * (m + 1) + 3; omega)
    tm_at "go"
    exact ⟨_, _, .cons (hc.mono (tp_same s1)) (.cons (hst.mono (tp_same s1)) (.cons he1 .nil)), ⟨rs, st, _, rfl, trivial, hi, rfl⟩, fun v H2 s2 hv => k _ _ (s1.trans s2) hv⟩
  | bin op ea eb =>
    obtain ⟨m, rfl⟩ : ∃ m, n = m + 1 := ⟨n - 1, by have := hi.dep; unfold Ex.dep at this; omega⟩
    obtain ⟨dk, dl, df⟩ := rec m rfl
    obtain ⟨aL, hL, hS⟩ := lz.ex
    obtain ⟨ae, xe, rfl, hte, hde⟩ := he1.tupE
    have hop := bins_at op hi.fit.1
    tm_at "go"
    refine t_val ?_
    tm_at "go"
    refine rc_isi (ty_tup hte) rfl ?_
    refine ⟨false, rfl, iff0 ?_⟩
    tm_at "go"
    refine ifd (fun c => absurd c hop.1) (fun _ => ?_)
    tm_at "go"
    refine e_glob (v := .ref aL) hL rfl ?_
    refine ro_inST (ws := lazyW) (.tup (hS _) (dtStrs lazyW)) ?_
    refine ⟨_, rfl, ifd (fun c2 => ?_) (fun c2 => ?_)⟩
    · tm_at "go"
      refine e_callF dl ?_ (by show 2 * m + 5 ≤ 2 * (m + 1) + 3; omega)
      tm_at "go"
      exact ⟨_, _, .cons (hc.mono (tp_same s1)) (.cons (hst.mono (tp_same s1)) (.cons he1 .nil)), ⟨rs, st, _, rfl, hop.2.1 c2, hi, rfl⟩, fun v H2 s2 hv => k _ _ (s1.trans s2) hv⟩
    · tm_at "go"
      refine e_callF df ?_ (by show 2 * m + 5 ≤ 2 * (m + 1) + 3; omega)
      tm_at "go"
      exact ⟨_, _, .cons (hc.mono (tp_same s1)) (.cons (hst.mono (tp_same s1)) (.cons he1 .nil)), ⟨rs, st, _, rfl, hop.2.2 c2, hi, rfl⟩, fun v H2 s2 hv => k _ _ (s1.trans s2) hv⟩
  | un op ea =>
    obtain ⟨m, rfl⟩ : ∃ m, n = m + 1 := ⟨n - 1, by have := hi.dep; unfold Ex.dep at this; omega⟩
    obtain ⟨dk, dl, df⟩ := rec m rfl
    obtain ⟨aL, hL, hS⟩ := lz.ex
    obtain ⟨ae, xe, rfl, hte, hde⟩ := he1.tupE
    have hop := uns_at op hi.fit.1
    tm_at "go"
    refine t_val ?_
    tm_at "go"
    refine rc_isi (ty_tup hte) rfl ?_
    refine ⟨false, rfl, iff0 ?_⟩
    tm_at "go"
    refine ifd (fun c => absurd c hop.1) (fun _ => ?_)
    tm_at "go"
    refine e_glob (v := .ref aL) hL rfl ?_
    refine ro_inST (ws := lazyW) (.tup (hS _) (dtStrs lazyW)) ?_
    refine ⟨_, rfl, ifd (fun c2 => absurd c2 hop.2) (fun c2 => ?_)⟩
    · tm_at "go"
      refine e_callF df ?_ (by show 2 * m + 5 ≤ 2 * (m + 1) + 3; omega)
      tm_at "go"
      exact ⟨_, _, .cons (hc.mono (tp_same s1)) (.cons (hst.mono (tp_same s1)) (.cons he1 .nil)), ⟨rs, st, _, rfl, trivial, hi, rfl⟩, fun v H2 s2 hv => k _ _ (s1.trans s2) hv⟩
  | kk op ea kn =>
    obtain ⟨m, rfl⟩ : ∃ m, n = m + 1 := ⟨n - 1, by have := hi.dep; unfold Ex.dep at this; omega⟩
    obtain ⟨dk, dl, df⟩ := rec m rfl
    obtain ⟨aL, hL, hS⟩ := lz.ex
    obtain ⟨ae, xe, rfl, hte, hde⟩ := he1.tupE
    have hop := kks_at op hi.fit.1
    tm_at "go"
    refine t_val ?_
    tm_at "go"
    refine rc_isi (ty_tup hte) rfl ?_
    refine ⟨false, rfl, iff0 ?_⟩
    tm_at "go"
    refine ifd (fun c => absurd c hop.1) (fun _ => ?_)
    tm_at "go"
    refine e_glob (v := .ref aL) hL rfl ?_
    refine ro_inST (ws := lazyW) (.tup (hS _) (dtStrs lazyW)) ?_
    refine ⟨_, rfl, ifd (fun c2 => absurd c2 hop.2) (fun c2 => ?_)⟩
    · tm_at "go"
      refine e_callF df ?_ (by show 2 * m + 5 ≤ 2 * (m + 1) + 3; omega)
      tm_at "go"
      exact ⟨_, _, .cons (hc.mono (tp_same s1)) (.cons (hst.mono (tp_same s1)) (.cons he1 .nil)), ⟨rs, st, _, rfl, trivial, hi, rfl⟩, fun v H2 s2 hv => k _ _ (s1.trans s2) hv⟩
end K

namespace K
open PySem L2 G
variable {M : Md}
def rVal (n : Nat) : List PyData → PyData → Prop := fun ds d => ∃ (rs : List Row) (st : St1) (e : Ex), ds = [cellsD rs, stD st, e.d] ∧ EvIn rs st e n ∧ d = optD (ev rs st e).1
theorem ok_value (n : Nat) {f fd} (F : Fun M.K "value_in" "value_in" s_value_in f fd) (b : Bl M) (de : dcEv M n) : FnOk M.prog M.w M.K M.mg M.base CX0 (2 * n + 5) f fd ["cells", "state", "expression"] (spF (rVal n) M.K) := by
  refine fn_ok F sc_value_in (fun vs H Q E h => ?_) (fun H vs Q E h => ?_)
  · obtain ⟨ds, d, h, ⟨rs, st, e, rfl, _⟩, _⟩ := h
    exact h.len
  obtain ⟨ds, d, h, ⟨rs, st, e, rfl, hi, rfl⟩, k⟩ := h
  obtain _ | ⟨hc, h⟩ := h
  obtain _ | ⟨hst, h⟩ := h
  obtain _ | ⟨he, h⟩ := h
  cases h
  refine b_cons (s_asg ?_)
  refine e_callF de ?_ (Nat.le_refl _)
  tm_at "go"
  refine ⟨_, _, .cons hc (.cons hst (.cons he .nil)), ⟨rs, st, e, rfl, hi, rfl⟩, fun v H1 s1 hv => ?_⟩
  refine g_unp2 (by tm_at "at") (by tm_at "at") hv fun v1 v2 h1 h2 => ?_
  tm_at "go"
  exact k _ _ s1 h1
def firsts (lk : List Int) : List Int := lk.foldl (fun seen j => if j ∈ seen then seen else seen ++ [j]) []
def lookD (st : St1) (j : Int) : PyData := .tuple [.int j, .int (gt st j)]
def looksD (st : St1) (lk : List Int) : PyData := .tuple ((firsts lk).map (lookD st))
theorem firsts_snoc {lk : List Int} {i : Nat} {j : Int} (h : lk[i]? = some j) : firsts (lk.take (i + 1)) = if j ∈ firsts (lk.take i) then firsts (lk.take i) else firsts (lk.take i) ++ [j] := by
  obtain ⟨h1, rfl⟩ := List.getElem?_eq_some_iff.mp h
  rw [List.take_succ_eq_append_getElem h1, firsts, List.foldl_append]
  rfl
theorem firsts_len (lk : List Int) : (firsts lk).length ≤ lk.length := by
  have : ∀ (l seen : List Int), (l.foldl (fun seen j => if j ∈ seen then seen else seen ++ [j]) seen).length ≤ seen.length + l.length := by
    intro l
    induction l with
    | nil => intro seen; exact Nat.le_refl _
    | cons j l ih =>
      intro seen
      have h := ih (if j ∈ seen then seen else seen ++ [j])
      rw [List.foldl_cons, List.length_cons]
      split at h
      · rename_i hj; rw [if_pos hj]; omega
      · rename_i hj; rw [if_neg hj]; rw [List.length_append, List.length_singleton] at h; omega
  have h := this lk []
  simpa [firsts] using h
theorem firsts_mem {lk : List Int} {j : Int} : j ∈ firsts lk ↔ j ∈ lk := by
  have : ∀ (l seen : List Int), j ∈ (l.foldl (fun seen j => if j ∈ seen then seen else seen ++ [j]) seen) ↔ j ∈ seen ∨ j ∈ l := by
    intro l
    induction l with
    | nil => intro seen; simp
    | cons x l ih =>
      intro seen
      rw [List.foldl_cons, ih, List.mem_cons]
      split
      · rename_i hx
        constructor
        · rintro (h | h)
          · exact .inl h
          · exact .inr (.inr h)
        · rintro (h | rfl | h)
          · exact .inl h
          · exact .inl hx
          · exact .inr h
      · rw [List.mem_append, List.mem_singleton, or_assoc]
  rw [firsts, this]
  simp
theorem firsts_nodup (lk : List Int) : (firsts lk).Nodup := by
  have : ∀ (l seen : List Int), seen.Nodup → (l.foldl (fun seen j => if j ∈ seen then seen else seen ++ [j]) seen).Nodup := by
    intro l
    induction l with
    | nil => intro seen h; exact h
    | cons x l ih =>
      intro seen h
      rw [List.foldl_cons]
      refine ih _ ?_
      split
      · exact h
      · rename_i hx
        rw [List.nodup_append]
        refine ⟨h, by simp, ?_⟩
        intro a ha b hb
        rw [List.mem_singleton.mp hb]
        rintro rfl
        exact hx ha
  exact this lk [] List.nodup_nil
theorem inI (j : Int) (l : List Int) : inV (.int j) (l.map .int) = decide (j ∈ l) := by
  unfold inV
  rw [Bool.eq_iff_iff, List.any_eq_true, decide_eq_true_iff]
  constructor
  · rintro ⟨y, hy, h⟩
    obtain ⟨z, hz, rfl⟩ := List.mem_map.mp hy
    have : z = j := by simpa [eqV] using h
    rw [← this]; exact hz
  · intro h
    exact ⟨.int j, List.mem_map.mpr ⟨j, h, rfl⟩, by simp [eqV]⟩
theorem ro_notInI {c : Cd} {H : Hp} {Q : VK} {l : Addr} {j : Int} {js : List Int} (hl : H l = some (.lst (js.map V.int))) (q : Q (.bl (!decide (j ∈ js))) H) : RQ c .NotIn (.int j) (.ref l) H Q := by
  refine rq_of (r := rIn c.K true) (fun X h => by rw [← h.K]; exact op_notIn_seq) ⟨l, _, rfl, .inl (.of hl), rfl, by simp [flatV], ?_⟩
  show Q (.bl (!inV (.int j) (js.map .int))) H
  rw [inI]
  exact q
def rFirst : List PyData → PyData → Prop := fun ds d => ∃ (rs : List Row) (st : St1) (lk : List Int), ds = [stD st, .tuple (lk.map .int)] ∧ StOk rs st ∧ (∀ j ∈ lk, 0 ≤ j ∧ j < total rs) ∧ lk.length ≤ 900 ∧ d = looksD st lk
theorem ok_first {f fd} (F : Fun M.K "first_looks" "first_looks" s_first_looks f fd) (b : Bl M) : FnOk M.prog M.w M.K M.mg M.base CX0 1 f fd ["state", "looks"] (spZ rFirst M.K) := by
  refine fn_ok F sc_first_looks (fun vs H Q E h => ?_) (fun H vs Q E h => ?_)
  · obtain ⟨ds, d, h, ⟨rs, st, lk, rfl, _⟩, _⟩ := h
    exact h.len
  obtain ⟨ds, d, h, ⟨rs, st, lk, rfl, S, hin, hll, rfl⟩, k⟩ := h
  obtain _ | ⟨hst, h⟩ := h
  obtain _ | ⟨hlk, h⟩ := h
  cases h
  rename_i vst vlk
  obtain ⟨a, xs, rfl, hxs, hns⟩ := hlk.tupE
  have hle := hns.len
  rw [List.length_map] at hle
  tm_at "go"
  refine e_lstD ?_
  tm_at "go"
  refine ⟨by decide, fun l H1 s1 n1 g1 => ?_⟩
  tm_at "go"
  refine s_forT ?_
  tm_at "go"
  refine ⟨a, xs, rfl, (tp_same s1).sqt hxs, fun i σ1 H' => ∃ (v3 : Option V), σ1 = [some vst, some (.ref a), some (.ref l), v3] ∧ Same H H' ∧ H' l = some (.lst ((firsts (lk.take i)).map V.int)), ⟨_, rfl, s1, g1⟩, ?_, ?_, ?_⟩
  · rintro i σ' H' _ ⟨v3, rfl, s, _⟩
    exact (tp_same s).sqt hxs
  · rintro i x σ' H2 hx ⟨v3, rfl, s2, g2⟩
    obtain ⟨d, hd, hx'⟩ := hns.getV hx
    rw [List.getElem?_map] at hd
    obtain ⟨j, hj, rfl⟩ := Option.map_eq_some_iff.mp hd
    cases hx'
    refine g_name (by tm_at "at") ?_
    tm_at "go"
    refine ro_notInI g2 ?_
    refine ⟨_, rfl, ifnd (fun c1 => ?_) (fun c1 => ?_)⟩
    · refine b_one (s_expr ?_)
      refine e_app ?_
      tm_at "go"
      refine ⟨l, _, rfl, g2, ?_⟩
      tm_at "go"
      refine ⟨_, g2, by rw [List.length_map]; have := firsts_len (lk.take i); have : (lk.take i).length ≤ lk.length := by rw [List.length_take]; omega
                        omega, ?_⟩
      refine ⟨_, rfl, same_mut s2 n1, ?_⟩
      rw [firsts_snoc hj, if_neg c1, List.map_append]
      exact upd_same
    · tm_at "go"
      refine ⟨s2, ?_⟩
      rw [firsts_snoc hj, if_pos c1]
      exact g2
  · rintro σ' H2 ⟨v3, rfl, s2, g2⟩
    rw [hle, List.take_length] at g2
    tm_at "go"
    refine e_lc (own := [("index", 3)]) (Blk.of (N := N_first_looks) (sc := defScope s_first_looks) rfl rfl (by decide +kernel)) ?_
    refine lcL_F (fun d => match d with | .int j => some (lookD st j) | _ => none) ?_
    tm_at "go"
    refine ⟨l, _, (firsts lk).map .int, rfl, .of g2, dtInts _, by rw [List.length_map]; have := firsts_len lk; omega, fun d x H' hd s hx => ?_, fun l6 us H6 s6 n6 g6 h6 => ?_⟩
    · obtain ⟨j, hj, rfl⟩ := List.mem_map.mp hd
      cases hx
      obtain ⟨j0, j1⟩ := hin j (firsts_mem.mp hj)
      refine g_name (by tm_at "at") ⟨rfl, rfl, ts_nil ⟨Same.refl _, ift ?_⟩⟩
      refine e_tupD ?_
      tm_at "go"
      refine rx_int (hst.mono (tp_same (s2.trans s))) (gt_at S j0 j1) ?_
      tm_at "go"
      refine tupend (ds := [.int j, .int (gt st j)]) (by tm_at "dts") (Nat.le_of_ble_eq_true rfl) fun vp H7 s7 hp => ?_
      exact ⟨s7, _, rfl, hp⟩
    rw [List.filterMap_map] at h6
    have e6 : (firsts lk).filterMap ((fun d => match d with | PyData.int j => some (lookD st j) | _ => none) ∘ PyData.int) = (firsts lk).map (lookD st) := by
      rw [← List.filterMap_eq_map]
      rfl
    rw [e6] at h6
    tm_at "go"
    refine rc_tupF (.of g6) h6 fun v7 H7 s7 h7 z7 => ?_
    exact k _ _ (s2.trans (s6.trans s7)) h7 z7
theorem ev_in {rs : List Row} {st : St1} (S : StOk rs st) : ∀ (e : Ex), Fit rs e → ∀ j ∈ (ev rs st e).2, 0 ≤ j ∧ j < total rs := by
  have th : ∀ (r : Res) (g : Int → Res), (∀ j ∈ r.2, 0 ≤ j ∧ j < total rs) → (∀ v, r.1 = some v → ∀ j ∈ (g v).2, 0 ≤ j ∧ j < total rs) → ∀ j ∈ (thn1 r g).2, 0 ≤ j ∧ j < total rs := by
    intro r g h1 h2 j hj
    cases e : r.1 with
    | none => rw [thn1_none e] at hj; exact h1 j hj
    | some v =>
      rw [thn1_val e] at hj
      rcases List.mem_append.mp hj with hj | hj
      · exact h1 j hj
      · exact h2 v e j hj
  intro e
  induction e with
  | int => intro _ j hj; rw [ev] at hj; cases hj
  | nm s =>
    intro hf j hj
    rw [ev] at hj
    rw [List.mem_singleton.mp hj]
    exact (ix_ok S.nd hf).2
  | «at» t e ih =>
    intro hf j hj
    rw [thn1_keyed] at hj
    refine th _ _ (by rw [keyed_snd]; exact ih hf.2) (fun v hv j hj => ?_) j hj
    rw [List.mem_singleton.mp hj]
    exact keyed_in hv
  | un op e ih =>
    intro hf j hj
    rw [ev] at hj
    exact th _ _ (ih hf.2) (fun v hv j hj => by cases hj) j hj
  | bin op a b iha ihb =>
    intro hf j hj
    rw [ev] at hj
    split at hj
    · refine th _ _ (iha hf.2.1) (fun v hv j hj => ?_) j hj
      split at hj
      · cases hj
      · exact th _ _ (ihb hf.2.2) (fun v hv j hj => by cases hj) j hj
    · refine th _ _ (iha hf.2.1) (fun v hv j hj => ?_) j hj
      exact th _ _ (ihb hf.2.2) (fun v hv j hj => by cases hj) j hj
  | kk op e n ih =>
    intro hf j hj
    rw [ev] at hj
    exact th _ _ (ih hf.2.1) (fun v hv j hj => by cases hj) j hj
  | ite a b d iha ihb ihd =>
    intro hf j hj
    rw [ev] at hj
    refine th _ _ (iha hf.1) (fun v hv j hj => ?_) j hj
    split at hj
    · exact ihb hf.2.1 j hj
    · exact ihd hf.2.2 j hj
def rLooked (n : Nat) : List PyData → PyData → Prop := fun ds d => ∃ (rs : List Row) (st : St1) (e : Ex), ds = [cellsD rs, stD st, e.d] ∧ EvIn rs st e n ∧ d = looksD st (ev rs st e).2
theorem ok_looked (n : Nat) {f fd} (F : Fun M.K "looked_at" "looked_at" s_looked_at f fd) (b : Bl M) (de : dcEv M n) (dfl : Dc M "first_looks" ["state", "looks"] 1 (spZ rFirst M.K)) : FnOk M.prog M.w M.K M.mg M.base CX0 (2 * n + 5) f fd ["cells", "state", "expression"] (spZ (rLooked n) M.K) := by
  refine fn_ok F sc_looked_at (fun vs H Q E h => ?_) (fun H vs Q E h => ?_)
  · obtain ⟨ds, d, h, ⟨rs, st, e, rfl, _⟩, _⟩ := h
    exact h.len
  obtain ⟨ds, d, h, ⟨rs, st, e, rfl, hi, rfl⟩, k⟩ := h
  obtain _ | ⟨hc, h⟩ := h
  obtain _ | ⟨hst, h⟩ := h
  obtain _ | ⟨he, h⟩ := h
  cases h
  refine b_cons (s_asg ?_)
  refine e_callF de ?_ (Nat.le_refl _)
  tm_at "go"
  refine ⟨_, _, .cons hc (.cons hst (.cons he .nil)), ⟨rs, st, e, rfl, hi, rfl⟩, fun v H1 s1 hv => ?_⟩
  refine g_unp2 (by tm_at "at") (by tm_at "at") hv fun v1 v2 h1 h2 => ?_
  have ll1 := lenLooks (rs := rs) (st := st) (e := e) hi.dep hi.n4
  rw [List.length_map] at ll1
  tm_at "go"
  refine e_callZ dfl ?_
  tm_at "go"
  exact ⟨_, _, .cons (hst.mono (tp_same s1)) (.cons h2 .nil), ⟨rs, st, _, rfl, hi.S, ev_in hi.S e hi.fit, by omega, rfl⟩, fun v H2 s2 hv z => k _ _ (s1.trans s2) hv z⟩
end K

namespace K
open PySem L2 G
variable {M : Md}
def Tg.str : Tg → Bool
  | .nm _ => true
  | .at _ _ => false
def tgt (rs : List Row) (st : St1) : Tg → Res
  | .nm s => (fIdx rs s none 0, [])
  | .at t e => keyed rs t (ev rs st e)
structure TgIn (rs : List Row) (st : St1) (t : Tg) : Prop where
  S : StOk rs st
  fit : FitT rs t
def rTgt : List PyData → PyData → Prop := fun ds d => ∃ (rs : List Row) (st : St1) (t : Tg), ds = [cellsD rs, stD st, t.d] ∧ TgIn rs st t ∧ d = resD (tgt rs st t)
theorem ok_tgt {f fd} (F : Fun M.K "_target_index" "_target_index" s__target_index f fd) (b : Bl M) (df : Dc M "found_index" ["cells", "name", "key"] 2 (spF rFound M.K)) (dk : Dc M "keyed_index" ["cells", "state", "table", "key"] 9 (spF (rKey 2) M.K)) :
    FnOk M.prog M.w M.K M.mg M.base CX0 10 f fd ["cells", "state", "target"] (spF rTgt M.K) := by
  refine fn_ok F sc__target_index (fun vs H Q E h => ?_) (fun H vs Q E h => ?_)
  · obtain ⟨ds, d, h, ⟨rs, st, e, rfl, _⟩, _⟩ := h
    exact h.len
  obtain ⟨ds, d, h, ⟨rs, st, t, rfl, hi, rfl⟩, k⟩ := h
  obtain _ | ⟨hc, h⟩ := h
  obtain _ | ⟨hst, h⟩ := h
  obtain _ | ⟨he, h⟩ := h
  cases h
  cases t with
  | nm s =>
    cases he
    tm_at "go"
    refine t_val ?_
    tm_at "go"
    refine rc_isi (.base (.str s)) rfl ?_
    refine ⟨true, rfl, ift ?_⟩
    tm_at "go"
    refine e_tupD ?_
    tm_at "go"
    refine e_callF df ?_
    tm_at "go"
    refine ⟨_, _, .cons hc (.cons (.str _) (.cons .non .nil)), ⟨rs, s, none, rfl, rfl⟩, fun v H1 s1 hv => ?_⟩
    tm_at "go"
    refine e_tupD ?_
    tm_at "go"
    refine tupend (ds := []) .nil (Nat.le_of_ble_eq_true rfl) fun v2 H2 s2 h2 => ?_
    tm_at "go"
    refine tupend (ds := [optD (fIdx rs s none 0), .tuple []]) (.cons (hv.mono (tp_same s2)) (.cons h2 .nil)) (Nat.le_of_ble_eq_true rfl) fun v9 H9 s9 h9 => ?_
    exact k _ _ (s1.trans (s2.trans s9)) h9
  | «at» t e =>
    obtain ⟨ae, xe, rfl, hte, hde⟩ := he.tupE
    tm_at "go"
    refine t_val ?_
    tm_at "go"
    refine rc_isi (ty_tup hte) rfl ?_
    refine ⟨false, rfl, iff0 ?_⟩
    tm_at "go"
    refine e_callF dk ?_
    tm_at "go"
    refine rx_tup he (d := e.d) rfl fun v2 h2 => ?_
    tm_at "go"
    exact ⟨_, _, .cons hc (.cons hst (.cons (.str _) (.cons h2 .nil))), ⟨rs, st, t, e, rfl, ⟨hi.S, hi.fit.2.1, hi.fit.2.2, by decide⟩, rfl⟩, fun v H2 s2 hv => k _ _ s2 hv⟩
abbrev Ents := Option (List (Int × Int)) × List Int
def wo (rs : List Row) (st : St1) : List (Tg × Ex) → Ents
  | [] => (some [], [])
  | p :: ps => match (tgt rs st p.1).1 with
    | none => (none, (tgt rs st p.1).2)
    | some j => match (ev rs st p.2).1 with
      | none => (none, (tgt rs st p.1).2 ++ (ev rs st p.2).2)
      | some v => ((wo rs st ps).1.map ((j, v) :: ·), (tgt rs st p.1).2 ++ ((ev rs st p.2).2 ++ (wo rs st ps).2))
def work (rs : List Row) (st : St1) (r : Rl) : Ents := match (ev rs st r.guard).1 with
  | none => (none, (ev rs st r.guard).2)
  | some g => if g = 0 then (none, (ev rs st r.guard).2) else ((wo rs st r.as).1, (ev rs st r.guard).2 ++ (wo rs st r.as).2)
def entD (p : Int × Int) : PyData := .tuple [.int p.1, .int p.2]
/-- pairs of ints, each a tuple of ours -/
inductive PrAll (H : Hp) : List V → List (Int × Int) → Prop
  | nil : PrAll H [] []
  | cons {t : Addr} {i j : Int} {us : List V} {es : List (Int × Int)} : H t = some (.tup [.int i, .int j]) → PrAll H us es → PrAll H (.ref t :: us) ((i, j) :: es)
theorem PrAll.mono {H H' : Hp} (e : Tp H H') {us : List V} {es : List (Int × Int)} (h : PrAll H us es) : PrAll H' us es := by
  induction h with
  | nil => exact .nil
  | cons h1 _ ih => exact .cons (e.t _ _ h1) ih
theorem PrAll.app {H : Hp} {us vs : List V} {es fs : List (Int × Int)} (h : PrAll H us es) (k : PrAll H vs fs) : PrAll H (us ++ vs) (es ++ fs) := by
  induction h with
  | nil => exact k
  | cons h1 _ ih => exact .cons h1 ih
theorem PrAll.dt {K : PySem.W.Frag} {H : Hp} {us : List V} {es : List (Int × Int)} (h : PrAll H us es) : DtAll K H us (es.map entD) := by
  induction h with
  | nil => exact .nil
  | cons h1 _ ih => exact .cons (.tup (.of h1) (.cons (.int _) (.cons (.int _) .nil))) ih
/-- None or a new list of pairs -/
def EntV (K : PySem.W.Frag) (H0 H : Hp) : V → Option (List (Int × Int)) → Prop
  | v, none => v = .non
  | v, some es => ∃ l us, v = .ref l ∧ H0 l = none ∧ H l = some (.lst us) ∧ PrAll H us es
def spWork (K : PySem.W.Frag) : Sp := fun vs H Q _ => ∃ (rs : List Row) (st : St1) (r : Rl), DtAll K H vs [cellsD rs, r.d, stD st] ∧ StOk rs st ∧ FitR rs r ∧
  ∀ p v1 v2 H', Same H H' → SqT K H' p [v1, v2] → EntV K H H' v1 (work rs st r).1 → Dt K H' v2 (.tuple ((work rs st r).2.map .int)) → Q (.ref p) H'
theorem wo_j {rs : List Row} {st : St1} {p : Tg × Ex} {ps : List (Tg × Ex)} (h : (tgt rs st p.1).1 = none) : wo rs st (p :: ps) = (none, (tgt rs st p.1).2) := by rw [wo, h]
theorem wo_v {rs : List Row} {st : St1} {p : Tg × Ex} {ps : List (Tg × Ex)} {j : Int} (h : (tgt rs st p.1).1 = some j) (h2 : (ev rs st p.2).1 = none) : wo rs st (p :: ps) = (none, (tgt rs st p.1).2 ++ (ev rs st p.2).2) := by rw [wo, h]; simp only [h2]
theorem wo_s {rs : List Row} {st : St1} {p : Tg × Ex} {ps : List (Tg × Ex)} {j v : Int} (h : (tgt rs st p.1).1 = some j) (h2 : (ev rs st p.2).1 = some v) : wo rs st (p :: ps) = ((wo rs st ps).1.map ((j, v) :: ·), (tgt rs st p.1).2 ++ ((ev rs st p.2).2 ++ (wo rs st ps).2)) := by rw [wo, h]; simp only [h2]
theorem tgt_len {rs : List Row} {st : St1} {t : Tg} (h : FitT rs t) : (tgt rs st t).2.length ≤ 32 := by
  cases t with
  | nm => exact Nat.zero_le _
  | «at» t e =>
    unfold tgt
    rw [keyed_snd]
    have := lenLooks (rs := rs) (st := st) (e := e) (n := 2) h.2.2 (by decide)
    rwa [List.length_map] at this
set_option maxHeartbeats 2000000 in
theorem ok_work {f fd} (F : Fun M.K "_worked_out" "_worked_out" s__worked_out f fd) (b : Bl M) (de : dcEv M 2) (dt : Dc M "_target_index" ["cells", "state", "target"] 10 (spF rTgt M.K)) :
    FnOk M.prog M.w M.K M.mg M.base CX0 11 f fd ["cells", "rule", "state"] (spWork M.K) := by
  refine fn_ok F sc__worked_out (fun vs H Q E h => ?_) (fun H vs Q E h => ?_)
  · obtain ⟨rs, st, r, h, _⟩ := h
    exact h.len
  obtain ⟨rs, st, r, h, S, R, k⟩ := h
  obtain _ | ⟨hc, h⟩ := h
  obtain _ | ⟨hr, h⟩ := h
  obtain _ | ⟨hst, h⟩ := h
  cases h
  rename_i vc vr vst
  refine b_cons (s_asg (e_var (by tm_at "at") ?_))
  refine g_unp3 (by tm_at "at") (by tm_at "at") (by tm_at "at") hr fun v0 vg va h0 hg ha => ?_
  cases h0
  tm_at "go"
  refine s_asg ?_
  refine e_callF de ?_
  tm_at "go"
  refine ⟨_, _, .cons hc (.cons hst (.cons hg .nil)), ⟨rs, st, r.guard, rfl, ⟨S, R.guard.1, R.guard.2, by decide⟩, rfl⟩, fun v H1 s1 hv => ?_⟩
  refine g_unp2 (by tm_at "at") (by tm_at "at") hv fun v1 v2 h1 h2 => ?_
  have lg := lenLooks (rs := rs) (st := st) (e := r.guard) (n := 2) R.guard.2 (by decide)
  rw [List.length_map] at lg
  have ret : ∀ (Hx : Hp) (vx : V) (lk : List Int), Same H Hx → Dt M.K Hx vx (.tuple (lk.map .int)) → work rs st r = (none, lk) → ∀ v H', Same Hx H' → Dt M.K H' v (.tuple [.none, .tuple (lk.map .int)]) → Q v H' := by
    intro Hx vx lk sx hx hw v H' s' hv
    obtain ⟨p, xs, rfl, ht, hd⟩ := hv.tupE
    obtain _ | ⟨e1, hd⟩ := hd
    obtain _ | ⟨e2, hd⟩ := hd
    cases hd
    cases e1
    exact k p _ _ H' (sx.trans s') ht (by rw [hw]; rfl) (by rw [hw]; exact e2)
  tm_at "go"
  rcases optN h1 with ⟨eo, rfl⟩ | ⟨g, eo, rfl⟩
  · tm_at "go"
    refine e_tupD ?_
    tm_at "go"
    refine tupend (ds := [.none, .tuple ((ev rs st r.guard).2.map .int)]) (.cons .non (.cons h2 .nil)) (Nat.le_of_ble_eq_true rfl) fun v9 H9 s9 h9 => ?_
    exact ret H1 _ _ s1 h2 (by rw [work, eo]) v9 H9 s9 h9
  tm_at "go"
  refine ifd (fun c1 => ?_) (fun c1 => ?_)
  · tm_at "go"
    refine e_tupD ?_
    tm_at "go"
    refine tupend (ds := [.none, .tuple ((ev rs st r.guard).2.map .int)]) (.cons .non (.cons h2 .nil)) (Nat.le_of_ble_eq_true rfl) fun v9 H9 s9 h9 => ?_
    exact ret H1 _ _ s1 h2 (by rw [work, eo]; exact if_pos c1) v9 H9 s9 h9
  have hwork : work rs st r = ((wo rs st r.as).1, (ev rs st r.guard).2 ++ (wo rs st r.as).2) := by
    rw [work, eo]
    exact if_neg c1
  tm_at "go"
  refine e_lstD ?_
  tm_at "go"
  refine ⟨by decide, fun l H2 s2 n2 g2 => ?_⟩
  obtain ⟨a, xs, rfl, hxs, hns⟩ := ha.tupE
  have hle := hns.len
  rw [List.length_map] at hle
  have s12 := s1.trans s2
  have hlen := R.len
  tm_at "go"
  refine s_forT ?_
  tm_at "go"
  refine ⟨a, xs, rfl, (tp_same s12).sqt hxs, fun i σ1 H' => ∃ (es : List (Int × Int)) (us : List V) (lk : List Int) (vlk : V) (v6 v9 v10 v11 v12 : Option V), σ1 = [some vc, some vr, some vst, _, some vg, some (.ref a), v6, some vlk, some (.ref l), v9, v10, v11, v12] ∧ Same H H' ∧ H' l = some (.lst us) ∧ PrAll H' us es ∧ Dt M.K H' vlk (.tuple (lk.map .int)) ∧
    work rs st r = ((wo rs st (r.as.drop i)).1.map (es ++ ·), lk ++ (wo rs st (r.as.drop i)).2) ∧ es.length ≤ i ∧ lk.length ≤ 32 + 64 * i, ⟨[], [], (ev rs st r.guard).2, v2, _, _, _, _, _, rfl, s12, g2, .nil, h2.mono (tp_same s2), by rw [hwork]; simp, Nat.le_refl _, lg⟩, ?_, ?_, ?_⟩
  · rintro i σ' H' _ ⟨es, us, lk, vlk, v6, v9, v10, v11, v12, rfl, s, _⟩
    exact (tp_same s).sqt hxs
  · rintro i x σ' H3 hx ⟨es, us, lk, vlk, v6, v9, v10, v11, v12, rfl, s3, g3, h3, hlk, hw, les, llk⟩
    obtain ⟨d, hd, hx'⟩ := hns.getV hx
    rw [List.getElem?_map] at hd
    obtain ⟨p, hp, rfl⟩ := Option.map_eq_some_iff.mp hd
    have hpin := R.as p (List.mem_of_getElem? hp)
    have ed : r.as.drop i = p :: r.as.drop (i + 1) := by
      obtain ⟨h1, h2⟩ := List.getElem?_eq_some_iff.mp hp
      rw [← h2]; exact List.drop_eq_getElem_cons h1
    have hi10 : i < 10 := by
      have := (List.getElem?_eq_some_iff.mp hx).1
      omega
    rw [ed] at hw
    refine g_unp2 (by tm_at "at") (by tm_at "at") (hx'.mono (tp_same s3)) fun vt vp ht hpd => ?_
    refine b_cons (s_asg ?_)
    refine e_callF dt ?_
    tm_at "go"
    refine ⟨_, _, .cons (hc.mono (tp_same s3)) (.cons (hst.mono (tp_same s3)) (.cons ht .nil)), ⟨rs, st, p.1, rfl, ⟨S, hpin.1⟩, rfl⟩, fun v H4 s4 hv => ?_⟩
    refine g_unp2 (by tm_at "at") (by tm_at "at") hv fun v1 vm h1 hm => ?_
    have lt := tgt_len (rs := rs) (st := st) hpin.1
    tm_at "go"
    refine ro_catT (hlk.mono (tp_same s4)) hm (by rw [List.length_map, List.length_map]; omega) fun v8 H5 s5 h8 => ?_
    rcases optN h1 with ⟨eo1, rfl⟩ | ⟨j, eo1, rfl⟩
    · tm_at "go"
      refine e_tupD ?_
      tm_at "go"
      refine tupend (ds := [.none, .tuple (lk.map .int ++ (tgt rs st p.1).2.map .int)]) (.cons .non (.cons h8 .nil)) (Nat.le_of_ble_eq_true rfl) fun v9 H9 s9 h9 => ?_
      rw [← List.map_append] at h8 h9
      exact ret H5 _ _ (s3.trans (s4.trans s5)) h8 (by rw [hw, wo_j eo1]; rfl) v9 H9 s9 h9
    tm_at "go"
    refine s_asg ?_
    refine e_callF de ?_
    tm_at "go"
    refine ⟨_, _, .cons (hc.mono (tp_same (s3.trans (s4.trans s5)))) (.cons (hst.mono (tp_same (s3.trans (s4.trans s5)))) (.cons (hpd.mono (tp_same (s4.trans s5))) .nil)), ⟨rs, st, p.2, rfl, ⟨S, hpin.2.1, hpin.2.2, by decide⟩, rfl⟩, fun v H6 s6 hv => ?_⟩
    refine g_unp2 (by tm_at "at") (by tm_at "at") hv fun v3 vm2 h3' hm2 => ?_
    have le2 := lenLooks (rs := rs) (st := st) (e := p.2) (n := 2) hpin.2.2 (by decide)
    rw [List.length_map] at le2
    tm_at "go"
    refine ro_catT (h8.mono (tp_same s6)) hm2 (by rw [List.length_append, List.length_map, List.length_map, List.length_map]; omega) fun v10 H7 s7 h10 => ?_
    rcases optN h3' with ⟨eo2, rfl⟩ | ⟨w, eo2, rfl⟩
    · tm_at "go"
      refine e_tupD ?_
      tm_at "go"
      refine tupend (ds := [.none, .tuple (lk.map .int ++ (tgt rs st p.1).2.map .int ++ (ev rs st p.2).2.map .int)]) (.cons .non (.cons h10 .nil)) (Nat.le_of_ble_eq_true rfl) fun v9 H9 s9 h9 => ?_
      rw [← List.map_append, ← List.map_append] at h10 h9
      exact ret H7 _ _ (s3.trans (s4.trans (s5.trans (s6.trans s7)))) h10 (by rw [hw, wo_v eo1 eo2, List.append_assoc]; rfl) v9 H9 s9 h9
    tm_at "go"
    refine s_expr ?_
    refine e_app ?_
    tm_at "go"
    have s47 := s4.trans (s5.trans (s6.trans s7))
    refine ⟨l, _, rfl, s47 _ _ g3, ?_⟩
    refine e_tup ?_
    tm_at "go"
    refine ⟨Nat.le_trans (m := 1000) (Nat.le_of_ble_eq_true rfl) (by decide), fun p8 n8 => ?_⟩
    have s8 := same_new (o := .tup [.int j, .int w]) n8
    have h11 : (upd _ p8 (.tup [.int j, .int w])) p8 = _ := upd_same (H := H7)
    generalize upd H7 p8 (.tup [.int j, .int w]) = H8 at *
    have g8 := (s47.trans s8) _ _ g3
    have lus := (h3.dt (K := M.K)).len
    rw [List.length_map] at lus
    have ku := kp_upd (o' := .lst (us ++ [.ref p8])) g8 (fun _ e => nomatch e) (fun _ _ e => nomatch e)
    refine ⟨us, g8, by omega, ?_⟩
    refine ⟨es ++ [(j, w)], _, lk ++ ((tgt rs st p.1).2 ++ (ev rs st p.2).2), v10, _, _, _, _, _, rfl, same_mut (s3.trans (s47.trans s8)) (same_none s1 n2), upd_same, ?_, ?_, ?_, ?_, ?_⟩
    · exact (h3.mono ((tp_same (s47.trans s8)).trans ku.t)).app (.cons (ku.t.t _ _ h11) .nil)
    · rw [List.map_append, List.map_append, ← List.append_assoc]
      exact h10.mono ((tp_same s8).trans ku.t)
    · rw [hw, wo_s eo1 eo2]
      simp [Function.comp_def]
    · rw [List.length_append]; exact Nat.succ_le_succ les
    · rw [List.length_append, List.length_append]; omega
  · rintro σ' H3 ⟨es, us, lk, vlk, v6, v9, v10, v11, v12, rfl, s3, g3, h3, hlk, hw, les, llk⟩
    rw [List.drop_eq_nil_of_le (by omega), wo] at hw
    have hw' : work rs st r = (some es, lk) := by rw [hw]; simp
    tm_at "go"
    refine e_tup ?_
    tm_at "go"
    refine ⟨Nat.le_trans (m := 1000) (Nat.le_of_ble_eq_true rfl) (by decide), fun p hp => ?_⟩
    have sp := same_new (o := .tup [.ref l, vlk]) hp
    refine k p _ _ _ (s3.trans sp) (.of upd_same) (by rw [hw']; exact ⟨l, us, rfl, same_none s1 n2, sp _ _ g3, h3.mono (tp_same sp)⟩) (by rw [hw']; exact hlk.mono (tp_same sp))
end K

namespace K
open PySem PySem.Spec PyProof.Rows L2 G
variable {M : Md}
def tLenSetA (K : PySem.W.Frag) (ta : TE) : TE := fun σ H Q => ta σ H fun x H1 => ∃ (l : Addr) (ns : List Int), x = .ref l ∧ SqL K H1 l (ns.map V.int) ∧ ns.length ≤ 4000 ∧ Q (.int ((firsts ns).length : Nat)) H1
theorem met_firsts (ns : List Int) : firstMet (fun i => ns.getD i 0) ns.length = firsts ns := by
  have e : (List.range ns.length).map (fun i => ns.getD i 0) = ns := by
    apply List.ext_getElem
    · simp
    · intro i h1 h2
      simp [List.getD_eq_getElem?_getD, List.getElem?_eq_getElem h2]
  have e2 : (fun (seen : List Int) (j : Int) => if j ∈ seen then seen else seen ++ [j]) = step_dedup := by
    funext seen j
    unfold step_dedup
    by_cases h : j ∈ seen
    · rw [if_pos h, if_pos (by simpa [List.any_eq_true] using h)]
    · rw [if_neg h, if_neg (by simpa [List.any_eq_true] using h)]
  unfold firstMet firsts
  rw [e, e2]
theorem pe_lenSetA {X : Cx} {a : Expr} {ta : TE} {p p2 q pos : Pos} (hc : X.calm = true) (hg : Gl X "len") (hm : X.mg "len" = none) (hg2 : Gl X "set") (hm2 : X.mg "set" = none) (ha : PE X a ta)
    (na : starEach [a] X.env = (false, eval a X.env) :: starEach [] X.env := by rfl) : PE X (.Call (.Name "len" p) [.Call (.Name "set" p2) [a] [] q] [] pos) (tLenSetA X.K ta) := by
  constructor
  intro ps s0 σ H Q J w
  apply Call_ (ld_blt J hg hm boot_len _)
  apply PyProof.Rows.callWith_builtin1 (PyProof.Rows.args_cons _ rfl) rfl rfl
  apply Call_ (ld_blt J hg2 hm2 boot_set _)
  apply PyProof.Rows.callWith_type1 (PyProof.Rows.args_cons (thn (ha.run ps s0 σ H _ J w) _) na) na rfl
  rintro u t0 ⟨x, H1, J1, ru, l, ns, rfl, isL, few, k⟩
  cases ru
  apply PyProof.Rows.args_nil
  obtain ⟨ws, rw0, plain, _⟩ := J1.list isL
  have size : ws.toArray.size = ns.length := by rw [List.size_toArray, ← rw0.length, List.length_map]
  refine call_set_list (J1.ok.hd hc) plain.isList (by simpa using RZ.intsAre_vals rw0) (by rw [size]; unfold scanBound; omega) fun hp tk isS keep => ?_
  rw [size, met_firsts] at isS
  have few2 := firsts_len ns
  obtain ⟨ob, es, ep, tt, a1, a2, a3, -, -, -, a4, a5⟩ := isS
  apply PyProof.Rows.args_nil
  exact call_len_set a1 a2 a3 a4 (by rw [a5] <;> omega) ⟨.int (firsts ns).length, H1, (J1.kept (fun b o e => keep b o (Heap.lt_size e)  e)).tok _, ⟨_, by rw [a5]⟩, k⟩
theorem e_lenSet {c : Cd} {σ : L2.St} {H : Hp} {Q : VK} {a : Expr} {p p2 q pos : Pos} (b : Bl c.toMd) (w : RE c a σ H fun x H1 => ∃ (l : Addr) (ns : List Int), x = .ref l ∧ SqL c.K H1 l (ns.map V.int) ∧ ns.length ≤ 4000 ∧ Q (.int ((firsts ns).length : Nat)) H1)
    (hg : c.sc.names.lookup ("len" : Str) = some .globalImplicit := by rfl) (hg2 : c.sc.names.lookup ("set" : Str) = some .globalImplicit := by rfl) (na : ∀ env, starEach [a] env = (false, eval a env) :: starEach [] env := by intro _; rfl) : RE c (.Call (.Name "len" p) [.Call (.Name "set" p2) [a] [] q] [] pos) σ H Q :=
  re_of (t := tLenSetA c.K (RE c a)) (fun X h => by rw [← h.K]; exact pe_lenSetA h.calm (gl_of h hg) (by rw [h.mg]; exact b.len) (gl_of h hg2) (by rw [h.mg]; exact b.set) (pe_re h) (na _)) w
end K

local macro_rules | `(tactic| tm_at "s") => `(tactic| refine K.e_lenSet (by assumption) ?_)
namespace K
open PySem PySem.Spec PyProof.Rows L2 G
variable {M : Md}
def kf (H : Hp) : V → Int × Int
  | .ref t => match H t with
    | some (.tup [.int i, .int j]) => (i, j)
    | _ => (0, 0)
  | _ => (0, 0)
theorem PrAll.kf {H : Hp} {us : List V} {es : List (Int × Int)} (h : PrAll H us es) : es = us.map (K.kf H) ∧ ∀ x ∈ us, ∃ t, x = .ref t ∧ H t = some (.tup [.int (K.kf H x).1, .int (K.kf H x).2]) := by
  induction h with
  | nil => exact ⟨rfl, fun _ h => nomatch h⟩
  | @cons t i j us es h1 h2 ih =>
    have e : K.kf H (.ref t) = (i, j) := by
      show (match H t with | some (.tup [.int i, .int j]) => (i, j) | _ => (0, 0)) = _
      rw [h1]
    refine ⟨by rw [List.map_cons, e, ← ih.1], fun x hx => ?_⟩
    rcases List.mem_cons.mp hx with rfl | hx
    · exact ⟨t, rfl, by rw [e]; exact h1⟩
    · exact ih.2 x hx
theorem prAll_of {H : Hp} : ∀ {ys : List V}, (∀ x ∈ ys, ∃ t, x = .ref t ∧ H t = some (.tup [.int (kf H x).1, .int (kf H x).2])) → PrAll H ys (ys.map (kf H))
  | [], _ => .nil
  | y :: ys, h => by
    obtain ⟨t, rfl, ht⟩ := h y (List.mem_cons_self ..)
    exact .cons ht (prAll_of fun x hx => h x (List.mem_cons_of_mem _ hx))
def leB (a b : Int × Int) : Bool := !SrtO.lexB b a
def sortE (es : List (Int × Int)) : List (Int × Int) := es.mergeSort leB
theorem leB_iff {a b : Int × Int} : leB a b = true ↔ a.1 < b.1 ∨ (a.1 = b.1 ∧ a.2 ≤ b.2) := by
  unfold leB
  rw [Bool.not_eq_true', SrtO.lexB_no]
  omega
theorem sortE_pw (es : List (Int × Int)) : (sortE es).Pairwise fun a b => leB a b = true := by
  refine List.pairwise_mergeSort (fun a b c h1 h2 => ?_) (fun a b => ?_) es
  · rw [leB_iff] at *; omega
  · rw [Bool.or_eq_true, leB_iff, leB_iff]; omega
theorem sortE_perm (es : List (Int × Int)) : (sortE es).Perm es := List.mergeSort_perm es leB
theorem sortE_uniq {es fs : List (Int × Int)} (hp : fs.Perm es) (hs : fs.Pairwise fun a b => leB a b = true) : fs = sortE es := by
  refine List.Perm.eq_of_pairwise (le := fun a b => leB a b = true) (fun a b _ _ h1 h2 => ?_) hs (sortE_pw es) (hp.trans (sortE_perm es).symm)
  rw [leB_iff] at *
  exact Prod.ext (by omega) (by omega)
theorem rc_sortedP {c : Cd} {H : Hp} {Q : VK} {l : Addr} {us : List V} {es : List (Int × Int)} (hl : H l = some (.lst us)) (hp : PrAll H us es) (q : ∀ p ys H', Same H H' → H p = none → H' p = some (.lst ys) → PrAll H' ys (sortE es) → Q (.ref p) H') : RC c (.builtin "sorted") [.ref l] H Q := by
  obtain ⟨h1, h2⟩ := hp.kf
  refine rc_of (r := rSortedPO c.K) (fun X h => by rw [← h.K]; exact cr_sortedPO) ⟨l, us, kf H, rfl, .of hl, h2, fun ys p hs hb hn => ?_⟩
  have hm : ∀ x ∈ ys, x ∈ us := fun x hx => hb.perm.mem_iff.mp hx
  have e : ys.map (kf H) = sortE es := by
    refine sortE_uniq ?_ ?_
    · rw [h1]; exact hb.perm.map _
    · rw [List.pairwise_map]
      refine hs.imp fun {a b} h => ?_
      unfold leB
      rw [show SrtO.lexB (kf H b) (kf H a) = false from h]
      rfl
  refine q p ys _ (same_new hn) hn upd_same ?_
  rw [← e]
  exact (prAll_of fun x hx => h2 x (hm x hx)).mono (tp_same (same_new hn))
def inR (rs : List Row) (p : Int × Int) : Bool := match (rg rs)[p.1.toNat]? with
  | some r => decide (r.1 ≤ p.2) && decide (p.2 ≤ r.2)
  | none => false
def asg (rs : List Row) (st : St1) (r : Rl) : Option (List (Int × Int)) := match (work rs st r).1 with
  | none => none
  | some es => if (firsts (es.map (·.1))).length < es.length then none else if es.all (inR rs) then some (sortE es) else none
def asgD : Option (List (Int × Int)) → PyData
  | none => .none
  | some es => .tuple (es.map entD)
theorem tgt_in {rs : List Row} {st : St1} {t : Tg} {j : Int} (h : (tgt rs st t).1 = some j) : 0 ≤ j ∧ j < total rs := by
  cases t with
  | nm s => have := fIdx_in h; omega
  | «at» t e => exact keyed_in h
theorem wo_in {rs : List Row} {st : St1} : ∀ {as : List (Tg × Ex)} {es : List (Int × Int)}, (wo rs st as).1 = some es → (∀ p ∈ es, 0 ≤ p.1 ∧ p.1 < total rs) ∧ es.length = as.length
  | [], es, h => by
    rw [wo] at h
    cases h
    exact ⟨(fun _ h => nomatch h), rfl⟩
  | p :: ps, es, h => by
    cases e1 : (tgt rs st p.1).1 with
    | none => rw [wo_j e1] at h; cases h
    | some j =>
      cases e2 : (ev rs st p.2).1 with
      | none => rw [wo_v e1 e2] at h; cases h
      | some v =>
        rw [wo_s e1 e2] at h
        obtain ⟨ws, hw, rfl⟩ := Option.map_eq_some_iff.mp h
        obtain ⟨h2, h3⟩ := wo_in hw
        refine ⟨fun q hq => ?_, by rw [List.length_cons, List.length_cons, h3]⟩
        rcases List.mem_cons.mp hq with rfl | hq
        · exact tgt_in e1
        · exact h2 q hq
theorem work_in {rs : List Row} {st : St1} {r : Rl} {es : List (Int × Int)} (h : (work rs st r).1 = some es) : (∀ p ∈ es, 0 ≤ p.1 ∧ p.1 < total rs) ∧ es.length = r.as.length := by
  unfold work at h
  split at h
  · cases h
  · split at h
    · cases h
    · exact wo_in h
def rAsg : List PyData → PyData → Prop := fun ds d => ∃ (rs : List Row) (st : St1) (r : Rl), ds = [cellsD rs, r.d, stD st] ∧ StOk rs st ∧ FitR rs r ∧ d = asgD (asg rs st r)
theorem PrAll.len {H : Hp} {us : List V} {es : List (Int × Int)} (h : PrAll H us es) : us.length = es.length := by
  have := (h.dt (K := ([] : PySem.W.Frag))).len
  rwa [List.length_map] at this
end K

namespace K
open PySem L2 G
variable {M : Md}
abbrev dcWork (M : Md) : Prop := Dc M "_worked_out" ["cells", "rule", "state"] 11 (spWork M.K)
abbrev dcRng (M : Md) : Prop := Dc M "cell_ranges" ["cells"] 2 (spF rRanges M.K)
theorem rg_get {rs : List Row} {p : Int × Int} (h0 : 0 ≤ p.1) (h1 : p.1 < total rs) : ∃ r : Rng, (rg rs)[p.1.toNat]? = some r ∧ atI (rngs rs) p.1 = some (rngD r) ∧ inR rs p = (decide (r.1 ≤ p.2) && decide (p.2 ≤ r.2)) := by
  have hlt : p.1.toNat < (rg rs).length := by rw [rg_len]; omega
  refine ⟨(rg rs)[p.1.toNat], List.getElem?_eq_getElem hlt, ?_, ?_⟩
  · refine pl_at (j := p.1.toNat) (by omega) ?_
    rw [rngs_eq, List.getElem?_map, List.getElem?_eq_getElem hlt]
    rfl
  · unfold inR
    rw [List.getElem?_eq_getElem hlt]
def gIx : PyData → Option PyData
  | .tuple [.int i, .int _] => some (.int i)
  | _ => none
theorem gIx_all (es : List (Int × Int)) : (es.map entD).filterMap gIx = (es.map (·.1)).map .int := by
  induction es with
  | nil => rfl
  | cons p es ih => rw [List.map_cons, List.filterMap_cons, List.map_cons, List.map_cons, ← ih]; rfl
theorem dtInts_eq {K : PySem.W.Frag} {H : Hp} : ∀ {ns : List Int} {xs : List V}, DtAll K H xs (ns.map .int) → xs = ns.map .int
  | [], _, h => by cases h; rfl
  | w :: ws, _, h => by
    cases h with
    | cons h1 h2 =>
      cases h1
      rw [dtInts_eq h2, List.map_cons]
set_option maxHeartbeats 2000000 in
theorem ok_assigned {f fd} (F : Fun M.K "assigned" "assigned" s_assigned f fd) (b : Bl M) (dw : dcWork M) (dr : dcRng M) : FnOk M.prog M.w M.K M.mg M.base CX0 12 f fd ["cells", "rule", "state"] (spZ rAsg M.K) := by
  refine fn_ok F sc_assigned (fun vs H Q E h => ?_) (fun H vs Q E h => ?_)
  · obtain ⟨ds, d, h, ⟨rs, st, r, rfl, _⟩, _⟩ := h
    exact h.len
  obtain ⟨ds, d, h, ⟨rs, st, r, rfl, S, R, rfl⟩, k⟩ := h
  have h0 := h
  obtain _ | ⟨hc, h⟩ := h
  obtain _ | ⟨hr, h⟩ := h
  obtain _ | ⟨hst, h⟩ := h
  cases h
  rename_i vc vr vst
  have kn : asg rs st r = none → ∀ H', Same H H' → Q .non H' := fun e H' s => k _ _ s (by rw [e]; exact .non) (by rw [e]; exact .inl ⟨rfl, rfl⟩)
  refine b_cons (s_asg ?_)
  refine e_call dw ?_
  tm_at "go"
  refine ⟨rs, st, r, h0, S, R, fun p v1 v2 H1 s1 ht hE hlk => ?_⟩
  refine g_tup ht (gs_cons (g_name (by tm_at "at") (gs_cons (g_name (by tm_at "at") (gs_nil ?_)))))
  tm_at "go"
  cases hw : (work rs st r).1 with
  | none =>
    rw [hw] at hE
    cases (show v1 = .non from hE)
    tm_at "go"
    refine kn ?_ _ s1
    unfold asg
    rw [hw]
  | some es =>
    rw [hw] at hE
    obtain ⟨l, us, rfl, n1, g1, hp⟩ := hE
    obtain ⟨win, wlen⟩ := work_in hw
    have hle := R.len
    have hul := hp.len
    tm_at "go"
    refine s_setLc (own := [("index", 5), ("_", 4)]) (by tm_at "at") (Blk.of (N := N_assigned) (sc := defScope s_assigned) rfl rfl (by decide +kernel)) ?_
    refine lcL_F gIx ?_
    tm_at "go"
    refine ⟨l, us, es.map entD, rfl, .of g1, hp.dt, by rw [List.length_map]; omega, fun d x H' hd s hx => ?_, fun l2 us2 H2 s2 n2 g2 h2 => ?_⟩
    · obtain ⟨p, hp, rfl⟩ := List.mem_map.mp hd
      refine g_unp2 (by tm_at "at") (by tm_at "at") hx fun v1 v2 h1 h2 => ⟨rfl, rfl, ts_nil ⟨Same.refl _, ift ?_⟩⟩
      tm_at "go"
      exact ⟨Same.refl _, _, rfl, h1⟩
    rw [gIx_all] at h2
    obtain rfl := dtInts_eq h2
    tm_at "go"
    refine ⟨l2, _, rfl, .of g2, by rw [List.length_map]; omega, ?_⟩
    tm_at "go"
    refine rc_lenL (.of g2) ?_
    tm_at "go"
    rw [List.length_map, List.length_map]
    refine ifd (fun c1 => ?_) (fun c1 => ?_)
    · tm_at "go"
      refine kn ?_ _ (s1.trans s2)
      unfold asg
      rw [hw]
      show (if _ then _ else _) = _
      rw [if_pos (by omega)]
    have hasg : asg rs st r = if es.all (inR rs) = true then some (sortE es) else none := by
      unfold asg
      rw [hw]
      show (if _ then _ else _) = _
      rw [if_neg (by omega)]
    tm_at "go"
    refine e_callF dr ?_
    tm_at "go"
    refine ⟨_, _, .cons (hc.mono (tp_same (s1.trans s2))) .nil, ⟨rs, rfl, Nat.le_trans S.tot (by decide), rfl⟩, fun v3 H3 s3 h3 => ?_⟩
    have s13 := s1.trans (s2.trans s3)
    tm_at "go"
    refine s_forL ?_
    tm_at "go"
    refine ⟨l, us, rfl, .of ((s2.trans s3) _ _ g1), fun i σ1 H' => ∃ (v4 v5 v8 v9 v10 : Option V), σ1 = [some vc, some vr, some vst, some (.ref l), v4, v5, some (.ref l2), some v3, v8, v9, v10] ∧ Same H3 H' ∧ (es.take i).all (inR rs) = true, ⟨_, _, _, _, _, rfl, Same.refl _, rfl⟩, ?_, ?_, ?_⟩
    · rintro i σ' H' _ ⟨v4, v5, v8, v9, v10, rfl, s, _⟩
      exact .of (s _ _ ((s2.trans s3) _ _ g1))
    · rintro i x σ' H4 hx ⟨v4, v5, v8, v9, v10, rfl, s4, hall⟩
      obtain ⟨d, hd, hx'⟩ := (hp.dt (K := M.K)).getV hx
      rw [List.getElem?_map] at hd
      obtain ⟨q, hq, rfl⟩ := Option.map_eq_some_iff.mp hd
      obtain ⟨q0, q1⟩ := win q (List.mem_of_getElem? hq)
      obtain ⟨rr, hrr, hat, hin⟩ := rg_get q0 q1
      refine g_unp2 (by tm_at "at") (by tm_at "at") (hx'.mono (tp_same ((s2.trans s3).trans s4))) fun va vb ha hb => ?_
      cases ha
      cases hb
      refine b_cons (s_asg ?_)
      tm_at "go"
      refine rx_tup (h3.mono (tp_same s4)) hat fun vr hvr => ?_
      refine g_unp2 (by tm_at "at") (by tm_at "at") hvr fun vl vh hl hh => ?_
      cases hl
      cases hh
      have htk : (es.take (i + 1)).all (inR rs) = (inR rs q && true) := by
        obtain ⟨z1, z2⟩ := List.getElem?_eq_some_iff.mp hq
        rw [List.take_succ_eq_append_getElem z1, z2, List.all_append, hall, List.all_cons, List.all_nil, Bool.true_and]
      have bad : inR rs q = false → asg rs st r = none := by
        intro hb
        rw [hasg, if_neg]
        intro ha
        have := List.all_eq_true.mp ha q (List.mem_of_getElem? hq)
        rw [hb] at this
        cases this
      tm_at "go"
      refine ifd (fun c2 => ?_) (fun c2 => ?_)
      · tm_at "go"
        refine ifnd (fun c3 => ?_) (fun c3 => ?_)
        · tm_at "go"
          exact kn (bad (by rw [hin, decide_eq_true c2, decide_eq_false c3]; rfl)) _ (s13.trans s4)
        · tm_at "go"
          exact ⟨_, _, _, _, _, rfl, s4, by rw [htk, hin, decide_eq_true c2, decide_eq_true c3]; rfl⟩
      · tm_at "go"
        exact kn (bad (by rw [hin, decide_eq_false c2]; rfl)) _ (s13.trans s4)
    · rintro σ' H4 ⟨v4, v5, v8, v9, v10, rfl, s4, hall⟩
      rw [List.take_of_length_le (by omega)] at hall
      have g4 := (s2.trans (s3.trans s4)) _ _ g1
      have hp4 := hp.mono (tp_same (s2.trans (s3.trans s4)))
      tm_at "go"
      refine rc_sortedP g4 hp4 fun p ys H5 s5 n5 g5 h5 => ?_
      tm_at "go"
      refine rc_tupF (.of g5) h5.dt fun v6 H6 s6 h6 z6 => ?_
      have e6 : asg rs st r = some (sortE es) := by rw [hasg, if_pos hall]
      exact k _ _ (s13.trans (s4.trans (s5.trans s6))) (by rw [e6]; exact h6) (by rw [e6]; exact z6)
end K

namespace K
open PySem L2 G
variable {M : Md}
abbrev dcAsg (M : Md) : Prop := Dc M "assigned" ["cells", "rule", "state"] 12 (spZ rAsg M.K)
def setAt (st : St1) (p : Int × Int) : St1 := st.set p.1.toNat p.2
def beh (rs : List Row) (st : St1) (r : Rl) : St1 := match asg rs st r with
  | none => st
  | some es => es.foldl setAt st
theorem firsts_nd {l : List Int} (h : l.length ≤ (firsts l).length) : l.Nodup := by
  have up : ∀ (l seen : List Int), (l.foldl (fun seen j => if j ∈ seen then seen else seen ++ [j]) seen).length ≤ seen.length + l.length := by
    intro l
    induction l with
    | nil => intro seen; exact Nat.le_refl _
    | cons j l ih =>
      intro seen
      have h := ih (if j ∈ seen then seen else seen ++ [j])
      rw [List.foldl_cons, List.length_cons]
      split at h
      · rename_i hj; rw [if_pos hj]; omega
      · rename_i hj; rw [if_neg hj]; rw [List.length_append, List.length_singleton] at h; omega
  have : ∀ (l seen : List Int), seen.length + l.length ≤ (l.foldl (fun seen j => if j ∈ seen then seen else seen ++ [j]) seen).length → (∀ x ∈ l, x ∉ seen) ∧ l.Nodup := by
    intro l
    induction l with
    | nil => intro seen _; exact ⟨(fun _ h => nomatch h), List.nodup_nil⟩
    | cons x l ih =>
      intro seen hs
      rw [List.foldl_cons, List.length_cons] at hs
      by_cases hx : x ∈ seen
      · rw [if_pos hx] at hs
        have := up l seen
        omega
      · rw [if_neg hx] at hs
        obtain ⟨h1, h2⟩ := ih (seen ++ [x]) (by rw [List.length_append, List.length_singleton]; omega)
        refine ⟨fun y hy => ?_, List.nodup_cons.mpr ⟨fun hxl => h1 x hxl (List.mem_append_right _ (List.mem_singleton.mpr rfl)), h2⟩⟩
        rcases List.mem_cons.mp hy with rfl | hy
        · exact hx
        · exact fun hys => h1 y hy (List.mem_append_left _ hys)
  exact (this l [] (by simpa [firsts] using h)).2
theorem asg_in {rs : List Row} {st : St1} {r : Rl} {es : List (Int × Int)} (h : asg rs st r = some es) : (∀ p ∈ es, (0 ≤ p.1 ∧ p.1 < total rs) ∧ inR rs p = true) ∧ es.length = r.as.length ∧ (es.map (·.1)).Nodup ∧ es.Pairwise (fun a b => leB a b = true) := by
  unfold asg at h
  split at h
  · cases h
  rename_i es0 hw
  split at h
  · cases h
  rename_i hnd
  split at h
  · rename_i hall
    cases h
    obtain ⟨h1, h2⟩ := work_in hw
    have hp := sortE_perm es0
    refine ⟨fun p hp' => ⟨h1 p (hp.mem_iff.mp hp'), List.all_eq_true.mp hall p (hp.mem_iff.mp hp')⟩, by rw [hp.length_eq, h2], ?_, sortE_pw es0⟩
    refine ((hp.map (·.1)).nodup_iff).mpr ?_
    refine firsts_nd ?_
    rw [List.length_map]
    omega
  · cases h
def rBeh : List PyData → PyData → Prop := fun ds d => ∃ (rs : List Row) (st : St1) (r : Rl), ds = [cellsD rs, r.d, stD st] ∧ StOk rs st ∧ FitR rs r ∧ d = stD (beh rs st r)
theorem setAt_len (es : List (Int × Int)) : ∀ st : St1, (es.foldl setAt st).length = st.length := by
  induction es with
  | nil => intro st; rfl
  | cons p es ih => intro st; rw [List.foldl_cons, ih, setAt, List.length_set]
def rWa : List PyData → PyData → Prop := fun ds d => ∃ (rs : List Row) (st : St1) (r : Rl), ds = [stD st, asgD (asg rs st r)] ∧ StOk rs st ∧ FitR rs r ∧ d = stD (beh rs st r)
theorem ok_wa {f fd} (F : Fun M.K "with_assigned" "with_assigned" s_with_assigned f fd) (b : Bl M) : FnOk M.prog M.w M.K M.mg M.base CX0 1 f fd ["state", "entries"] (spF rWa M.K) := by
  refine fn_ok F sc_with_assigned (fun vs H Q E h => ?_) (fun H vs Q E h => ?_)
  · obtain ⟨ds, d, h, ⟨rs, st, r, rfl, _⟩, _⟩ := h
    exact h.len
  obtain ⟨ds, d, h, ⟨rs, st, r, rfl, S, R, rfl⟩, k⟩ := h
  obtain _ | ⟨hst, h⟩ := h
  obtain _ | ⟨hv0, h⟩ := h
  cases h
  rename_i vst v
  tm_at "go"
  refine rc_lstT hst fun l ys H1 s1 n1 g1 h1 => ?_
  obtain rfl := dtInts_eq h1
  have hv := hv0.mono (tp_same s1)
  refine b_cut (fun σ1 H' => ∃ (v5 v6 : Option V), σ1 = [some vst, some v, some (.ref l), v5, v6] ∧ Same H H' ∧ H' l = some (.lst ((beh rs st r).map V.int))) ?_ ?_
  · cases ha : asg rs st r with
    | none =>
      rw [ha] at hv
      cases (show Dt _ _ v .none from hv)
      have hb : beh rs st r = st := by unfold beh; rw [ha]
      tm_at "go"
      exact ⟨_, _, rfl, s1, by rw [hb]; exact g1⟩
    | some es =>
      rw [ha] at hv
      obtain ⟨hin, hlen, _⟩ := asg_in ha
      have hb : beh rs st r = es.foldl setAt st := by unfold beh; rw [ha]
      obtain ⟨a, xs, rfl, hxs, hns⟩ := (show Dt _ _ v (.tuple (es.map entD)) from hv).tupE
      have hle := hns.len
      rw [List.length_map] at hle
      tm_at "go"
      refine s_forT ?_
      tm_at "go"
      refine ⟨a, xs, rfl, hxs, fun i σ1 H' => ∃ (v5 v6 : Option V), σ1 = [some vst, some (.ref a), some (.ref l), v5, v6] ∧ Same H H' ∧ Tp H1 H' ∧ H' l = some (.lst (((es.take i).foldl setAt st).map V.int)), ⟨_, _, rfl, s1, Tp.refl _, g1⟩, ?_, ?_, ?_⟩
      · rintro i σ' H' _ ⟨v5, v6, rfl, s, t, _⟩
        exact t.sqt hxs
      · rintro i x σ' H3 hx ⟨v5, v6, rfl, s3, t3, g3⟩
        obtain ⟨d, hd, hx'⟩ := hns.getV hx
        rw [List.getElem?_map] at hd
        obtain ⟨p, hp, rfl⟩ := Option.map_eq_some_iff.mp hd
        obtain ⟨⟨p0, p1⟩, _⟩ := hin p (List.mem_of_getElem? hp)
        refine g_unp2 (by tm_at "at") (by tm_at "at") (hx'.mono t3) fun va vb ha hb => ?_
        cases ha
        cases hb
        refine b_one (s_asg ?_)
        tm_at "go"
        refine g_sub ?_
        tm_at "go"
        refine rp_of (r := rSetL) (fun X h => set_list) ⟨l, _, p.1, p.1.toNat, rfl, rfl, g3, ?_, ?_⟩
        · rw [List.length_map, setAt_len, S.len]
          unfold ixN
          rw [if_pos p0, if_pos (by omega)]
        · have ku := kp_upd (o' := .lst ((((es.take i).foldl setAt st).map V.int).set p.1.toNat (.int p.2))) g3 (fun _ e => nomatch e) (fun _ _ e => nomatch e)
          refine ⟨_, _, rfl, same_mut s3 n1, t3.trans ku.t, ?_⟩
          obtain ⟨z1, z2⟩ := List.getElem?_eq_some_iff.mp hp
          rw [List.take_succ_eq_append_getElem z1, z2, List.foldl_append]
          show _ = some (HO.lst ((setAt _ p).map V.int))
          rw [setAt, List.map_set]
          exact upd_same
      · rintro σ' H3 ⟨v5, v6, rfl, s3, t3, g3⟩
        rw [List.take_of_length_le (by omega), ← hb] at g3
        tm_at "go"
        exact ⟨_, _, rfl, s3, g3⟩
  rintro _ H3 ⟨v5, v6, rfl, s3, g3⟩
  tm_at "go"
  refine rc_tupL (.of g3) (dtInts _) fun v6 H6 s6 h6 => ?_
  exact k _ _ (s3.trans s6) h6
theorem ok_behind {f fd} (F : Fun M.K "behind" "behind" s_behind f fd) (b : Bl M) (da : dcAsg M) (dwa : Dc M "with_assigned" ["state", "entries"] 1 (spF rWa M.K)) : FnOk M.prog M.w M.K M.mg M.base CX0 13 f fd ["cells", "rule", "state"] (spF rBeh M.K) := by
  refine fn_ok F sc_behind (fun vs H Q E h => ?_) (fun H vs Q E h => ?_)
  · obtain ⟨ds, d, h, ⟨rs, st, r, rfl, _⟩, _⟩ := h
    exact h.len
  obtain ⟨ds, d, h, ⟨rs, st, r, rfl, S, R, rfl⟩, k⟩ := h
  have h0 := h
  obtain _ | ⟨hc, h⟩ := h
  obtain _ | ⟨hr, h⟩ := h
  obtain _ | ⟨hst, h⟩ := h
  cases h
  rename_i vc vr vst
  tm_at "go"
  refine e_callF dwa ?_
  tm_at "go"
  refine e_callZ da ?_
  tm_at "go"
  refine ⟨_, _, h0, ⟨rs, st, r, rfl, S, R, rfl⟩, fun v H2 s2 hv zv => ?_⟩
  refine a_nil ?_
  exact ⟨_, _, .cons (hst.mono (tp_same s2)) (.cons hv .nil), ⟨rs, st, r, rfl, S, R, rfl⟩, fun v3 H3 s3 h3 => k _ _ (s2.trans s3) h3⟩
def rLof : List PyData → PyData → Prop := fun ds d => ∃ (rs : List Row) (st : St1) (r : Rl), ds = [cellsD rs, r.d, stD st] ∧ StOk rs st ∧ FitR rs r ∧ d = looksD st (work rs st r).2
theorem wo_looks {rs : List Row} {st : St1} (S : StOk rs st) : ∀ {as : List (Tg × Ex)}, (∀ p ∈ as, FitT rs p.1 ∧ Fit rs p.2 ∧ p.2.dep ≤ 2) → (∀ j ∈ (wo rs st as).2, 0 ≤ j ∧ j < total rs) ∧ (wo rs st as).2.length ≤ 64 * as.length
  | [], _ => by
    rw [wo]
    exact ⟨(fun _ h => nomatch h), Nat.zero_le _⟩
  | p :: ps, hp => by
    obtain ⟨h1, h2, h3⟩ := hp p (List.mem_cons_self ..)
    obtain ⟨i1, i2⟩ := wo_looks S fun q hq => hp q (List.mem_cons_of_mem _ hq)
    have lt := tgt_len (rs := rs) (st := st) h1
    have le2 := lenLooks (rs := rs) (st := st) (e := p.2) (n := 2) h3 (by decide)
    rw [List.length_map] at le2
    have tin : ∀ j ∈ (tgt rs st p.1).2, 0 ≤ j ∧ j < total rs := by
      cases hpt : p.1 with
      | nm => intro j hj; cases hj
      | «at» t e =>
        rw [hpt] at h1
        intro j hj
        unfold tgt at hj
        rw [keyed_snd] at hj
        exact ev_in S e h1.2.1 j hj
    have ein := ev_in S p.2 h2
    rw [List.length_cons]
    cases e1 : (tgt rs st p.1).1 with
    | none => rw [wo_j e1]; exact ⟨tin, by show (tgt rs st p.1).2.length ≤ _; omega⟩
    | some j =>
      cases e2 : (ev rs st p.2).1 with
      | none =>
        rw [wo_v e1 e2]
        refine ⟨fun j hj => ?_, by show ((tgt rs st p.1).2 ++ _).length ≤ _; rw [List.length_append]; omega⟩
        rcases List.mem_append.mp hj with hj | hj
        · exact tin j hj
        · exact ein j hj
      | some v =>
        rw [wo_s e1 e2]
        refine ⟨fun j hj => ?_, by show ((tgt rs st p.1).2 ++ (_ ++ _)).length ≤ _; rw [List.length_append, List.length_append]; omega⟩
        rcases List.mem_append.mp hj with hj | hj
        · exact tin j hj
        · rcases List.mem_append.mp hj with hj | hj
          · exact ein j hj
          · exact i1 j hj
theorem work_looks {rs : List Row} {st : St1} {r : Rl} (S : StOk rs st) (R : FitR rs r) : (∀ j ∈ (work rs st r).2, 0 ≤ j ∧ j < total rs) ∧ (work rs st r).2.length ≤ 900 := by
  obtain ⟨h1, h2⟩ := wo_looks S R.as
  have lg := lenLooks (rs := rs) (st := st) (e := r.guard) (n := 2) R.guard.2 (by decide)
  rw [List.length_map] at lg
  have gin := ev_in S r.guard R.guard.1
  have hl := R.len
  unfold work
  split
  · exact ⟨gin, by show (ev rs st r.guard).2.length ≤ _; omega⟩
  · split
    · exact ⟨gin, by show (ev rs st r.guard).2.length ≤ _; omega⟩
    · refine ⟨fun j hj => ?_, by show ((ev rs st r.guard).2 ++ _).length ≤ _; rw [List.length_append]; omega⟩
      rcases List.mem_append.mp hj with hj | hj
      · exact gin j hj
      · exact h1 j hj
theorem ok_lof {f fd} (F : Fun M.K "looks_of" "looks_of" s_looks_of f fd) (b : Bl M) (dw : dcWork M) (dfl : Dc M "first_looks" ["state", "looks"] 1 (spZ rFirst M.K)) : FnOk M.prog M.w M.K M.mg M.base CX0 12 f fd ["cells", "rule", "state"] (spZ rLof M.K) := by
  refine fn_ok F sc_looks_of (fun vs H Q E h => ?_) (fun H vs Q E h => ?_)
  · obtain ⟨ds, d, h, ⟨rs, st, r, rfl, _⟩, _⟩ := h
    exact h.len
  obtain ⟨ds, d, h, ⟨rs, st, r, rfl, S, R, rfl⟩, k⟩ := h
  have h0 := h
  obtain _ | ⟨hc, h⟩ := h
  obtain _ | ⟨hr, h⟩ := h
  obtain _ | ⟨hst, h⟩ := h
  cases h
  refine b_cons (s_asg ?_)
  refine e_call dw ?_
  tm_at "go"
  refine ⟨rs, st, r, h0, S, R, fun p v1 v2 H1 s1 ht hE hlk => ?_⟩
  refine g_tup ht (gs_cons (g_name (by tm_at "at") (gs_cons (g_name (by tm_at "at") (gs_nil ?_)))))
  obtain ⟨w1, w2⟩ := work_looks S R
  tm_at "go"
  refine e_callZ dfl ?_
  tm_at "go"
  exact ⟨_, _, .cons (hst.mono (tp_same s1)) (.cons hlk .nil), ⟨rs, st, _, rfl, S, w1, w2, rfl⟩, fun v H2 s2 hv z => k _ _ (s1.trans s2) hv z⟩
end K

namespace K
open PySem L2 G
variable {M : Md}
/-! ### two states that agree where it is looked -/
theorem thn1_ag {r r' : Res} {g g' : Int → Res} {P : Int → Prop} (h1 : (∀ j ∈ r.2, P j) → r' = r) (h2 : ∀ v, r.1 = some v → (∀ j ∈ (g v).2, P j) → g' v = g v) (h : ∀ j ∈ (thn1 r g).2, P j) : thn1 r' g' = thn1 r g := by
  cases e : r.1 with
  | none =>
    rw [thn1_none e] at h
    have e' := h1 h
    rw [e', thn1_none e, thn1_none e]
  | some v =>
    rw [thn1_val e] at h
    have e' := h1 fun j hj => h j (List.mem_append_left _ hj)
    have e2 := h2 v e fun j hj => h j (List.mem_append_right _ hj)
    rw [e', thn1_val e, thn1_val e, e2]
theorem keyed_ag {rs : List Row} {t : Str} {r r' : Res} {P : Int → Prop} (h1 : (∀ j ∈ r.2, P j) → r' = r) (h : ∀ j ∈ (keyed rs t r).2, P j) : keyed rs t r' = keyed rs t r := by
  rw [keyed_snd] at h
  rw [h1 h]
theorem ev_ag {rs : List Row} {st st' : St1} : ∀ (e : Ex), (∀ j ∈ (ev rs st e).2, gt st' j = gt st j) → ev rs st' e = ev rs st e
  | .int i, _ => by rw [ev, ev]
  | .nm s, h => by
    rw [ev] at h
    rw [ev, ev, h _ (List.mem_singleton.mpr rfl)]
  | .at t e, h => by
    rw [thn1_keyed] at h ⊢
    rw [thn1_keyed]
    refine thn1_ag (keyed_ag (ev_ag e)) (fun j _ hj => ?_) h
    rw [hj j (List.mem_singleton.mpr rfl)]
  | .un op e, h => by
    rw [ev] at h ⊢
    rw [ev]
    exact thn1_ag (ev_ag e) (fun j _ hj => rfl) h
  | .bin op a b, h => by
    rw [ev] at h ⊢
    rw [ev]
    by_cases hl : isLazy op = true
    · rw [if_pos hl] at h ⊢
      rw [if_pos hl]
      refine thn1_ag (ev_ag a) (fun v _ hv => ?_) h
      by_cases hc : decide (v ≠ 0) = decide (op = "or")
      · rw [if_pos hc, if_pos hc]
      · rw [if_neg hc] at hv ⊢
        rw [if_neg hc]
        exact thn1_ag (ev_ag b) (fun _ _ _ => rfl) hv
    · rw [if_neg hl] at h ⊢
      rw [if_neg hl]
      refine thn1_ag (ev_ag a) (fun v _ hv => ?_) h
      exact thn1_ag (ev_ag b) (fun _ _ _ => rfl) hv
  | .kk op e n, h => by
    rw [ev] at h ⊢
    rw [ev]
    exact thn1_ag (ev_ag e) (fun j _ hj => rfl) h
  | .ite a b d, h => by
    rw [ev] at h ⊢
    rw [ev]
    refine thn1_ag (ev_ag a) (fun v _ hv => ?_) h
    by_cases hc : v ≠ 0
    · rw [if_pos hc] at hv ⊢
      rw [if_pos hc]
      exact ev_ag b hv
    · rw [if_neg hc] at hv ⊢
      rw [if_neg hc]
      exact ev_ag d hv
theorem tgt_ag {rs : List Row} {st st' : St1} (t : Tg) (h : ∀ j ∈ (tgt rs st t).2, gt st' j = gt st j) : tgt rs st' t = tgt rs st t := by
  cases t with
  | nm => rfl
  | «at» t e => exact keyed_ag (ev_ag e) h
theorem wo_ag {rs : List Row} {st st' : St1} : ∀ (as : List (Tg × Ex)), (∀ j ∈ (wo rs st as).2, gt st' j = gt st j) → wo rs st' as = wo rs st as
  | [], _ => by rw [wo, wo]
  | p :: ps, h => by
    cases e1 : (tgt rs st p.1).1 with
    | none =>
      rw [wo_j e1] at h
      have t1 := tgt_ag p.1 h
      rw [wo_j e1, wo_j (by rw [t1]; exact e1), t1]
    | some j =>
      cases e2 : (ev rs st p.2).1 with
      | none =>
        rw [wo_v e1 e2] at h
        have t1 := tgt_ag p.1 fun j hj => h j (List.mem_append_left _ hj)
        have t2 := ev_ag p.2 fun j hj => h j (List.mem_append_right _ hj)
        rw [wo_v e1 e2, wo_v (by rw [t1]; exact e1) (by rw [t2]; exact e2), t1, t2]
      | some v =>
        rw [wo_s e1 e2] at h
        have t1 := tgt_ag p.1 fun j hj => h j (List.mem_append_left _ hj)
        have t2 := ev_ag p.2 fun j hj => h j (List.mem_append_right _ (List.mem_append_left _ hj))
        have t3 := wo_ag ps fun j hj => h j (List.mem_append_right _ (List.mem_append_right _ hj))
        rw [wo_s e1 e2, wo_s (by rw [t1]; exact e1) (by rw [t2]; exact e2), t1, t2, t3]
theorem work_ag {rs : List Row} {st st' : St1} {r : Rl} (h : ∀ j ∈ (work rs st r).2, gt st' j = gt st j) : work rs st' r = work rs st r := by
  cases e1 : (ev rs st r.guard).1 with
  | none =>
    have w : work rs st r = (none, (ev rs st r.guard).2) := by rw [work, e1]
    rw [w] at h
    have t1 := ev_ag r.guard h
    rw [w, work, t1, e1]
  | some g =>
    by_cases hg : g = 0
    · have w : work rs st r = (none, (ev rs st r.guard).2) := by rw [work, e1]; exact if_pos hg
      rw [w] at h
      have t1 := ev_ag r.guard h
      rw [w, work, t1, e1]
      exact if_pos hg
    · have w : work rs st r = ((wo rs st r.as).1, (ev rs st r.guard).2 ++ (wo rs st r.as).2) := by rw [work, e1]; exact if_neg hg
      rw [w] at h
      have t1 := ev_ag r.guard fun j hj => h j (List.mem_append_left _ hj)
      have t2 := wo_ag r.as fun j hj => h j (List.mem_append_right _ hj)
      rw [w, work, t1, e1, t2]
      exact if_neg hg
theorem asg_ag {rs : List Row} {st st' : St1} {r : Rl} (h : work rs st' r = work rs st r) : asg rs st' r = asg rs st r := by
  unfold asg
  rw [h]
theorem looksD_ag {st st' : St1} {lk : List Int} (h : ∀ j ∈ lk, gt st' j = gt st j) : looksD st' lk = looksD st lk := by
  unfold looksD
  congr 1
  refine List.map_congr_left fun j hj => ?_
  unfold lookD
  rw [h j (firsts_mem.mp hj)]
/-! ### _law_agree -/
def agree (st st' : St1) (lk : List Int) : Prop := ∀ j ∈ lk, gt st j = gt st' j
def gDis (st : St1) : PyData → Option PyData
  | .tuple [.int j, .int v] => if gt st j = v then none else some (.int j)
  | _ => none
def rAgree : List PyData → PyData → Prop := fun ds d => ∃ (rs : List Row) (st st' : St1) (lk : List Int) (bb : Bool), ds = [stD st, looksD st' lk] ∧ StOk rs st ∧ (∀ j ∈ lk, 0 ≤ j ∧ j < total rs) ∧ lk.length ≤ 900 ∧ d = .bool bb ∧ (bb = true ↔ agree st st' lk)
theorem gDis_all (st st' : St1) (js : List Int) : (js.map (lookD st')).filterMap (gDis st) = (js.filter fun j => decide (gt st j ≠ gt st' j)).map .int := by
  induction js with
  | nil => rfl
  | cons j js ih =>
    rw [List.map_cons, List.filterMap_cons, List.filter_cons]
    have e : gDis st (lookD st' j) = if gt st j = gt st' j then none else some (.int j) := rfl
    rw [e]
    by_cases h : gt st j = gt st' j
    · rw [if_pos h, if_neg (by simp [h])]; exact ih
    · rw [if_neg h, if_pos (by simpa using h), List.map_cons, ← ih]
theorem ok_agree {f fd} (F : Fun M.K "_law_agree" "_law_agree" s__law_agree f fd) (b : Bl M) : FnOk M.prog M.w M.K M.mg M.base CX0 1 f fd ["_law_state", "_law_looks"] (spF rAgree M.K) := by
  refine fn_ok F sc__law_agree (fun vs H Q E h => ?_) (fun H vs Q E h => ?_)
  · obtain ⟨ds, d, h, ⟨rs, st, st', lk, bb, rfl, _⟩, _⟩ := h
    exact h.len
  obtain ⟨ds, d, h, ⟨rs, st, st', lk, bb, rfl, S, hin, hll, rfl, hbb⟩, k⟩ := h
  obtain _ | ⟨hst, h⟩ := h
  obtain _ | ⟨hlk, h⟩ := h
  cases h
  refine b_one (s_ret (e_cmp ?_))
  refine e_lc (own := [("_law_spot", 2), ("_law_value", 3)]) (Blk.of (N := N__law_agree) (sc := defScope s__law_agree) rfl rfl (by decide +kernel)) ?_
  refine lcT_F (gDis st) ?_
  tm_at "go"
  refine ⟨(firsts lk).map (lookD st'), hlk, by rw [List.length_map]; have := firsts_len lk; omega, fun d x H' hd s hx => ?_, fun l us H1 s1 n1 g1 h1 => ?_⟩
  · obtain ⟨j, hj, rfl⟩ := List.mem_map.mp hd
    obtain ⟨j0, j1⟩ := hin j (firsts_mem.mp hj)
    refine g_unp2 (by tm_at "at") (by tm_at "at") hx fun v1 v2 h1 h2 => ⟨rfl, rfl, ts_one ?_⟩
    cases h1
    cases h2
    tm_at "go"
    refine rx_int (hst.mono (tp_same s)) (gt_at S j0 j1) ?_
    tm_at "go"
    refine ⟨Same.refl _, ifnd (fun c1 => ?_) (fun c1 => ?_)⟩
    · tm_at "go"
      exact ⟨Same.refl _, _, by show (if _ then _ else _) = _; rw [if_neg c1], .int _⟩
    · show (if _ then _ else _) = _
      rw [if_pos c1]
  rw [gDis_all] at h1
  refine e_lstD ?_
  tm_at "go"
  refine ⟨(Nat.le_of_ble_eq_true rfl), fun q0 H2 s2 n2 g2 => ?_⟩
  refine ro_eqNil (n := 1) (s2 _ _ g1) (h1.mono (tp_same s2)) (fun d hd => ?_) (by decide) g2 ?_
  · obtain ⟨j, _, rfl⟩ := List.mem_map.mp hd
    exact shp_int j
  have e : (((firsts lk).filter fun j => decide (gt st j ≠ gt st' j)).map PyData.int).isEmpty = bb := by
    rw [Bool.eq_iff_iff, hbb, List.isEmpty_iff, List.map_eq_nil_iff, List.filter_eq_nil_iff]
    constructor
    · intro h j hj
      have := h j (firsts_mem.mpr hj)
      simpa using this
    · intro h j hj
      have := h j (firsts_mem.mp hj)
      simpa using this
  rw [e]
  exact k _ _ (s1.trans s2) (.bl _)
end K

namespace G
open PySem PySem.Spec PyProof.Rows L2
section
variable {X : Cx}
/-- pairs of a tuple, told as the library's dict(..) wants them -/
theorem told_pairs {pins : List (Addr × Obj)} {σ : L2.St} {H : Hp} {s : Shared} (J : Inv X pins σ H s) : ∀ {ts : List Addr} {kvs : List (Key × V)}, Paired (fun p kv => SqT X.K H p [kV kv.1, kv.2]) ts kvs →
    ∃ (ks : List (Key × Value)) (vv : List (Value × Value)), KV kvs ks ∧ ks.length = ts.length ∧ vv.length = ts.length ∧ ∀ (j : Nat) (b : Addr), ts[j]? = some b → ∃ (u : Value) (q : Key × Value), vv[j]? = some (u, q.2) ∧ ks[j]? = some q ∧ IsTup s.heap b #[u, q.2] ∧ keyIs q.1 u = true
  | _, _, .nil => ⟨[], [], .nil, rfl, rfl, fun j b e => by simp at e⟩
  | _, _, .cons (a := t0) (b := kv) h0 rest => by
    obtain ⟨ks, vv, kk, l1, l2, each⟩ := told_pairs J rest
    obtain ⟨ws, rw0, isT, -⟩ := J.tuple h0
    obtain ⟨u, y, rfl, ru, ry⟩ := vals2 rw0
    refine ⟨(kv.1, y) :: ks, (u, y) :: vv, .cons ⟨rfl, ry⟩ kk, by simp [l1], by simp [l2], fun j b e => ?_⟩
    cases j with
    | zero =>
      obtain rfl : t0 = b := Option.some.inj e
      exact ⟨u, (kv.1, y), rfl, rfl, isT, kV_is (P := X.prog) (w := X.w) ru⟩
    | succ j =>
      obtain ⟨u1, q1, a1, a2, a3⟩ := each j b (by simpa using e)
      exact ⟨u1, q1, by simpa using a1, by simpa using a2, a3⟩
theorem cr_dictT (quiet : X.calm = true) : CallR X (.type "dict") (fun vs H Q => ∃ (a : Addr) (ob : Obj) (ts : List Addr) (kvs : List (Key × V)), vs = [.ref a] ∧ H a = some (.frz ob (.tup (ts.map V.ref))) ∧ BareT ob ∧ Paired (fun p kv => SqT X.K H p [kV kv.1, kv.2]) ts kvs ∧
    ∀ p, H p = none → Q (.ref p) (upd H p (.dK (mergeK [] kvs)))) := by
  rintro pins s σ H vs us Q J rv ⟨a, ob, ts, kvs, rfl, ha, hb, hp, k⟩
  obtain ⟨w0, rfl, rw0⟩ := vals1 rv
  cases rw0
  obtain ⟨ho, short, ws, rz, ⟨o2, ho2, hc2, n, hdat⟩⟩ := (show ObjOk X.prog X.w H s.heap a (.frz ob (.tup (ts.map V.ref))) from J.hok a _ ha)
  obtain rfl : o2 = ob := Option.some.inj (ho2.symm.trans ho)
  obtain rfl := refs_at rz
  rw [List.length_map] at short
  obtain ⟨ks, vv, kk, l1, l2, each⟩ := told_pairs J hp
  have items : PySem.PairItems s.heap (ts.map Value.ref).toArray (fun j => ts.getD j 0) vv := by
    refine ⟨by simp [l2], fun j ky vl e => ?_⟩
    have hj : j < ts.length := by
      have := (List.getElem?_eq_some_iff.mp e).1
      omega
    have ej := List.getElem?_eq_getElem hj
    obtain ⟨u, q, a1, a2, ⟨o3, t1, t2, m, t3⟩, _⟩ := each j _ ej
    obtain ⟨rfl, rfl⟩ := Prod.mk.inj (Option.some.inj (a1.symm.trans e))
    refine ⟨by simp [ej, List.getD_eq_getElem?_getD], .inl ⟨o3, ?_, t2, m, t3⟩⟩
    simp only [List.getD_eq_getElem?_getD, ej, Option.getD_some]
    exact t1
  refine PySem.call_dict_pairs (knd := mixKind X.prog X.w) (kvs := ks) (PySem.PairArg.tuple (prog := X.prog) (w := X.w) a (ts.map Value.ref).toArray (fun j => ts.getD j 0) vv) (J.ok.hd quiet) ⟨⟨o2, n, ho, hc2, hb.2, hdat⟩, items⟩ ⟨by omega, fun i ky vl e => ?_⟩ (by omega) fun h' tk hd' keep => ?_
  · have e' : vv[i]? = some (ky, vl) := e
    have hj : i < ts.length := by
      have := (List.getElem?_eq_some_iff.mp e').1
      omega
    obtain ⟨u, q, a1, a2, _, a4⟩ := each i _ (List.getElem?_eq_getElem hj)
    obtain ⟨rfl, rfl⟩ := Prod.mk.inj (Option.some.inj (a1.symm.trans e'))
    exact ⟨q.1, a2, a4⟩
  · have hm : (s.heap.objs.size == sysModules) = false := beq_eq_false_iff_ne.mpr (Nat.ne_of_gt J.big)
    have fits : (mergeK [] kvs).length ≤ sizeLine := by
      have h1 := length_mergeK kvs []
      have h2 := kk.length
      simp only [List.length_nil, Nat.zero_add] at h1
      omega
    exact ⟨.ref s.heap.objs.size, _, J.laid (o := .dK (mergeK [] kvs)) (t' := tk) (fun b o e => keep b o (by simp) e) (Nat.le_refl _) ⟨fits, hm, _, KV.merge kk .nil, hd'⟩, rfl, k _ (J.hok.fresh (Nat.le_refl _))⟩
end
end G

namespace K
open PySem PySem.Spec PyProof.Rows L2 G
variable {M : Md}
def kvE (p : Int × Int) : Key × V := (Sum.inl p.1, .int p.2)
theorem putK_new {kvs : List (Key × V)} {k : Key} {v : V} (h : k ∉ kvs.map (·.1)) : putK kvs k v = kvs ++ [(k, v)] := by
  unfold putK
  rw [if_neg]
  intro ha
  obtain ⟨x, hx, e⟩ := List.any_eq_true.mp ha
  exact h (List.mem_map.mpr ⟨x, hx, by simpa using e⟩)
theorem merge_new : ∀ (more kvs : List (Key × V)), ((kvs ++ more).map (·.1)).Nodup → mergeK kvs more = kvs ++ more
  | [], kvs, _ => by rw [List.append_nil]; rfl
  | p :: more, kvs, h => by
    have h1 : p.1 ∉ kvs.map (·.1) := by
      intro hp
      rw [List.map_append, List.map_cons, List.nodup_append] at h
      exact h.2.2 _ hp _ (List.mem_cons_self ..) rfl
    have h2 : mergeK (putK kvs p.1 p.2) more = (kvs ++ [p]) ++ more := by
      rw [putK_new h1]
      exact merge_new more (kvs ++ [p]) (by rw [List.append_assoc]; exact h)
    rw [List.append_assoc] at h2
    exact h2
theorem nodup_kv {es : List (Int × Int)} (h : (es.map (·.1)).Nodup) : ((es.map kvE).map (·.1)).Nodup := by
  have e : (es.map kvE).map (·.1) = (es.map (·.1)).map (Sum.inl : Int → Key) := by simp [kvE, Function.comp_def]
  rw [e, List.nodup_iff_pairwise_ne, List.pairwise_map]
  exact (List.nodup_iff_pairwise_ne.mp h).imp fun hab e => hab (Sum.inl.inj e)
theorem ents_refs {K : PySem.W.Frag} {H : Hp} : ∀ {es : List (Int × Int)} {us : List V}, DtAll K H us (es.map entD) → ∃ ts : List Addr, us = ts.map V.ref ∧ Paired (fun p kv => SqT K H p [kV kv.1, kv.2]) ts (es.map kvE)
  | [], _, h => by cases h; exact ⟨[], rfl, .nil⟩
  | (i, j) :: es, _, h => by
    obtain _ | ⟨h1, h2⟩ := h
    obtain ⟨ts, rfl, hp⟩ := ents_refs h2
    obtain ⟨a, xs, rfl, ht, hd⟩ := (show Dt K H _ (.tuple [.int i, .int j]) from h1).tupE
    obtain _ | ⟨e1, hd⟩ := hd
    obtain _ | ⟨e2, hd⟩ := hd
    cases hd
    cases e1
    cases e2
    exact ⟨a :: ts, rfl, .cons ht hp⟩
/-- dict(v) of a bare tuple of pairs of ints, keys once each -/
theorem rc_dictE {c : Cd} {H : Hp} {Q : VK} {a : Addr} {ob : Obj} {us : List V} {es : List (Int × Int)} (hf : H a = some (.frz ob (.tup us))) (hb : BareT ob) (hd : DtAll c.K H us (es.map entD)) (nd : (es.map (·.1)).Nodup) (q : ∀ p H', Same H H' → H p = none → H' p = some (.dK (es.map kvE)) → Q (.ref p) H') : RC c (.type "dict") [.ref a] H Q := by
  obtain ⟨ts, rfl, hp⟩ := ents_refs hd
  refine rc_of (r := fun vs H Q => ∃ (a : Addr) (ob : Obj) (ts : List Addr) (kvs : List (Key × V)), vs = [.ref a] ∧ H a = some (.frz ob (.tup (ts.map V.ref))) ∧ BareT ob ∧ Paired (fun p kv => SqT c.K H p [kV kv.1, kv.2]) ts kvs ∧ ∀ p, H p = none → Q (.ref p) (upd H p (.dK (mergeK [] kvs)))) (fun X h => by rw [← h.K]; exact cr_dictT h.calm) ⟨a, ob, ts, es.map kvE, rfl, hf, hb, hp, fun p hn => ?_⟩
  rw [merge_new _ [] (by rw [List.nil_append]; exact nodup_kv nd), List.nil_append]
  exact q p _ (same_new hn) hn upd_same
theorem rc_lenD {c : Cd} {H : Hp} {Q : VK} {a : Addr} {kvs : List (Key × V)} (h : H a = some (.dK kvs)) (q : Q (.int kvs.length) H) : RC c (.builtin "len") [.ref a] H Q :=
  rc_of (r := fun xs H Q => ∃ a kvs, xs = [V.ref a] ∧ H a = some (.dK kvs) ∧ Q (.int kvs.length) H) (fun X h => call_lenD) ⟨a, kvs, rfl, h, q⟩
/-- _law_looks_plain -/
def spPlain (K : PySem.W.Frag) : Sp := fun vs H Q _ => ∃ (rs : List Row) (st : St1) (lk : List Int) (v1 v2 : V), vs = [v1, v2] ∧ Dt K H v1 (stD st) ∧ Fz K H v2 (looksD st lk) ∧ StOk rs st ∧ (∀ j ∈ lk, 0 ≤ j ∧ j < total rs) ∧ lk.length ≤ 900 ∧ ∀ H', Same H H' → Q (.bl true) H'
def gSpot : PyData → Option PyData
  | .tuple [.int j, _] => some (.int j)
  | _ => none
theorem gSpot_all (st : St1) (js : List Int) : (js.map (lookD st)).filterMap gSpot = js.map .int := by
  induction js with
  | nil => rfl
  | cons j js ih => rw [List.map_cons, List.filterMap_cons, List.map_cons, ← ih]; rfl
set_option maxHeartbeats 1000000 in
theorem ok_plain {f fd} (F : Fun M.K "_law_looks_plain" "_law_looks_plain" s__law_looks_plain f fd) (b : Bl M) (da : Dc M "_law_agree" ["_law_state", "_law_looks"] 1 (spF rAgree M.K)) : FnOk M.prog M.w M.K M.mg M.base CX0 2 f fd ["_law_state", "_law_looks"] (spPlain M.K) := by
  refine fn_ok F sc__law_looks_plain (fun vs H Q E h => ?_) (fun H vs Q E h => ?_)
  · obtain ⟨rs, st, lk, v1, v2, rfl, _⟩ := h
    rfl
  obtain ⟨rs, st, lk, vst, vlk, rfl, hst, hz, S, hin, hll, k⟩ := h
  have hlk := hz.dt
  refine b_cons (s_setLc (own := [("_law_spot", 3), ("_law_value", 4)]) (by tm_at "at") (Blk.of (N := N__law_looks_plain) (sc := defScope s__law_looks_plain) rfl rfl (by decide +kernel)) ?_)
  refine lcT_F gSpot ?_
  tm_at "go"
  have hfl := firsts_len lk
  refine ⟨(firsts lk).map (lookD st), hlk, by rw [List.length_map]; omega, fun d x H' hd s hx => ?_, fun l us H1 s1 n1 g1 h1 => ?_⟩
  · obtain ⟨j, hj, rfl⟩ := List.mem_map.mp hd
    refine g_unp2 (by tm_at "at") (by tm_at "at") hx fun v1 v2 h1 h2 => ⟨rfl, rfl, ts_nil ⟨Same.refl _, ift ?_⟩⟩
    tm_at "go"
    exact ⟨Same.refl _, _, rfl, h1⟩
  rw [gSpot_all] at h1
  obtain rfl := dtInts_eq h1
  have hz1 := hz.mono (tp_same s1)
  refine b_cut (fun σ1 H' => ∃ v3, σ1 = [some vst, some vlk, some (.ref l), none, v3, none] ∧ Same H1 H') ?_ ?_
  · tm_at "go"
    refine t_val ?_
    refine e_callF da ?_
    tm_at "go"
    refine ⟨_, _, .cons (hst.mono (tp_same s1)) (.cons (hlk.mono (tp_same s1)) .nil), ⟨rs, st, st, lk, true, rfl, S, hin, hll, rfl, by simp [agree]⟩, fun v H2 s2 hv => ?_⟩
    cases hv
    tm_at "go"
    obtain ⟨az, oz, uz, rfl, hfz, hbz, hdz⟩ := (hz1.mono (tp_same s2)).tup
    have e0 : (firsts lk).map (lookD st) = ((firsts lk).map fun j => (j, gt st j)).map entD := by rw [List.map_map]; rfl
    rw [e0] at hdz
    refine rc_dictE hfz hbz hdz (by rw [List.map_map]; show ((firsts lk).map id).Nodup; rw [List.map_id]; exact firsts_nodup lk) fun p H3 s3 n3 g3 => ?_
    tm_at "go"
    refine rc_lenD g3 ?_
    tm_at "go"
    refine rc_lenL (.of ((s2.trans s3) _ _ g1)) ?_
    tm_at "go"
    refine ifnF (p := (((((firsts lk).map fun j => (j, gt st j)).map kvE).length : Nat) : Int) = ((((firsts lk).map V.int).length : Nat) : Int)) (by simp only [List.length_map]) ?_
    tm_at "go"
    exact s2.trans s3
  rintro _ H2 ⟨v3, rfl, s2⟩
  refine b_one (s_ret (e_cmp ?_))
  refine e_lc (own := [("_law_k", 5)]) (Blk.of (N := N__law_looks_plain) (sc := defScope s__law_looks_plain) rfl rfl (by decide +kernel)) ?_
  refine lcL_F (fun _ => none) ?_
  tm_at "go"
  refine ⟨l, _, (firsts lk).map .int, rfl, .of (s2 _ _ g1), dtInts _, by rw [List.length_map]; omega, fun d x H' hd s hx => ?_, fun l3 us3 H3 s3 n3 g3 h3 => ?_⟩
  · obtain ⟨j, hj, rfl⟩ := List.mem_map.mp hd
    cases hx
    obtain ⟨j0, j1⟩ := hin j (firsts_mem.mp hj)
    refine g_name (by tm_at "at") ⟨rfl, rfl, ts_one ?_⟩
    tm_at "go"
    refine ifT j0 ?_
    tm_at "go"
    refine rc_lenT (hst.mono (tp_same (s1.trans (s2.trans s)))) ?_
    tm_at "go"
    refine ⟨Same.refl _, ifnF (by rw [List.length_map, S.len]; exact j1) rfl⟩
  have e3 : ((firsts lk).map PyData.int).filterMap (fun _ => (none : Option PyData)) = [] := by simp
  rw [e3] at h3
  refine e_lstD ?_
  tm_at "go"
  refine ⟨(Nat.le_of_ble_eq_true rfl), fun q0 H4 s4 n4 g4 => ?_⟩
  refine ro_eqNil (n := 1) (s4 _ _ g3) (h3.mono (tp_same s4)) (fun d hd => nomatch hd) (by decide) g4 ?_
  exact k _ (s1.trans (s2.trans (s3.trans s4)))
end K

namespace K
open PySem L2 G
variable {M : Md}
/-- a list of triples (state, what it answers, looks) -/
inductive Told (K : PySem.W.Frag) (H : Hp) (zz : Bool) (f : St1 → PyData) (lk : St1 → List Int) : List V → List St1 → Prop
  | nil : Told K H zz f lk [] []
  | cons {t : Addr} {v1 v2 v3 : V} {st : St1} {us : List V} {sts : List St1} : H t = some (.tup [v1, v2, v3]) → Dt K H v1 (stD st) → Dt K H v2 (f st) → (zz = true → Fz K H v2 (f st)) → Fz K H v3 (looksD st (lk st)) → Told K H zz f lk us sts → Told K H zz f lk (.ref t :: us) (st :: sts)
theorem Told.mono {K : PySem.W.Frag} {H H' : Hp} {zz : Bool} {f : St1 → PyData} {lk : St1 → List Int} (e : Tp H H') {us : List V} {sts : List St1} (h : Told K H zz f lk us sts) : Told K H' zz f lk us sts := by
  induction h with
  | nil => exact .nil
  | cons h1 h2 h3 h4 h5 _ ih => exact .cons (e.t _ _ h1) (h2.mono e) (h3.mono e) (fun z => (h4 z).mono e) (h5.mono e) ih
theorem Told.app {K : PySem.W.Frag} {H : Hp} {zz : Bool} {f : St1 → PyData} {lk : St1 → List Int} {us vs : List V} {sts tts : List St1} (h : Told K H zz f lk us sts) (k : Told K H zz f lk vs tts) : Told K H zz f lk (us ++ vs) (sts ++ tts) := by
  induction h with
  | nil => exact k
  | cons h1 h2 h3 h4 h5 _ ih => exact .cons h1 h2 h3 h4 h5 ih
theorem Told.get {K : PySem.W.Frag} {H : Hp} {zz : Bool} {f : St1 → PyData} {lk : St1 → List Int} : ∀ {us : List V} {sts : List St1} {i : Nat} {x : V}, Told K H zz f lk us sts → us[i]? = some x →
    ∃ st t v1 v2 v3, sts[i]? = some st ∧ x = .ref t ∧ H t = some (.tup [v1, v2, v3]) ∧ Dt K H v1 (stD st) ∧ Dt K H v2 (f st) ∧ (zz = true → Fz K H v2 (f st)) ∧ Fz K H v3 (looksD st (lk st))
  | _, _, i, _, .nil, e => by simp at e
  | _, _, 0, _, .cons h1 h2 h3 h4 h5 _, e => by
    cases e
    exact ⟨_, _, _, _, _, rfl, rfl, h1, h2, h3, h4, h5⟩
  | _, _, i + 1, _, .cons h1 h2 h3 h4 h5 hr, e => by
    obtain ⟨st, t, v1, v2, v3, a, r⟩ := Told.get (i := i) hr (by simpa using e)
    exact ⟨st, t, v1, v2, v3, by simpa using a, r⟩
theorem Told.len {K : PySem.W.Frag} {H : Hp} {zz : Bool} {f : St1 → PyData} {lk : St1 → List Int} {us : List V} {sts : List St1} (h : Told K H zz f lk us sts) : us.length = sts.length := by
  induction h with
  | nil => rfl
  | cons _ _ _ _ _ _ ih => rw [List.length_cons, List.length_cons, ih]
abbrev dcPlain (M : Md) : Prop := Dc M "_law_looks_plain" ["_law_state", "_law_looks"] 2 (spPlain M.K)
abbrev dcAgree (M : Md) : Prop := Dc M "_law_agree" ["_law_state", "_law_looks"] 1 (spF rAgree M.K)
structure StsIn (rs : List Row) (sts : List St1) : Prop where
  ok : ∀ st ∈ sts, StOk rs st
  len : sts.length ≤ 600
def spFr (K : PySem.W.Frag) : Sp := fun vs H Q _ => ∃ (rs : List Row) (e : Ex) (sts : List St1) (vr ve : V) (ls : Addr) (us : List V), vs = [vr, ve, .ref ls] ∧ Dt K H vr (cellsD rs) ∧ Dt K H ve e.d ∧ H ls = some (.lst us) ∧ DtAll K H us (sts.map stD) ∧ StsIn rs sts ∧ Fit rs e ∧ e.dep ≤ 3 ∧ ∀ H', Same H H' → Q (.bl true) H'
theorem optShp (o : Option Int) : Shp 1 (optD o) := by
  cases o with
  | none => exact shp_non
  | some i => exact shp_int i
theorem looksShp (st : St1) (lk : List Int) : Shp 3 (looksD st lk) := by
  refine shp_tup fun d hd => ?_
  obtain ⟨j, _, rfl⟩ := List.mem_map.mp hd
  refine shp_tup fun d hd => ?_
  rcases List.mem_cons.mp hd with rfl | hd
  · exact shp_int _
  rcases List.mem_cons.mp hd with rfl | hd
  · exact shp_int _
  cases hd
theorem ro_neSame {c : Cd} {H : Hp} {Q : VK} {x y : V} {d e : PyData} {n : Nat} (hx : Dt c.K H x d) (hy : Dt c.K H y e) (h : e = d) (s1 : Shp n d) (hn : n ≤ 64) (q : Q (.bl false) H) : RQ c .NotEq x y H Q := by
  subst h
  refine ro_neD hx.dp hy.dp (s1.ok hn) (s1.ok hn) ?_
  rw [PySem.SeqAt.eqv_refl _ s1.lay]
  exact q
set_option maxHeartbeats 2000000 in
theorem ok_fright {f fd} (F : Fun M.K "_law_formula_right" "_law_formula_right" s__law_formula_right f fd) (b : Bl M) (da : dcAgree M) (dp : dcPlain M) (dv : Dc M "value_in" ["cells", "state", "expression"] 11 (spF (rVal 3) M.K)) (dl : Dc M "looked_at" ["cells", "state", "expression"] 11 (spZ (rLooked 3) M.K)) :
    FnOk M.prog M.w M.K M.mg M.base CX0 12 f fd ["_law_rows_here", "_law_e", "_law_states_now"] (spFr M.K) := by
  refine fn_ok F sc__law_formula_right (fun vs H Q E h => ?_) (fun H vs Q E h => ?_)
  · obtain ⟨rs, e, sts, vr, ve, ls, us, rfl, _⟩ := h
    rfl
  obtain ⟨rs, e, sts, vr, ve, ls, us, rfl, hr, he, gs, hs, SI, fit, dep, k⟩ := h
  have hul := hs.len
  rw [List.length_map] at hul
  have hsl := SI.len
  refine b_cut (fun σ1 H' => ∃ (l : Addr) (ts : List V), σ1 = [some vr, some ve, some (.ref ls), none, some (.ref l), none, none, none, none, none] ∧ Same H H' ∧ H' l = some (.lst ts) ∧ Told M.K H' false (fun st => optD (ev rs st e).1) (fun st => (ev rs st e).2) ts sts) ?_ ?_
  · refine s_setLc (own := [("_law_state", 3)]) (by tm_at "at") (Blk.of (N := N__law_formula_right) (sc := defScope s__law_formula_right) rfl rfl (by decide +kernel)) ?_
    refine lc_L ?_
    tm_at "go"
    refine ⟨ls, us, rfl, .of gs, by omega, fun D hD => ⟨fun i acc H' => acc.length ≤ i ∧ H' D = some (.lst acc) ∧ Same H H' ∧ Told M.K H' false (fun st => optD (ev rs st e).1) (fun st => (ev rs st e).2) acc (sts.take i), ⟨Nat.le_refl _, upd_same, same_new hD, .nil⟩, ?_, ?_, ?_⟩⟩
    · rintro i acc H' _ ⟨h1, _, s, _⟩
      exact ⟨.of (s _ _ gs), h1⟩
    · rintro i x acc H2 hx ⟨h1, g2, s2, ht⟩
      obtain ⟨d, hd, hx'⟩ := hs.getV hx
      rw [List.getElem?_map] at hd
      obtain ⟨st, hst, rfl⟩ := Option.map_eq_some_iff.mp hd
      have S := SI.ok st (List.mem_of_getElem? hst)
      have EI : EvIn rs st e 3 := ⟨S, fit, dep, by decide⟩
      refine g_name (by tm_at "at") ⟨rfl, ts_nil (ift ?_)⟩
      refine e_tup ?_
      tm_at "go"
      refine e_callF dv ?_
      tm_at "go"
      refine ⟨_, _, .cons (hr.mono (tp_same s2)) (.cons (hx'.mono (tp_same s2)) (.cons (he.mono (tp_same s2)) .nil)), ⟨rs, st, e, rfl, EI, rfl⟩, fun v2 H3 s3 hv2 => ?_⟩
      tm_at "go"
      refine e_callZ dl ?_
      tm_at "go"
      have s23 := s2.trans s3
      refine ⟨_, _, .cons (hr.mono (tp_same s23)) (.cons (hx'.mono (tp_same s23)) (.cons (he.mono (tp_same s23)) .nil)), ⟨rs, st, e, rfl, EI, rfl⟩, fun v3 H4 s4 hv3 hz3 => ?_⟩
      tm_at "go"
      refine ⟨Nat.le_trans (m := 1000) (Nat.le_of_ble_eq_true rfl) (by decide), fun t nt => ?_⟩
      have s5 := same_new (o := .tup [x, v2, v3]) nt
      have g5 := (s3.trans (s4.trans s5)) _ _ g2
      have ku := kp_upd (o' := .lst (acc ++ [.ref t])) g5 (fun _ e => nomatch e) (fun _ _ e => nomatch e)
      refine ⟨g5, by rw [List.length_append]; exact Nat.succ_le_succ h1, upd_same, same_mut (s23.trans (s4.trans s5)) hD, ?_⟩
      obtain ⟨z1, z2⟩ := List.getElem?_eq_some_iff.mp hst
      rw [List.take_succ_eq_append_getElem z1, z2]
      have t5 := (tp_same s5).trans ku.t
      refine (ht.mono ((tp_same (s3.trans s4)).trans t5)).app (.cons (ku.t.t _ _ upd_same) (hx'.mono ((tp_same (s23.trans s4)).trans t5)) (hv2.mono ((tp_same s4).trans t5)) (fun z => nomatch z) (hz3.mono t5) .nil)
    · rintro acc H2 ⟨h1, g2, s2, ht⟩
      rw [List.take_of_length_le (by omega)] at ht
      exact ⟨D, acc, rfl, s2, g2, ht⟩
  rintro _ H1 ⟨l, ts, rfl, s1, g1, ht⟩
  have htl := ht.len
  tm_at "go"
  refine s_forL ?_
  tm_at "go"
  refine ⟨l, ts, rfl, .of g1, fun i σ1 H' => ∃ (v3 v5 v6 v7 v8 v9 : Option V), σ1 = [some vr, some ve, some (.ref ls), v3, some (.ref l), v5, v6, v7, v8, v9] ∧ Same H1 H', ⟨_, _, _, _, _, _, rfl, Same.refl _⟩, ?_, ?_, ?_⟩
  · rintro i σ' H' _ ⟨v3, v5, v6, v7, v8, v9, rfl, s⟩
    exact .of (s _ _ g1)
  · rintro i x σ' H2 hx ⟨v3, v5, v6, v7, v8, v9, rfl, s2⟩
    obtain ⟨st, t, va, vb, vc, hst, rfl, gt0, ha, hb, _, hc⟩ := (ht.mono (tp_same s2)).get hx
    have S := SI.ok st (List.mem_of_getElem? hst)
    refine g_tup (.of gt0) (gs_cons (g_name (by tm_at "at") (gs_cons (g_name (by tm_at "at") (gs_cons (g_name (by tm_at "at") (gs_nil ?_)))))))
    have lin := ev_in S e fit
    have llen := lenLooks (rs := rs) (st := st) (e := e) (n := 3) dep (by decide)
    rw [List.length_map] at llen
    tm_at "go"
    refine t_val ?_
    refine e_call dp ?_
    tm_at "go"
    refine ⟨rs, st, (ev rs st e).2, _, _, rfl, ha, hc, S, lin, by omega, fun H3 s3 => ?_⟩
    tm_at "go"
    refine s_forL ?_
    tm_at "go"
    refine ⟨l, ts, rfl, .of ((s2.trans s3) _ _ g1), fun j σ1 H' => ∃ (v7 v8 v9 : Option V), σ1 = [some vr, some ve, some (.ref ls), some va, some (.ref l), some vb, some vc, v7, v8, v9] ∧ Same H3 H', ⟨_, _, _, rfl, Same.refl _⟩, ?_, ?_, ?_⟩
    · rintro j σ' H' _ ⟨v7, v8, v9, rfl, s⟩
      exact .of (s _ _ ((s2.trans s3) _ _ g1))
    · rintro j y σ' H4 hy ⟨v7, v8, v9, rfl, s4⟩
      obtain ⟨st', t', va', vb', vc', hst', rfl, gt', ha', hb', _, hc'⟩ := (ht.mono (tp_same (s2.trans (s3.trans s4)))).get hy
      have S' := SI.ok st' (List.mem_of_getElem? hst')
      refine g_tup (.of gt') (gs_cons (g_name (by tm_at "at") (gs_cons (g_name (by tm_at "at") (gs_cons (g_name (by tm_at "at") (gs_nil ?_)))))))
      tm_at "go"
      refine t_val ?_
      refine e_callF da ?_
      tm_at "go"
      have s34 := s3.trans s4
      by_cases hag : agree st' st (ev rs st e).2
      · refine ⟨_, _, .cons ha' (.cons (hc.dt.mono (tp_same s34)) .nil), ⟨rs, st', st, (ev rs st e).2, true, rfl, S', lin, by omega, rfl, by simp [hag]⟩, fun v H5 s5 hv => ?_⟩
        cases hv
        have hev : ev rs st' e = ev rs st e := ev_ag e hag
        tm_at "go"
        refine ro_neSame (hb'.mono (tp_same s5)) (hb.mono (tp_same (s34.trans s5))) (by rw [hev]) (optShp _) (by decide) ?_
        tm_at "go"
        refine ro_neSame (hc'.dt.mono (tp_same s5)) (hc.dt.mono (tp_same (s34.trans s5))) (by rw [hev]; exact (looksD_ag hag).symm) (looksShp _ _) (by decide) ?_
        tm_at "go"
        exact ⟨_, _, _, rfl, s4.trans s5⟩
      · refine ⟨_, _, .cons ha' (.cons (hc.dt.mono (tp_same s34)) .nil), ⟨rs, st', st, (ev rs st e).2, false, rfl, S', lin, by omega, rfl, by simp [hag]⟩, fun v H5 s5 hv => ?_⟩
        cases hv
        tm_at "go"
        exact ⟨_, _, _, rfl, s4.trans s5⟩
    · rintro σ' H4 ⟨v7, v8, v9, rfl, s4⟩
      exact ⟨_, _, _, _, _, _, rfl, s2.trans (s3.trans s4)⟩
  · rintro σ' H2 ⟨v3, v5, v6, v7, v8, v9, rfl, s2⟩
    tm_at "go"
    exact k _ (s1.trans s2)
end K

namespace K
open PySem L2 G
variable {M : Md}
def spBr (K : PySem.W.Frag) : Sp := fun vs H Q _ => ∃ (rs : List Row) (r : Rl) (st : St1) (vr vl vs0 vg : V), vs = [vr, vl, vs0, vg] ∧ Dt K H vr (cellsD rs) ∧ Dt K H vl r.d ∧ Dt K H vs0 (stD st) ∧ Fz K H vg (asgD (asg rs st r)) ∧ StOk rs st ∧ FitR rs r ∧ ∀ H', Same H H' → Q (.bl true) H'
def spRr (K : PySem.W.Frag) : Sp := fun vs H Q _ => ∃ (rs : List Row) (r : Rl) (sts : List St1) (vr vl : V) (ls : Addr) (us : List V), vs = [vr, vl, .ref ls] ∧ Dt K H vr (cellsD rs) ∧ Dt K H vl r.d ∧ H ls = some (.lst us) ∧ DtAll K H us (sts.map stD) ∧ StsIn rs sts ∧ FitR rs r ∧ ∀ H', Same H H' → Q (.bl true) H'
theorem asgShp (o : Option (List (Int × Int))) : Shp 3 (asgD o) := by
  cases o with
  | none => exact shp_non
  | some es =>
    refine shp_tup fun d hd => ?_
    obtain ⟨p, _, rfl⟩ := List.mem_map.mp hd
    refine shp_tup fun d hd => ?_
    rcases List.mem_cons.mp hd with rfl | hd
    · exact shp_int _
    rcases List.mem_cons.mp hd with rfl | hd
    · exact shp_int _
    cases hd
def gApart (st st' : St1) (t : Int) : Option PyData := if gt st t = gt st' t then none else some (.int t)
def aparts (st st' : St1) (n : Nat) : List Int := ((List.range n).map fun t : Nat => (t : Int)).filter fun t => decide (gt st t ≠ gt st' t)
theorem gApart_all (st st' : St1) (n : Nat) : (List.range n).filterMap (fun t : Nat => gApart st st' (t : Int)) = (aparts st st' n).map .int := by
  unfold aparts
  induction List.range n with
  | nil => rfl
  | cons t l ih =>
    rw [List.filterMap_cons, List.map_cons, List.filter_cons]
    unfold gApart
    by_cases h : gt st t = gt st' t
    · rw [if_pos h, if_neg (by simp [h])]; exact ih
    · rw [if_neg h, if_pos (by simpa using h), List.map_cons, ← ih]; rfl
theorem aparts_mem {st st' : St1} {n : Nat} {j : Int} (h0 : 0 ≤ j) (h1 : j < n) (h : gt st j ≠ gt st' j) : j ∈ aparts st st' n := by
  refine List.mem_filter.mpr ⟨List.mem_map.mpr ⟨j.toNat, List.mem_range.mpr (by omega), by omega⟩, by simpa using h⟩
set_option maxHeartbeats 2000000 in
theorem ok_rright {f fd} (F : Fun M.K "_law_rule_right" "_law_rule_right" s__law_rule_right f fd) (b : Bl M) (da : dcAgree M) (dp : dcPlain M) (das : Dc M "assigned" ["cells", "rule", "state"] 12 (spZ rAsg M.K)) (dlo : Dc M "looks_of" ["cells", "rule", "state"] 12 (spZ rLof M.K)) (dbr : Dc M "_law_behind_right" ["_law_rows_here", "_law_rule_here", "_law_state", "_law_got"] 14 (spBr M.K)) :
    FnOk M.prog M.w M.K M.mg M.base CX0 15 f fd ["_law_rows_here", "_law_rule_here", "_law_states_now"] (spRr M.K) := by
  refine fn_ok F sc__law_rule_right (fun vs H Q E h => ?_) (fun H vs Q E h => ?_)
  · obtain ⟨rs, r, sts, vr, ve, ls, us, rfl, _⟩ := h
    rfl
  obtain ⟨rs, r, sts, vr, ve, ls, us, rfl, hr, he, gs, hs, SI, R, k⟩ := h
  have hul := hs.len
  rw [List.length_map] at hul
  have hsl := SI.len
  refine b_cut (fun σ1 H' => ∃ (l : Addr) (ts : List V), σ1 = [some vr, some ve, some (.ref ls), none, some (.ref l), none, none, none, none, none, none, none, none, none] ∧ Same H H' ∧ H' l = some (.lst ts) ∧ Told M.K H' true (fun st => asgD (asg rs st r)) (fun st => (work rs st r).2) ts sts) ?_ ?_
  · refine s_setLc (own := [("_law_state", 3)]) (by tm_at "at") (Blk.of (N := N__law_rule_right) (sc := defScope s__law_rule_right) rfl rfl (by decide +kernel)) ?_
    refine lc_L ?_
    tm_at "go"
    refine ⟨ls, us, rfl, .of gs, by omega, fun D hD => ⟨fun i acc H' => acc.length ≤ i ∧ H' D = some (.lst acc) ∧ Same H H' ∧ Told M.K H' true (fun st => asgD (asg rs st r)) (fun st => (work rs st r).2) acc (sts.take i), ⟨Nat.le_refl _, upd_same, same_new hD, .nil⟩, ?_, ?_, ?_⟩⟩
    · rintro i acc H' _ ⟨h1, _, s, _⟩
      exact ⟨.of (s _ _ gs), h1⟩
    · rintro i x acc H2 hx ⟨h1, g2, s2, ht⟩
      obtain ⟨d, hd, hx'⟩ := hs.getV hx
      rw [List.getElem?_map] at hd
      obtain ⟨st, hst, rfl⟩ := Option.map_eq_some_iff.mp hd
      have S := SI.ok st (List.mem_of_getElem? hst)
      refine g_name (by tm_at "at") ⟨rfl, ts_nil (ift ?_)⟩
      refine e_tup ?_
      tm_at "go"
      refine e_callZ das ?_
      tm_at "go"
      refine ⟨_, _, .cons (hr.mono (tp_same s2)) (.cons (he.mono (tp_same s2)) (.cons (hx'.mono (tp_same s2)) .nil)), ⟨rs, st, r, rfl, S, R, rfl⟩, fun v2 H3 s3 hv2 hz2 => ?_⟩
      tm_at "go"
      refine e_callZ dlo ?_
      tm_at "go"
      have s23 := s2.trans s3
      refine ⟨_, _, .cons (hr.mono (tp_same s23)) (.cons (he.mono (tp_same s23)) (.cons (hx'.mono (tp_same s23)) .nil)), ⟨rs, st, r, rfl, S, R, rfl⟩, fun v3 H4 s4 hv3 hz3 => ?_⟩
      tm_at "go"
      refine ⟨Nat.le_trans (m := 1000) (Nat.le_of_ble_eq_true rfl) (by decide), fun t nt => ?_⟩
      have s5 := same_new (o := .tup [x, v2, v3]) nt
      have g5 := (s3.trans (s4.trans s5)) _ _ g2
      have ku := kp_upd (o' := .lst (acc ++ [.ref t])) g5 (fun _ e => nomatch e) (fun _ _ e => nomatch e)
      refine ⟨g5, by rw [List.length_append]; exact Nat.succ_le_succ h1, upd_same, same_mut (s23.trans (s4.trans s5)) hD, ?_⟩
      obtain ⟨z1, z2⟩ := List.getElem?_eq_some_iff.mp hst
      rw [List.take_succ_eq_append_getElem z1, z2]
      have t5 := (tp_same s5).trans ku.t
      refine (ht.mono ((tp_same (s3.trans s4)).trans t5)).app (.cons (ku.t.t _ _ upd_same) (hx'.mono ((tp_same (s23.trans s4)).trans t5)) (hv2.mono ((tp_same s4).trans t5)) (fun _ => hz2.mono ((tp_same s4).trans t5)) (hz3.mono t5) .nil)
    · rintro acc H2 ⟨h1, g2, s2, ht⟩
      rw [List.take_of_length_le (by omega)] at ht
      exact ⟨D, acc, rfl, s2, g2, ht⟩
  rintro _ H1 ⟨l, ts, rfl, s1, g1, ht⟩
  have htl := ht.len
  refine b_cut (fun σ1 H' => ∃ (v3 v5 v6 v7 v8 v9 v10 : Option V), σ1 = [some vr, some ve, some (.ref ls), v3, some (.ref l), v5, v6, v7, v8, v9, v10, none, none, none] ∧ Same H1 H') ?_ ?_
  · refine s_forL ?_
    tm_at "go"
    refine ⟨l, ts, rfl, .of g1, fun i σ1 H' => ∃ (v3 v5 v6 v7 v8 v9 v10 : Option V), σ1 = [some vr, some ve, some (.ref ls), v3, some (.ref l), v5, v6, v7, v8, v9, v10, none, none, none] ∧ Same H1 H', ⟨_, _, _, _, _, _, _, rfl, Same.refl _⟩, ?_, ?_, ?_⟩
    · rintro i σ' H' _ ⟨v3, v5, v6, v7, v8, v9, v10, rfl, s⟩
      exact .of (s _ _ g1)
    · rintro i x σ' H2 hx ⟨v3, v5, v6, v7, v8, v9, v10, rfl, s2⟩
      obtain ⟨st, t, va, vb, vc, hst, rfl, gt0, ha, hb, _, hc⟩ := (ht.mono (tp_same s2)).get hx
      have S := SI.ok st (List.mem_of_getElem? hst)
      refine g_tup (.of gt0) (gs_cons (g_name (by tm_at "at") (gs_cons (g_name (by tm_at "at") (gs_cons (g_name (by tm_at "at") (gs_nil ?_)))))))
      obtain ⟨lin, llen⟩ := work_looks S R
      tm_at "go"
      refine t_val ?_
      refine e_call dp ?_
      tm_at "go"
      refine ⟨rs, st, (work rs st r).2, _, _, rfl, ha, hc, S, lin, by omega, fun H3 s3 => ?_⟩
      tm_at "go"
      refine s_forL ?_
      tm_at "go"
      refine ⟨l, ts, rfl, .of ((s2.trans s3) _ _ g1), fun j σ1 H' => ∃ (v7 v8 v9 v10 : Option V), σ1 = [some vr, some ve, some (.ref ls), some va, some (.ref l), some vb, some vc, v7, v8, v9, v10, none, none, none] ∧ Same H3 H', ⟨_, _, _, _, rfl, Same.refl _⟩, ?_, ?_, ?_⟩
      · rintro j σ' H' _ ⟨v7, v8, v9, v10, rfl, s⟩
        exact .of (s _ _ ((s2.trans s3) _ _ g1))
      · rintro j y σ' H4 hy ⟨v7, v8, v9, v10, rfl, s4⟩
        obtain ⟨st', t', va', vb', vc', hst', rfl, gt', ha', hb', _, hc'⟩ := (ht.mono (tp_same (s2.trans (s3.trans s4)))).get hy
        have S' := SI.ok st' (List.mem_of_getElem? hst')
        refine g_tup (.of gt') (gs_cons (g_name (by tm_at "at") (gs_cons (g_name (by tm_at "at") (gs_cons (g_name (by tm_at "at") (gs_nil ?_)))))))
        have s34 := s3.trans s4
        refine b_cut (fun σ1 H' => σ1 = [some vr, some ve, some (.ref ls), some va, some (.ref l), some vb, some vc, some va', some vb', some vc', v10, none, none, none] ∧ Same H4 H') ?_ ?_
        · tm_at "go"
          refine t_val ?_
          refine e_callF da ?_
          tm_at "go"
          by_cases hag : agree st' st (work rs st r).2
          · refine ⟨_, _, .cons ha' (.cons (hc.dt.mono (tp_same s34)) .nil), ⟨rs, st', st, (work rs st r).2, true, rfl, S', lin, by omega, rfl, by simp [hag]⟩, fun v H5 s5 hv => ?_⟩
            cases hv
            have hev : work rs st' r = work rs st r := work_ag hag
            tm_at "go"
            refine ro_neSame (hb'.mono (tp_same s5)) (hb.mono (tp_same (s34.trans s5))) (by rw [asg_ag hev]) (asgShp _) (by decide) ?_
            tm_at "go"
            refine ro_neSame (hc'.dt.mono (tp_same s5)) (hc.dt.mono (tp_same (s34.trans s5))) (by rw [hev]; exact (looksD_ag hag).symm) (looksShp _ _) (by decide) ?_
            tm_at "go"
            exact ⟨rfl, s5⟩
          · refine ⟨_, _, .cons ha' (.cons (hc.dt.mono (tp_same s34)) .nil), ⟨rs, st', st, (work rs st r).2, false, rfl, S', lin, by omega, rfl, by simp [hag]⟩, fun v H5 s5 hv => ?_⟩
            cases hv
            tm_at "go"
            exact ⟨rfl, s5⟩
        rintro _ H5 ⟨rfl, s5⟩
        have s35 := s34.trans s5
        refine b_cut (fun σ1 H' => ∃ la, σ1 = [some vr, some ve, some (.ref ls), some va, some (.ref l), some vb, some vc, some va', some vb', some vc', some (.ref la), none, none, none] ∧ Same H5 H' ∧ H' la = some (.lst ((aparts st st' st.length).map V.int))) ?_ ?_
        · refine s_setLc (own := [("_law_k", 11)]) (by tm_at "at") (Blk.of (N := N__law_rule_right) (sc := defScope s__law_rule_right) rfl rfl (by decide +kernel)) ?_
          refine lcR1_F (gApart st st') b.range ?_
          tm_at "go"
          refine rc_lenT (ha.mono (tp_same s35)) ?_
          tm_at "go"
          have st10 := S.tot
          have stl := S.len
          have stl' := S'.len
          refine ⟨by rw [List.length_map]; omega, fun t H' htn sH => ?_, fun p us6 H6 s6 n6 g6 h6 => ?_⟩
          · rw [List.length_map] at htn
            refine g_name (by tm_at "at") ⟨rfl, rfl, ts_one ?_⟩
            tm_at "go"
            refine rx_int (ha.mono (tp_same (s35.trans sH))) (gt_at S (by omega) (by omega)) ?_
            tm_at "go"
            refine rx_int (ha'.mono (tp_same (s5.trans sH))) (gt_at S' (by omega) (by omega)) ?_
            tm_at "go"
            refine ⟨Same.refl _, ifnd (fun c1 => ?_) (fun c1 => ?_)⟩
            · tm_at "go"
              exact ⟨Same.refl _, _, if_neg c1, .int _⟩
            · exact if_pos c1
          · rw [List.length_map, Int.toNat_natCast, gApart_all] at h6
            obtain rfl := dtInts_eq h6
            exact ⟨p, rfl, s6, g6⟩
        rintro _ H6 ⟨la, rfl, s6, g6⟩
        have s36 := s35.trans s6
        tm_at "go"
        refine rc_lenL (.of g6) ?_
        tm_at "go"
        rw [List.length_map]
        refine ifd (fun c1 => ?_) (fun c1 => ?_)
        · tm_at "go"
          refine ro_neD (hb'.mono (tp_same (s5.trans s6))).dp (hb.mono (tp_same s36)).dp ((asgShp _).ok) ((asgShp _).ok) ?_
          refine ⟨_, rfl, ifb (fun c2 => ?_) (fun c2 => ?_)⟩
          · have hag : ¬ agree st' st (work rs st r).2 := by
              intro hag
              rw [asg_ag (work_ag hag), PySem.SeqAt.eqv_refl _ (asgShp _).lay] at c2
              cases c2
            obtain ⟨k0, hk0⟩ : ∃ k0, aparts st st' st.length = [k0] := List.length_eq_one_iff.mp (by omega)
            obtain ⟨j0, hj0⟩ : ∃ j, j ∈ (work rs st r).2 ∧ gt st' j ≠ gt st j := by
              by_cases he : ∃ j, j ∈ (work rs st r).2 ∧ gt st' j ≠ gt st j
              · exact he
              · refine absurd (fun j hj => ?_) hag
                by_cases hg : gt st' j = gt st j
                · exact hg
                · exact absurd ⟨j, hj, hg⟩ he
            have hk : j0 = k0 := by
              have h1 := lin j0 hj0.1
              have := aparts_mem (st := st) (st' := st') (n := st.length) h1.1 (by rw [S.len]; omega) (fun e => hj0.2 e.symm)
              rw [hk0] at this
              exact List.mem_singleton.mp this
            subst hk
            tm_at "go"
            refine rx_list (.of g6) (v := .int j0) (by rw [hk0]; rfl) ?_
            refine e_lc (own := [("_law_spot", 12), ("_law_value", 13)]) (Blk.of (N := N__law_rule_right) (sc := defScope s__law_rule_right) rfl rfl (by decide +kernel)) ?_
            refine lcT_F gSpot ?_
            tm_at "go"
            have hfl := firsts_len (work rs st r).2
            refine ⟨(firsts (work rs st r).2).map (lookD st), hc.dt.mono (tp_same s36), by rw [List.length_map]; omega, fun d x H' hd s hx => ?_, fun l7 us7 H7 s7 n7 g7 h7 => ?_⟩
            · obtain ⟨j, hj, rfl⟩ := List.mem_map.mp hd
              refine g_unp2 (by tm_at "at") (by tm_at "at") hx fun v1 v2 h1 h2 => ⟨rfl, rfl, ts_nil ⟨Same.refl _, ift ?_⟩⟩
              tm_at "go"
              exact ⟨Same.refl _, _, rfl, h1⟩
            rw [gSpot_all] at h7
            obtain rfl := dtInts_eq h7
            refine ro_notInI g7 ?_
            refine ⟨_, rfl, ifnF (firsts_mem.mpr hj0.1) ?_⟩
            tm_at "go"
            exact ⟨_, _, _, _, rfl, s4.trans (s5.trans (s6.trans s7))⟩
          · tm_at "go"
            exact ⟨_, _, _, _, rfl, s4.trans (s5.trans s6)⟩
        · tm_at "go"
          exact ⟨_, _, _, _, rfl, s4.trans (s5.trans s6)⟩
      · rintro σ' H4 ⟨v7, v8, v9, v10, rfl, s4⟩
        exact ⟨_, _, _, _, _, _, _, rfl, s2.trans (s3.trans s4)⟩
    · rintro σ' H2 ⟨v3, v5, v6, v7, v8, v9, v10, rfl, s2⟩
      exact ⟨_, _, _, _, _, _, _, rfl, s2⟩
  rintro _ H2 ⟨v3, v5, v6, v7, v8, v9, v10, rfl, s2⟩
  refine b_one (s_ret (e_cmp ?_))
  refine e_lc (own := [("_law_state", 3), ("_law_got", 5), ("_law_looks", 6)]) (Blk.of (N := N__law_rule_right) (sc := defScope s__law_rule_right) rfl rfl (by decide +kernel)) ?_
  refine lc_L ?_
  tm_at "go"
  refine ⟨l, ts, rfl, .of (s2 _ _ g1), by omega, fun D hD => ⟨fun i acc H' => acc = [] ∧ H' D = some (.lst []) ∧ Same H2 H', ⟨rfl, upd_same, same_new hD⟩, ?_, ?_, ?_⟩⟩
  · rintro i acc H' _ ⟨rfl, _, s⟩
    exact ⟨.of (s _ _ (s2 _ _ g1)), Nat.zero_le _⟩
  · rintro i x acc H3 hx ⟨rfl, g3, s3⟩
    have s23 := s2.trans s3
    obtain ⟨st, t, va, vb, vc, hst, rfl, gt0, ha, hb, hz, hc⟩ := (ht.mono (tp_same s23)).get hx
    have S := SI.ok st (List.mem_of_getElem? hst)
    refine g_tup (.of gt0) (gs_cons (g_name (by tm_at "at") (gs_cons (g_name (by tm_at "at") (gs_cons (g_name (by tm_at "at") (gs_nil ⟨rfl, ts_one ?_⟩)))))))
    tm_at "go"
    refine t_val ?_
    refine e_call dbr ?_
    tm_at "go"
    have s13 := s1.trans s23
    refine ⟨rs, r, st, _, _, _, _, rfl, hr.mono (tp_same s13), he.mono (tp_same s13), ha, hz rfl, S, R, fun H4 s4 => ?_⟩
    refine ⟨true, rfl, iff0 ⟨rfl, s4 _ _ g3, s3.trans s4⟩⟩
  · rintro acc H3 ⟨rfl, g3, s3⟩
    refine e_lstD ?_
    tm_at "go"
    refine ⟨(Nat.le_of_ble_eq_true rfl), fun q0 H4 s4 n4 g4 => ?_⟩
    refine ro_eqNil (n := 1) (ds := []) (s4 _ _ g3) .nil (fun d hd => nomatch hd) (by decide) g4 ?_
    exact k _ (s1.trans (s2.trans (s3.trans s4)))
end K

namespace K
open PySem L2 G
variable {M : Md}
def spFeed (K : PySem.W.Frag) : Sp := fun vs H Q _ => ∃ (sl : Addr) (ns : List Int), vs = [.ref sl] ∧ SqL K H sl (ns.map V.int) ∧ ns.length ≤ 63 ∧ ∀ fp cl H', Same H H' → H fp = none → H cl = none → Feed K H' fp cl → Q (.ref fp) H'
theorem cutV_int (ns : List Int) (lo hi : Option Int) : cutV (ns.map V.int) lo hi = (cutD ns lo hi).map V.int := cutD_map V.int ns lo hi
theorem ok_feed {f fd} (F : Fun M.K "_law_feed" "_law_feed" s__law_feed f fd) (b : Bl M) : FnOk M.prog M.w M.K M.mg M.base CX0 1 f fd ["_law_script"] (spFeed M.K) := by
  refine fn_ok F sc__law_feed (fun vs H Q E h => ?_) (fun H vs Q E h => ?_)
  · obtain ⟨sl, ns, rfl, _⟩ := h
    rfl
  obtain ⟨sl, ns, rfl, hs, hl, k⟩ := h
  tm_at "go"
  refine e_disp (fun X h => pps_cons (pe_re h) (pe_re h) (pps_cons (pe_re h) (pe_re h) (pps_cons (pe_re h) (pe_re h) (pps_cons (pe_re h) (pe_re h) pps_nil)))) rfl rfl (by intro e; cases e) (by decide) ?_
  intro p hp
  simp only [tPairs]
  have s0 := same_new (o := .dK []) hp
  tm_at "go"
  refine rsl_list (s0.seq hs) fun l1 H1 s1 n1 g1 => ?_
  tm_at "go"
  refine rc_lstL (.of g1) fun l2 H2 s2 n2 g2 => ?_
  tm_at "go"
  have gp : H2 p = some (.dK []) := (s1.trans s2) _ _ upd_same
  rw [cutV_int] at g2
  have np : p ≠ l2 := by
    rintro rfl
    rw [s1 _ _ (upd_same (H := H))] at n2
    cases n2
  refine ⟨gp, fkv (.ref l2) 0 0 0, rfl, by rw [fkv_len]; decide, ?_⟩
  rw [show mergeK [] (fkv (.ref l2) 0 0 0) = fkv (.ref l2) 0 0 0 by rfl]
  have hl2 : (cutD ns none (some 63)).length ≤ 63 := Nat.le_trans (cutD_sub ns none (some 63)).length_le hl
  refine k p l2 _ (same_mut (s0.trans (s1.trans s2)) hp) hp (same_none s0 (same_none s1 n2)) ⟨_, 0, 0, 0, upd_same, ?_, hl2⟩
  rw [upd_ne (fun e => np e.symm)]
  exact g2
end K

local macro_rules | `(tactic| tm_at "mk") => `(tactic| repeat (first | tm_at "s" | refine e_tupD ?_ | refine b_one ?_ | refine b_cons ?_ | (refine tupend (by tm_at "dts") (Nat.le_of_ble_eq_true rfl) fun v H s h => ?_)))
namespace K
open PySem L2 G
variable {M : Md}
def rowsA : List Row := [("big", 0, 0, 1, false, true, 0), ("x", 0, 0, 3, true, false, 0)]
def rAdd : Rl := ⟨"add", .int 1, [(.nm "x", .bin "+" (.nm "x") (.int 1))]⟩
def rTwice : Rl := ⟨"twice", .int 1, [(.nm "x", .bin "*" (.nm "x") (.int 2))]⟩
def rSee : Rl := ⟨"see", .bin "<" (.int 2) (.nm "x"), [(.nm "big", .int 1)]⟩
def rowsB : List Row := [("i", 0, 0, 3, true, false, 0), ("t", 2, 0, 5, false, true, 1)]
def rMove : Rl := ⟨"move", .bin "<" (.nm "i") (.int 2), [(.at "t" (.nm "i"), .bin "+" (.at "t" (.nm "i")) (.int 1))]⟩
def rSame : Rl := ⟨"same", .int 1, [(.at "t" (.int 0), .int 1), (.at "t" (.nm "i"), .int 1)]⟩
def rowsC : List Row := [("b", 8, 0, 1, true, true, 0), ("c", 0, 5, 5, false, false, 5)]
def rowsU : List Row := [("u", 2, -1, 0, true, false, -1)]
structure Sm where
  rows : List Row
  rules : List Rl
  pairs : PyData
  starts : PyData
def Sm.d (s : Sm) : PyData := .tuple [cellsD s.rows, .tuple (s.rules.map Rl.d), s.pairs, s.starts]
def sms : List Sm := [⟨rowsA, [rAdd, rSee, rTwice], .tuple [], .int 1⟩,
  ⟨rowsA, [rAdd, rSee, rTwice], .tuple [.tuple [.str "add", .str "see"], .tuple [.str "see", .str "twice"]], .tuple [.str "<", .str "x", .int 2]⟩,
  ⟨rowsB, [rMove, rSame], .tuple [.tuple [.str "same", .str "move"]], .tuple [.str "<=", .str "i", .int 1]⟩,
  ⟨[], [], .tuple [], .int 0⟩, ⟨rowsA, [], .tuple [], .int 0⟩, ⟨rowsC, [], .tuple [], .tuple [.str "at", .str "b", .int 7]⟩,
  ⟨rowsU, [], .tuple [], .tuple [.str "not", .tuple [.str "at", .str "u", .int 1]]⟩]
theorem sw0 {ts vs : List Expr} {k1 k2 : Nat} {p1 p2 : Pos} (h : vs.all (foldedForSure 8) = true) (env : Env) : swappedStores [.Tuple ts k1 p1] (.Tuple vs k2 p2) env = pure none := by
  unfold swappedStores
  simp only [h]
  repeat (first | rfl | split)
/-- what the law asks of its samples' rows -/
structure RowsAll (rs : List Row) : Prop where
  sm : Small rs
  ri : RowsIn rs
  nd : (rs.map nameOf).Nodup
def spSm (K : PySem.W.Frag) : Sp := fun vs H Q _ => vs = [] ∧ ∀ l us H', Same H H' → H l = none → H' l = some (.lst us) → DtAll K H' us (sms.map Sm.d) → Q (.ref l) H'
set_option maxHeartbeats 4000000 in
theorem ok_samples {f fd} (F : Fun M.K "_law_samples" "_law_samples" s__law_samples f fd) (b : Bl M) : FnOk M.prog M.w M.K M.mg M.base CX0 1 f fd [] (spSm M.K) := by
  refine fn_ok F sc__law_samples (fun vs H Q E h => by rw [h.1]; rfl) (fun H vs Q E h => ?_)
  obtain ⟨rfl, k⟩ := h
  refine b_cut (fun σ1 H' => ∃ v0 v1, σ1 = [some v0, some v1, none, none, none, none, none, none] ∧ Same H H' ∧ Dt M.K H' v0 rAdd.d ∧ Dt M.K H' v1 rTwice.d) ?_ ?_
  · refine s_asg ?_ (hw := sw0 (by rfl))
    tm_at "mk"
    refine g_unp2 (d1 := rAdd.d) (d2 := rTwice.d) (by tm_at "at") (by tm_at "at") (by assumption) fun v0 v1 h0 h1 => ?_
    exact ⟨_, _, rfl, by tm_at "same", h0, h1⟩
  rintro _ H1 ⟨v0, v1, rfl, s1, h0, h1⟩
  refine b_cut (fun σ1 H' => ∃ v2, σ1 = [some v0, some v1, some v2, none, none, none, none, none] ∧ Same H1 H' ∧ Dt M.K H' v2 rSee.d) ?_ ?_
  · tm_at "mk"
    exact ⟨by tm_at "same", by assumption⟩
  rintro _ H2 ⟨v2, rfl, s2, h2⟩
  refine b_cut (fun σ1 H' => ∃ v3, σ1 = [some v0, some v1, some v2, some v3, none, none, none, none] ∧ Same H2 H' ∧ Dt M.K H' v3 (cellsD rowsA)) ?_ ?_
  · tm_at "mk"
    exact ⟨by tm_at "same", by assumption⟩
  rintro _ H3 ⟨v3, rfl, s3, h3⟩
  have s13 := s1.trans (s2.trans s3)
  have a0 := h0.mono (tp_same (s2.trans s3))
  have a1 := h1.mono (tp_same (s2.trans s3))
  have a2 := h2.mono (tp_same s3)
  refine b_cut (fun σ1 H' => ∃ l us, σ1 = [some v0, some v1, some v2, some v3, some (.ref l), none, none, none] ∧ Same H3 H' ∧ H3 l = none ∧ H' l = some (.lst us) ∧ DtAll M.K H' us ((sms.take 1).map Sm.d)) ?_ ?_
  · tm_at "go"
    refine e_lstD ?_
    refine a_cons (e_tupD ?_)
    tm_at "mk"
    refine ⟨(Nat.le_of_ble_eq_true rfl), fun l H' s n g => ?_⟩
    tm_at "go"
    exact ⟨l, _, rfl, by tm_at "same", same_none (by tm_at "same") n, g, .cons (by tm_at "dt") .nil⟩
  rintro _ H4 ⟨l, us4, rfl, s4, n4, g4, d4⟩
  have n0 := same_none s13 n4
  refine b_cut (fun σ1 H' => ∃ us, σ1 = [some v0, some v1, some v2, some v3, some (.ref l), none, none, none] ∧ Same H3 H' ∧ H' l = some (.lst us) ∧ DtAll M.K H' us ((sms.take 2).map Sm.d)) ?_ ?_
  · refine s_expr (e_ext ?_)
    tm_at "go"
    refine ⟨l, _, rfl, g4, ?_⟩
    refine e_lstD ?_
    refine a_cons (e_tupD ?_)
    tm_at "mk"
    refine ⟨(Nat.le_of_ble_eq_true rfl), fun l2 H' s n g => ?_⟩
    have sH : Same H4 H' := by tm_at "same"
    have l4 := d4.len
    have ku : ∀ zs, Kp l H' (upd H' l (.lst zs)) := fun zs => kp_upd (sH _ _ g4) (fun _ e => nomatch e) (fun _ _ e => nomatch e)
    refine ⟨l2, _, _, rfl, sH _ _ g4, g, by rw [l4]; exact Nat.le_of_ble_eq_true rfl, ?_⟩
    exact ⟨_, rfl, same_mut (s4.trans sH) n4, upd_same, ((d4.mono ((tp_same sH).trans (ku _).t)).app (.cons (Dt.mono (ku _).t (by tm_at "dt")) .nil))⟩
  rintro _ H5 ⟨us5, rfl, s5, g5, d5⟩
  refine b_cut (fun σ1 H' => ∃ v5, σ1 = [some v0, some v1, some v2, some v3, some (.ref l), some v5, none, none] ∧ Same H5 H' ∧ Dt M.K H' v5 (cellsD rowsB)) ?_ ?_
  · tm_at "mk"
    exact ⟨by tm_at "same", by assumption⟩
  rintro _ H6 ⟨v5, rfl, s6, h5⟩
  refine b_cut (fun σ1 H' => ∃ v6, σ1 = [some v0, some v1, some v2, some v3, some (.ref l), some v5, some v6, none] ∧ Same H6 H' ∧ Dt M.K H' v6 rMove.d) ?_ ?_
  · tm_at "mk"
    exact ⟨by tm_at "same", by assumption⟩
  rintro _ H7 ⟨v6, rfl, s7, h6⟩
  refine b_cut (fun σ1 H' => ∃ v7, σ1 = [some v0, some v1, some v2, some v3, some (.ref l), some v5, some v6, some v7] ∧ Same H7 H' ∧ Dt M.K H' v7 rSame.d) ?_ ?_
  · tm_at "mk"
    exact ⟨by tm_at "same", by assumption⟩
  rintro _ H8 ⟨v7, rfl, s8, h7⟩
  have s58 := s6.trans (s7.trans s8)
  have b5 := h5.mono (tp_same (s7.trans s8))
  have b6 := h6.mono (tp_same s8)
  have b3 := h3.mono (tp_same (s5.trans s58))
  have s38 := s5.trans s58
  have g8 := s58 _ _ g5
  have d8 := d5.mono (tp_same s58)
  clear h5 h6 s6 s7 s8 a0 a1 a2 h0 h1 h2 s58 h3
  refine b_cut (fun σ1 H' => ∃ us, σ1 = [some v0, some v1, some v2, some v3, some (.ref l), some v5, some v6, some v7] ∧ Same H3 H' ∧ H' l = some (.lst us) ∧ DtAll M.K H' us ((sms.take 4).map Sm.d) ∧ Dt M.K H' v3 (cellsD rowsA)) ?_ ?_
  · refine s_expr (e_ext ?_)
    tm_at "go"
    refine ⟨l, _, rfl, g8, ?_⟩
    refine e_lstD ?_
    refine a_cons (e_tupD ?_)
    tm_at "mk"
    refine ⟨(Nat.le_of_ble_eq_true rfl), fun l2 H' s n g => ?_⟩
    obtain ⟨ws, gw, hw⟩ : ∃ ws, H' l2 = some (.lst ws) ∧ DtAll M.K H' ws (((sms.take 4).drop 2).map Sm.d) := ⟨_, g, .cons (by tm_at "dt") (.cons (by tm_at "dt") .nil)⟩
    have sH : Same H8 H' := by tm_at "same"
    have lw := hw.len
    have l4 := d8.len
    have ku : ∀ zs, Kp l H' (upd H' l (.lst zs)) := fun zs => kp_upd (sH _ _ g8) (fun _ e => nomatch e) (fun _ _ e => nomatch e)
    refine ⟨l2, _, _, rfl, sH _ _ g8, gw, by rw [l4, lw]; exact Nat.le_of_ble_eq_true rfl, ?_⟩
    exact ⟨_, rfl, same_mut (s38.trans sH) n4, upd_same, (d8.mono ((tp_same sH).trans (ku _).t)).app (hw.mono (ku _).t), b3.mono ((tp_same sH).trans (ku _).t)⟩
  clear b3 b5 b6 h7 g8 d8 s38
  rintro _ H9 ⟨us9, rfl, s9, g9, d9, h3⟩
  refine b_cut (fun σ1 H' => ∃ us, σ1 = [some v0, some v1, some v2, some v3, some (.ref l), some v5, some v6, some v7] ∧ Same H3 H' ∧ H' l = some (.lst us) ∧ DtAll M.K H' us ((sms.take 5).map Sm.d)) ?_ ?_
  · refine s_expr (e_ext ?_)
    tm_at "go"
    refine ⟨l, _, rfl, g9, ?_⟩
    refine e_lstD ?_
    refine a_cons (e_tupD ?_)
    tm_at "mk"
    refine ⟨(Nat.le_of_ble_eq_true rfl), fun l2 H' s n g => ?_⟩
    have sH : Same H9 H' := by tm_at "same"
    have l4 := d9.len
    have ku : ∀ zs, Kp l H' (upd H' l (.lst zs)) := fun zs => kp_upd (sH _ _ g9) (fun _ e => nomatch e) (fun _ _ e => nomatch e)
    refine ⟨l2, _, _, rfl, sH _ _ g9, g, by rw [l4]; exact Nat.le_of_ble_eq_true rfl, ?_⟩
    exact ⟨_, rfl, same_mut (s9.trans sH) n4, upd_same, ((d9.mono ((tp_same sH).trans (ku _).t)).app (.cons (Dt.mono (ku _).t (by tm_at "dt")) .nil))⟩
  clear h3 g9 d9 s9
  rintro _ Ha ⟨usa, rfl, sa, ga, dda⟩
  refine b_cut (fun σ1 H' => ∃ us, σ1 = [some v0, some v1, some v2, some v3, some (.ref l), some v5, some v6, some v7] ∧ Same H3 H' ∧ H' l = some (.lst us) ∧ DtAll M.K H' us ((sms.take 6).map Sm.d)) ?_ ?_
  · refine s_expr (e_app ?_)
    tm_at "go"
    refine ⟨l, _, rfl, ga, ?_⟩
    refine e_tupD ?_
    tm_at "mk"
    rename_i vL HL sL hL
    have sH : Same Ha HL := by tm_at "same"
    have la := dda.len
    have ku : ∀ zs, Kp l HL (upd HL l (.lst zs)) := fun zs => kp_upd (sH _ _ ga) (fun _ e => nomatch e) (fun _ _ e => nomatch e)
    refine ⟨usa, sH _ _ ga, by rw [la]; exact Nat.le_of_ble_eq_true rfl, ?_⟩
    exact ⟨_, rfl, same_mut (sa.trans sH) n4, upd_same, (dda.mono ((tp_same sH).trans (ku _).t)).app (.cons (Dt.mono (ku _).t hL) .nil)⟩
  rintro _ Hb ⟨usb, rfl, sb, gb, ddb⟩
  tm_at "go"
  refine e_lstD ?_
  refine a_cons (e_tupD ?_)
  tm_at "mk"
  refine ⟨(Nat.le_of_ble_eq_true rfl), fun l2 H' s n g => ?_⟩
  obtain ⟨ws, gw, hw⟩ : ∃ ws, H' l2 = some (.lst ws) ∧ DtAll M.K H' ws ((sms.drop 6).map Sm.d) := ⟨_, g, .cons (by tm_at "dt") .nil⟩
  have sH : Same Hb H' := by tm_at "same"
  have lw := hw.len
  have lb := ddb.len
  refine ro_cat (sH _ _ gb) gw (by rw [lb, lw]; exact Nat.le_of_ble_eq_true rfl) fun p H2 s2 n2 g2 => ?_
  exact k p _ H2 (s13.trans (sb.trans (sH.trans s2))) (same_none (s13.trans (sb.trans sH)) n2) g2 ((ddb.mono (tp_same (sH.trans s2))).app (hw.mono (tp_same s2)))
end K

namespace K
open PySem L2 G
variable {M : Md}
theorem rg_mem {rs : List Row} {p : Rng} (h : p ∈ rg rs) : ∃ r ∈ rs, p = (r.2.2.1, r.2.2.2.1) := by
  obtain ⟨r, hr, h2⟩ := List.mem_flatMap.mp h
  exact ⟨r, hr, (List.mem_replicate.mp h2).2⟩
theorem menus_ok : ∀ m ∈ menus, m.Nodup ∧ ∀ s ∈ m, PyData.strOk s = true := by decide +kernel
theorem total_le {rs : List Row} (h : ∀ r ∈ rs, r.2.1 ≤ 3) : total rs ≤ 3 * rs.length := by
  induction rs with
  | nil => exact Nat.le_refl _
  | cons r rs ih =>
    have h1 := h r (List.mem_cons_self ..)
    have h2 := ih fun q hq => h q (List.mem_cons_of_mem _ hq)
    have e : total (r :: rs) = width r + total rs := by simp [total]
    have w : width r ≤ 3 := by unfold width; omega
    rw [List.length_cons]
    omega
theorem rows3_all {most : Nat} {rs : List Row} (h : Rows3 most rs) (hm : most ≤ 256) : RowsAll rs := by
  obtain ⟨m, hm1, sub⟩ := h.nm
  obtain ⟨nd, so⟩ := menus_ok m hm1
  have hl := h.len
  refine ⟨⟨?_, fun p hp => ?_, Nat.le_trans h.many hm⟩, ⟨by omega, fun r hr => so _ (sub.subset (List.mem_map.mpr ⟨r, hr, rfl⟩))⟩, sub.nodup nd⟩
  · have := total_le fun r hr => (h.ok r hr).size
    omega
  · obtain ⟨r, hr, rfl⟩ := rg_mem hp
    obtain ⟨a, b, c, d, e, f, g⟩ := h.ok r hr
    unfold span
    simp only
    omega
theorem all_of (rs : List Row) (h : (decide (total rs ≤ 10) && (rg rs).all (fun p => decide (1 ≤ span p) && decide (-10 ≤ p.1) && decide (p.2 ≤ 10)) && decide (many (rg rs) ≤ 256) && decide (rs.length ≤ 10) && rs.all (fun r => PyData.strOk r.1) && decide (rs.map nameOf).Nodup) = true) : RowsAll rs := by
  simp only [Bool.and_eq_true, List.all_eq_true, decide_eq_true_eq] at h
  obtain ⟨⟨⟨⟨⟨h1, h2⟩, h3⟩, h4⟩, h5⟩, h6⟩ := h
  exact ⟨⟨h1, fun p hp => ⟨(h2 p hp).1.1, (h2 p hp).1.2, (h2 p hp).2⟩, h3⟩, ⟨h4, h5⟩, h6⟩
theorem sms_all : ∀ s ∈ sms, RowsAll s.rows := by
  intro s hs
  have h : sms.all (fun s => (decide (total s.rows ≤ 10) && (rg s.rows).all (fun p => decide (1 ≤ span p) && decide (-10 ≤ p.1) && decide (p.2 ≤ 10)) && decide (many (rg s.rows) ≤ 256) && decide (s.rows.length ≤ 10) && s.rows.all (fun r => PyData.strOk r.1) && decide (s.rows.map nameOf).Nodup)) = true := by decide +kernel
  exact all_of _ (List.all_eq_true.mp h s hs)
theorem fold_val (B : Int) : ∀ (ps : List Rng) (acc : List St1), (∀ p ∈ ps, -B ≤ p.1 ∧ p.2 ≤ B) → (∀ o ∈ acc, ∀ v ∈ o, -B ≤ v ∧ v ≤ B) → ∀ o ∈ ps.foldl widen acc, ∀ v ∈ o, -B ≤ v ∧ v ≤ B
  | [], acc, _, h => h
  | p :: ps, acc, hp, h => by
    refine fold_val B ps (widen acc p) (fun q hq => hp q (List.mem_cons_of_mem _ hq)) fun o ho v hv => ?_
    obtain ⟨o2, h2, h3⟩ := List.mem_flatMap.mp ho
    obtain ⟨t, ht, rfl⟩ := List.mem_map.mp h3
    have ht := List.mem_range.mp ht
    have hp1 := hp p (List.mem_cons_self ..)
    rcases List.mem_append.mp hv with hv | hv
    · exact h o2 h2 v hv
    · rw [List.mem_singleton.mp hv]
      unfold span at ht
      omega
/-- each value lies in its range -/
def Lies (qs : List Rng) (o : St1) : Prop := o.length = qs.length ∧ ∀ (i : Nat) (r : Rng), qs[i]? = some r → r.1 ≤ gt o i ∧ gt o i ≤ r.2
theorem lies_fold : ∀ (ps qs : List Rng) (acc : List St1), (∀ o ∈ acc, Lies qs o) → ∀ o ∈ ps.foldl widen acc, Lies (qs ++ ps) o
  | [], qs, acc, h => by rw [List.append_nil]; exact h
  | p :: ps, qs, acc, h => by
    have e : qs ++ p :: ps = (qs ++ [p]) ++ ps := by rw [List.append_assoc]; rfl
    rw [e]
    refine lies_fold ps (qs ++ [p]) (widen acc p) fun o ho => ?_
    obtain ⟨o2, h2, h3⟩ := List.mem_flatMap.mp ho
    obtain ⟨t, ht, rfl⟩ := List.mem_map.mp h3
    have ht := List.mem_range.mp ht
    obtain ⟨l2, g2⟩ := h o2 h2
    refine ⟨by rw [List.length_append, List.length_append, l2]; rfl, fun i r hr => ?_⟩
    unfold gt
    rw [Int.toNat_natCast, List.getD_eq_getElem?_getD]
    by_cases hi : i < qs.length
    · rw [List.getElem?_append_left hi] at hr
      have := g2 i r hr
      unfold gt at this
      rw [Int.toNat_natCast, List.getD_eq_getElem?_getD] at this
      rw [List.getElem?_append_left (by omega)]
      exact this
    · rw [List.getElem?_append_right (by omega)] at hr
      rw [List.getElem?_append_right (by omega), l2]
      have hi2 : i - qs.length = 0 := by
        have := (List.getElem?_eq_some_iff.mp hr).1
        rw [List.length_singleton] at this
        omega
      rw [hi2] at hr ⊢
      obtain rfl : p = r := Option.some.inj hr
      show p.1 ≤ p.1 + (t : Int) ∧ p.1 + (t : Int) ≤ p.2
      unfold span at ht
      omega
theorem states_ok {rs : List Row} (A : RowsAll rs) : ∀ st ∈ statesOf (rg rs), StOk rs st := by
  intro st hst
  refine ⟨by rw [states_mem hst, rg_len], fun v hv => ?_, A.sm.tot, A.nd, A.ri, ?_⟩
  · exact fold_val 10 (rg rs) [[]] (fun p hp => ⟨(A.sm.sp p hp).2.1, (A.sm.sp p hp).2.2⟩) (fun o ho v hv => by rw [List.mem_singleton.mp ho] at hv; cases hv) st hst v hv
  · have h0 := lies_fold (rg rs) [] [[]] (fun o ho => by rw [List.mem_singleton.mp ho]; exact ⟨rfl, fun i r hr => by simp at hr⟩) st hst
    exact h0.2
/-- the rules of the samples fit -/
theorem fitB {rs : List Row} {s : Str} (h : (rs.any fun r => decide (r.1 = s) && decide (r.2.1 = 0)) = true) : ∃ r ∈ rs, r.1 = s ∧ r.2.1 = 0 := by
  obtain ⟨r, hr, h2⟩ := List.any_eq_true.mp h
  simp only [Bool.and_eq_true, decide_eq_true_eq] at h2
  exact ⟨r, hr, h2⟩
theorem fitC {rs : List Row} {s : Str} (h : (rs.any fun r => decide (r.1 = s) && decide (0 < r.2.1)) = true) : ∃ r ∈ rs, r.1 = s ∧ 0 < r.2.1 := by
  obtain ⟨r, hr, h2⟩ := List.any_eq_true.mp h
  simp only [Bool.and_eq_true, decide_eq_true_eq] at h2
  exact ⟨r, hr, h2⟩
def fitb (rs : List Row) : Ex → Bool
  | .int i => decide (-7 ≤ i ∧ i ≤ 7)
  | .nm s => rs.any fun r => decide (r.1 = s) && decide (r.2.1 = 0)
  | .at t e => (rs.any fun r => decide (r.1 = t) && decide (0 < r.2.1)) && fitb rs e
  | .un op e => decide (op ∈ uns) && fitb rs e
  | .bin op a b => decide (op ∈ bins) && (fitb rs a && fitb rs b)
  | .kk op e n => decide (op ∈ kks) && (fitb rs e && decide (1 ≤ n ∧ n ≤ 3))
  | .ite a b e => fitb rs a && (fitb rs b && fitb rs e)
theorem fitb_ok {rs : List Row} : ∀ e : Ex, fitb rs e = true → Fit rs e
  | .int i, h => by
    unfold fitb at h
    unfold Fit
    exact of_decide_eq_true h
  | .nm s, h => by unfold fitb at h; exact fitB h
  | .at t e, h => by
    unfold fitb at h
    rw [Bool.and_eq_true] at h
    exact ⟨fitC h.1, fitb_ok e h.2⟩
  | .un op e, h => by
    unfold fitb at h
    rw [Bool.and_eq_true] at h
    exact ⟨of_decide_eq_true h.1, fitb_ok e h.2⟩
  | .bin op a b, h => by
    unfold fitb at h
    rw [Bool.and_eq_true, Bool.and_eq_true] at h
    exact ⟨of_decide_eq_true h.1, fitb_ok a h.2.1, fitb_ok b h.2.2⟩
  | .kk op e n, h => by
    unfold fitb at h
    rw [Bool.and_eq_true, Bool.and_eq_true] at h
    exact ⟨of_decide_eq_true h.1, fitb_ok e h.2.1, of_decide_eq_true h.2.2⟩
  | .ite a b e, h => by
    unfold fitb at h
    rw [Bool.and_eq_true, Bool.and_eq_true] at h
    exact ⟨fitb_ok a h.1, fitb_ok b h.2.1, fitb_ok e h.2.2⟩
def fittb (rs : List Row) : Tg → Bool
  | .nm s => rs.any fun r => decide (r.1 = s) && decide (r.2.1 = 0)
  | .at t e => (rs.any fun r => decide (r.1 = t) && decide (0 < r.2.1)) && (fitb rs e && decide (e.dep ≤ 2))
theorem fittb_ok {rs : List Row} (t : Tg) (h : fittb rs t = true) : FitT rs t := by
  cases t with
  | nm s => exact fitB h
  | «at» t e =>
    unfold fittb at h
    rw [Bool.and_eq_true, Bool.and_eq_true] at h
    exact ⟨fitC h.1, fitb_ok e h.2.1, of_decide_eq_true h.2.2⟩
def rlb (rs : List Row) (r : Rl) : Bool := PyData.strOk r.name && (fitb rs r.guard && decide (r.guard.dep ≤ 2)) && decide (r.as.length ≤ 10) && decide (0 < r.as.length) && r.as.all fun p => fittb rs p.1 && (fitb rs p.2 && decide (p.2.dep ≤ 2))
theorem rlb_ok {rs : List Row} {r : Rl} (h : rlb rs r = true) : FitR rs r := by
  unfold rlb at h
  simp only [Bool.and_eq_true, List.all_eq_true, decide_eq_true_eq] at h
  obtain ⟨⟨⟨⟨h1, h2⟩, h3⟩, h4⟩, h5⟩ := h
  exact ⟨h1, ⟨fitb_ok _ h2.1, h2.2⟩, h3, fun e => by rw [e] at h4; exact absurd h4 (by decide), fun p hp => ⟨fittb_ok _ (h5 p hp).1, fitb_ok _ (h5 p hp).2.1, (h5 p hp).2.2⟩⟩
theorem sms_fit : ∀ s ∈ sms, ∀ r ∈ s.rules, FitR s.rows r := by
  have h : sms.all (fun s => s.rules.all fun r => rlb s.rows r) = true := by decide +kernel
  intro s hs r hr
  exact rlb_ok (List.all_eq_true.mp (List.all_eq_true.mp h s hs) r hr)
end K

namespace K
open PySem L2 G
variable {M : Md}
/-- a sample as the law goes over it: rows and rules -/
structure Sp2 where
  rows : List Row
  rules : List Rl
def Sp2.d (s : Sp2) : PyData := .tuple [cellsD s.rows, .tuple (s.rules.map Rl.d)]
structure Sp2Ok (s : Sp2) : Prop where
  all : RowsAll s.rows
  fit : ∀ r ∈ s.rules, FitR s.rows r
  len : s.rules.length ≤ 3
def gTwo : PyData → Option PyData
  | .tuple [a, b, _, _] => some (.tuple [a, b])
  | _ => none
def sm2 (s : Sm) : Sp2 := ⟨s.rows, s.rules⟩
theorem gTwo_all (l : List Sm) : (l.map Sm.d).filterMap gTwo = (l.map sm2).map Sp2.d := by
  induction l with
  | nil => rfl
  | cons s l ih => rw [List.map_cons, List.filterMap_cons, List.map_cons, List.map_cons, ← ih]; rfl
theorem sms2_ok : ∀ s ∈ sms.map sm2, Sp2Ok s := by
  intro s hs
  obtain ⟨m, hm, rfl⟩ := List.mem_map.mp hs
  have hl : ∀ s ∈ sms, s.rules.length ≤ 3 := by
    have h : sms.all (fun s => decide (s.rules.length ≤ 3)) = true := by decide +kernel
    intro s hs
    exact of_decide_eq_true (List.all_eq_true.mp h s hs)
  exact ⟨sms_all m hm, sms_fit m hm, hl m hm⟩
theorem lift_sts {L : List St1} : ∀ {es : List PyData}, (∀ e ∈ es, e ∈ L.map stD) → ∃ sts : List St1, es = sts.map stD ∧ ∀ st ∈ sts, st ∈ L
  | [], _ => ⟨[], rfl, fun _ h => nomatch h⟩
  | e :: es, h => by
    obtain ⟨st, h1, rfl⟩ := List.mem_map.mp (h e (List.mem_cons_self ..))
    obtain ⟨sts, rfl, h2⟩ := lift_sts fun e he => h e (List.mem_cons_of_mem _ he)
    refine ⟨st :: sts, rfl, fun s hs => ?_⟩
    rcases List.mem_cons.mp hs with rfl | hs
    · exact h1
    · exact h2 s hs
def spLaw (K : PySem.W.Frag) : Sp := fun vs H Q _ => ∃ (sl : Addr) (ns : List Int), vs = [.ref sl] ∧ SqL K H sl (ns.map V.int) ∧ ns.length ≤ 63 ∧ ∀ H', Q (.bl true) H'
set_option maxHeartbeats 4000000 in
theorem ok_law {f fd} (F : Fun M.K "law" "law" s_law f fd) (b : Bl M) (dfe : Dc M "_law_feed" ["_law_script"] 1 (spFeed M.K)) (dsm : Dc M "_law_samples" [] 1 (spSm M.K)) (dro : Dc M "_law_rows" ["_law_feed_here", "_law_most"] 3 (spD preRows rRows M.K)) (dru : Dc M "_law_rule" ["_law_feed_here", "_law_rows_here", "_law_name"] 6 (spD preRule rRule M.K))
    (dst : Dc M "_law_states" ["_law_rows_here"] 2 (spL rStates M.K)) (dso : Dc M "_law_some" ["_law_states_now", "_law_most"] 1 (spSome M.K)) (dfo : dcForm M 3) (drr : Dc M "_law_rule_right" ["_law_rows_here", "_law_rule_here", "_law_states_now"] 15 (spRr M.K)) (dfr : Dc M "_law_formula_right" ["_law_rows_here", "_law_e", "_law_states_now"] 12 (spFr M.K)) :
    FnOk M.prog M.w M.K M.mg M.base CX0 16 f fd ["_law_script"] (spLaw M.K) := by
  refine fn_ok F sc_law (fun vs H Q E h => ?_) (fun H vs Q E h => ?_)
  · obtain ⟨sl, ns, rfl, _⟩ := h
    rfl
  obtain ⟨sl, ns, rfl, hs, hl, k⟩ := h
  tm_at "go"
  refine e_call dfe ?_
  tm_at "go"
  refine ⟨sl, ns, rfl, hs, hl, fun fp cl H1 s1 n1 nc1 f1 => ?_⟩
  tm_at "go"
  refine s_setLc (own := [("_law_good", 9)]) (by tm_at "at") (Blk.of (N := N_law) (sc := defScope s_law) rfl rfl (by decide +kernel)) ?_
  refine lcL_F gTwo ?_
  refine e_call0 dsm ?_
  refine ⟨rfl, fun l2 us2 H2 s2 n2 g2 h2 => ?_⟩
  refine ⟨l2, us2, _, rfl, .of g2, h2, by decide, fun d x H' hd s hx => ?_, fun l3 us3 H3 s3 n3 g3 h3 => ?_⟩
  · obtain ⟨m, hm, rfl⟩ := List.mem_map.mp hd
    refine g_name (by tm_at "at") ⟨rfl, rfl, ts_nil ⟨Same.refl _, ift ?_⟩⟩
    tm_at "go"
    refine rsl_tup hx fun v H4 s4 hv => ?_
    exact ⟨s4, _, rfl, hv⟩
  rw [gTwo_all] at h3
  have f3 := f1.same (s2.trans s3)
  have nl : l3 ≠ fp := ne_feed f1 s2 n3
  have nc : l3 ≠ cl := ne_cl f1 s2 n3
  refine b_cut (fun σ1 H' => ∃ (ss : List Sp2) (us : List V) (v3 v4 : Option V), σ1 = [some (.ref sl), some (.ref fp), some (.ref l3), v3, v4, none, none, none, none, none, none, none, none] ∧ Feed M.K H' fp cl ∧ H' l3 = some (.lst us) ∧ DtAll M.K H' us (ss.map Sp2.d) ∧ (∀ s ∈ ss, Sp2Ok s) ∧ ss.length ≤ 20) ?_ ?_
  · refine s_forR1 b.range ?_
    tm_at "go"
    refine ⟨by decide, by decide, fun i σ1 H' => ∃ (ss : List Sp2) (us : List V) (v3 v4 : Option V), σ1 = [some (.ref sl), some (.ref fp), some (.ref l3), v3, v4, none, none, none, none, none, none, none, none] ∧ Feed M.K H' fp cl ∧ H' l3 = some (.lst us) ∧ DtAll M.K H' us (ss.map Sp2.d) ∧ (∀ s ∈ ss, Sp2Ok s) ∧ ss.length = 7 + i, ⟨sms.map sm2, us3, _, _, rfl, f3, g3, h3, sms2_ok, rfl⟩, ?_, ?_⟩
    · rintro i σ' H4 hi ⟨ss, us, v3, v4, rfl, f4, g4, h4, ok4, len4⟩
      refine g_name (by tm_at "at") ?_
      tm_at "go"
      refine e_callD dro ?_
      tm_at "go"
      refine ⟨fp, cl, _, _, rfl, f4, .cons (.int 24) .nil, ⟨24, rfl, by decide, by decide⟩, ?_⟩
      rintro d vr H5 ⟨most, rs, e1, rfl, R3⟩ k5 f5 hr
      have em : most = 24 := by
        have := PyData.int.inj (List.cons.inj e1).1
        omega
      have A := rows3_all R3 (by omega)
      have hpos : 0 < rs.length := by rw [R3.len]; decide
      have g5 := k5.k _ _ nl g4
      tm_at "go"
      refine s_expr ?_
      refine e_app ?_
      tm_at "go"
      refine ⟨l3, _, rfl, g5, ?_⟩
      refine e_tupD ?_
      tm_at "go"
      refine e_lc (own := [("_law_j", 12)]) (Blk.of (N := N_law) (sc := defScope s_law) rfl rfl (by decide +kernel)) ?_
      refine lc_R1 b.range ?_
      tm_at "go"
      refine ⟨by decide, fun D hD => ?_⟩
      have nD : D ≠ fp := ne_feed f5 (Same.refl _) hD
      have nDc : D ≠ cl := ne_cl f5 (Same.refl _) hD
      have nD3 : D ≠ l3 := fresh_ne g5 (Same.refl _) hD
      refine ⟨fun j acc H' => ∃ rl : List Rl, acc.length ≤ j ∧ rl.length = j ∧ Kp fp H5 H' ∧ Feed M.K H' fp cl ∧ H' D = some (.lst acc) ∧ DtAll M.K H' acc (rl.map Rl.d) ∧ ∀ r ∈ rl, FitR rs r, ?_, ?_, ?_, ?_⟩
      · exact ⟨[], Nat.le_refl _, rfl, kp_mut (Kp.refl _ _) hD, f5.upd nD nDc, upd_same, .nil, fun _ h => nomatch h⟩
      · rintro j acc H' ⟨rl, h, _⟩
        exact h
      · rintro j acc H6 hj ⟨rl, hl6, hle6, k6, f6, g6, h6, he6⟩
        refine g_name (by tm_at "at") ⟨rfl, ts_nil (ift ?_)⟩
        refine e_callD dru ?_
        tm_at "go"
        refine ⟨fp, cl, _, _, rfl, f6, .cons (hr.mono k6.t) (.cons (.str _) .nil), ⟨rs, "rule", rfl, A.ri, hpos, by decide +kernel⟩, ?_⟩
        rintro d v7 H7 ⟨rs', nm, r, e2, rfl, fit⟩ k7 f7 hv7
        obtain rfl : rs = rs' := cellsD_inj (List.cons.inj e2).1
        have g7 := k7.k _ _ nD g6
        have ku := kp_upd (o' := .lst (acc ++ [v7])) g7 (fun _ e => nomatch e) (fun _ _ e => nomatch e)
        refine ⟨g7, rl ++ [r], by rw [List.length_append]; exact Nat.succ_le_succ hl6, by rw [List.length_append, hle6]; rfl, kp_mut (k6.trans k7) hD, f7.upd nD nDc, upd_same, ?_, ?_⟩
        · rw [List.map_append]
          exact (h6.mono (k7.t.trans ku.t)).app (.cons (hv7.mono ku.t) .nil)
        · intro r' hr'
          rcases List.mem_append.mp hr' with hr' | hr'
          · exact he6 r' hr'
          · rw [List.mem_singleton.mp hr']; exact fit
      · rintro acc H6 ⟨rl, hl6, hle6, k6, f6, g6, h6, he6⟩
        tm_at "go"
        refine rc_tupL (.of g6) h6 fun v7 H7 s7 h7 => ?_
        tm_at "go"
        refine tupend (ds := [cellsD rs, .tuple (rl.map Rl.d)]) (.cons (hr.mono (k6.t.trans (tp_same s7))) (.cons h7 .nil)) (Nat.le_of_ble_eq_true rfl) fun v8 H8 s8 h8 => ?_
        have k48 := k5.trans (k6.trans (kp_same (m := fp) (s7.trans s8)))
        have g8 := k48.k _ _ nl g4
        have ku := kp_upd (o' := .lst (us ++ [v8])) g8 (fun _ e => nomatch e) (fun _ _ e => nomatch e)
        have lus := h4.len
        rw [List.length_map] at lus
        refine ⟨us, g8, by omega, ?_⟩
        refine ⟨ss ++ [⟨rs, rl⟩], us ++ [v8], _, _, rfl, (f6.same (s7.trans s8)).upd nl nc, upd_same, ?_, ?_, by rw [List.length_append, len4]; rfl⟩
        · rw [List.map_append]
          exact (h4.mono (k48.t.trans ku.t)).app (.cons (h8.mono ku.t) .nil)
        · intro s hs
          rcases List.mem_append.mp hs with hs | hs
          · exact ok4 s hs
          · rw [List.mem_singleton.mp hs]
            exact ⟨A, he6, by show rl.length ≤ 3; rw [hle6]; decide⟩
    · rintro σ' H4 ⟨ss, us, v3, v4, rfl, f4, g4, h4, ok4, len4⟩
      exact ⟨ss, us, _, _, rfl, f4, g4, h4, ok4, by rw [len4]; decide⟩
  rintro _ H4 ⟨ss, us, v3, v4, rfl, f4, g4, h4, ok4, len4⟩
  have lus := h4.len
  rw [List.length_map] at lus
  tm_at "go"
  refine s_forL ?_
  tm_at "go"
  refine ⟨l3, us, rfl, .of g4, fun i σ1 H' => ∃ (v3 v4 v5 v6 v7 v8 : Option V), σ1 = [some (.ref sl), some (.ref fp), some (.ref l3), v3, v4, v5, v6, v7, v8, none, none, none, none] ∧ Feed M.K H' fp cl ∧ H' l3 = some (.lst us) ∧ Tp H4 H', ⟨_, _, _, _, _, _, rfl, f4, g4, Tp.refl _⟩, ?_, ?_, ?_⟩
  · rintro i σ' H' _ ⟨v3, v4, v5, v6, v7, v8, rfl, _, g, _⟩
    exact .of g
  · rintro i x σ' H5 hx ⟨v3, v4, v5, v6, v7, v8, rfl, f5, g5, t5⟩
    obtain ⟨d, hd, hx'⟩ := h4.getV hx
    rw [List.getElem?_map] at hd
    obtain ⟨s, hs0, rfl⟩ := Option.map_eq_some_iff.mp hd
    have so := ok4 s (List.mem_of_getElem? hs0)
    have A := so.all
    refine g_unp2 (by tm_at "at") (by tm_at "at") (hx'.mono t5) fun vr vl hr hrl => ?_
    tm_at "go"
    refine e_callL dst ?_
    tm_at "go"
    refine ⟨_, _, .cons hr .nil, ⟨s.rows, rfl, A.sm, rfl⟩, fun l6 us6 H6 s6 n6 g6 h6 => ?_⟩
    have len6 : ((statesOf (rg s.rows)).map stD).length ≤ 256 := by rw [List.length_map, states_len]; exact A.sm.many
    tm_at "go"
    refine e_call dso ?_
    tm_at "go"
    refine ⟨l6, us6, _, 8, rfl, by decide, g6, h6, by omega, fun l7 us7 es7 H7 s7 n7 g7 h7 m7 len7 => ?_⟩
    obtain ⟨sts, rfl, hsub⟩ := lift_sts m7
    have SI : StsIn s.rows sts := ⟨fun st hst => states_ok A st (hsub st hst), by rw [List.length_map] at len7; omega⟩
    have s57 := s6.trans s7
    have f7 := f5.same s57
    have nl7 : l7 ≠ fp := ne_feed f5 s6 n7
    refine b_cut (fun σ1 H' => σ1 = [some (.ref sl), some (.ref fp), some (.ref l3), v3, some vr, some vl, some (.ref l6), some (.ref l7), v8, none, none, none, none] ∧ Same H7 H') ?_ ?_
    · tm_at "go"
      refine e_lc (own := [("_law_rule_here", 10)]) (Blk.of (N := N_law) (sc := defScope s_law) rfl rfl (by decide +kernel)) ?_
      refine lcT_F (fun _ => none) ?_
      tm_at "go"
      refine ⟨_, hrl.mono (tp_same s57), by rw [List.length_map]; exact Nat.le_trans so.len (by decide), fun d x H' hd sH hx => ?_, fun l8 us8 H8 s8 n8 g8 h8 => ?_⟩
      · obtain ⟨r, hr0, rfl⟩ := List.mem_map.mp hd
        refine g_name (by tm_at "at") ⟨rfl, rfl, ts_one ?_⟩
        tm_at "go"
        refine t_val ?_
        refine e_call drr ?_
        tm_at "go"
        refine ⟨s.rows, r, sts, _, _, l7, us7, rfl, hr.mono (tp_same (s57.trans sH)), hx, sH _ _ g7, h7.mono (tp_same sH), SI, so.fit r hr0, fun H9 s9 => ?_⟩
        exact ⟨true, rfl, s9, rfl⟩
      have e8 : (s.rules.map Rl.d).filterMap (fun _ => (none : Option PyData)) = [] := by simp
      rw [e8] at h8
      refine e_lstD ?_
      tm_at "go"
      refine ⟨(Nat.le_of_ble_eq_true rfl), fun q0 H9 s9 n9 g9 => ?_⟩
      refine ro_neNil (n := 1) (s9 _ _ g8) (h8.mono (tp_same s9)) (fun d hd => nomatch hd) (by decide) g9 ?_
      tm_at "go"
      exact ⟨rfl, s8.trans s9⟩
    rintro _ H8 ⟨rfl, s8⟩
    have s58 := s57.trans s8
    have f8 := f5.same s58
    refine b_cut (fun σ1 H' => ∃ (l9 : Addr) (us9 : List V) (es : List Ex), σ1 = [some (.ref sl), some (.ref fp), some (.ref l3), v3, some vr, some vl, some (.ref l6), some (.ref l7), some (.ref l9), none, none, none, none] ∧ Kp fp H8 H' ∧ Feed M.K H' fp cl ∧ H' l9 = some (.lst us9) ∧ DtAll M.K H' us9 (es.map Ex.d) ∧ es.length ≤ 10 ∧ ∀ e ∈ es, Fit s.rows e ∧ e.dep ≤ 3) ?_ ?_
    · refine s_setLc (own := [("_law_k", 3)]) (by tm_at "at") (Blk.of (N := N_law) (sc := defScope s_law) rfl rfl (by decide +kernel)) ?_
      refine lc_R1 b.range ?_
      tm_at "go"
      refine ⟨by decide, fun D hD => ?_⟩
      have nD : D ≠ fp := ne_feed f8 (Same.refl _) hD
      have nDc : D ≠ cl := ne_cl f8 (Same.refl _) hD
      refine ⟨fun j acc H' => ∃ es : List Ex, acc.length ≤ j ∧ es.length = j ∧ Kp fp H8 H' ∧ Feed M.K H' fp cl ∧ H' D = some (.lst acc) ∧ DtAll M.K H' acc (es.map Ex.d) ∧ ∀ e ∈ es, Fit s.rows e ∧ e.dep ≤ 3, ?_, ?_, ?_, ?_⟩
      · exact ⟨[], Nat.le_refl _, rfl, kp_mut (Kp.refl _ _) hD, f8.upd nD nDc, upd_same, .nil, fun _ h => nomatch h⟩
      · rintro j acc H' ⟨rl, h, _⟩
        exact h
      · rintro j acc H9 hj ⟨es, hl9, hle9, k9, f9, g9, h9, he9⟩
        refine g_name (by tm_at "at") ⟨rfl, ts_nil (ift ?_)⟩
        refine e_callD dfo ?_
        tm_at "go"
        refine ro_mod (by decide) ?_
        tm_at "go"
        refine ⟨fp, cl, _, _, rfl, f9, .cons (hr.mono ((tp_same s58).trans k9.t)) (.cons (.int _) .nil), ⟨s.rows, _, rfl, A.ri, by omega⟩, ?_⟩
        rintro d va Ha ⟨rs', deep', e, e1, rfl, fit, dep⟩ ka fa hva
        obtain rfl : s.rows = rs' := cellsD_inj (List.cons.inj e1).1
        have hdp := PyData.int.inj (List.cons.inj (List.cons.inj e1).2).1
        have ga := ka.k _ _ nD g9
        have ku := kp_upd (o' := .lst (acc ++ [va])) ga (fun _ e => nomatch e) (fun _ _ e => nomatch e)
        refine ⟨ga, es ++ [e], by rw [List.length_append]; exact Nat.succ_le_succ hl9, by rw [List.length_append, hle9]; rfl, kp_mut (k9.trans ka) hD, fa.upd nD nDc, upd_same, ?_, ?_⟩
        · rw [List.map_append]
          exact (h9.mono (ka.t.trans ku.t)).app (.cons (hva.mono ku.t) .nil)
        · intro e' he'
          rcases List.mem_append.mp he' with he' | he'
          · exact he9 e' he'
          · rw [List.mem_singleton.mp he']
            exact ⟨fit, by omega⟩
      · rintro acc H9 ⟨es, hl9, hle9, k9, f9, g9, h9, he9⟩
        exact ⟨D, acc, es, rfl, k9, f9, g9, h9, by rw [hle9]; decide, he9⟩
    rintro _ H9 ⟨l9, us9, es, rfl, k9, f9, g9, h9, len9, he9⟩
    have g79 := k9.k _ _ nl7 (s8 _ _ g7)
    have t59 : Tp H5 H9 := (tp_same s58).trans k9.t
    have g39 := k9.k _ _ nl (s58 _ _ g5)
    tm_at "go"
    refine e_lc (own := [("_law_e", 11)]) (Blk.of (N := N_law) (sc := defScope s_law) rfl rfl (by decide +kernel)) ?_
    refine lcL_F (fun _ => none) ?_
    tm_at "go"
    refine ⟨l9, us9, _, rfl, .of g9, h9, by rw [List.length_map]; omega, fun d x H' hd sH hx => ?_, fun la usa Ha sa na ga ha => ?_⟩
    · obtain ⟨e, he0, rfl⟩ := List.mem_map.mp hd
      obtain ⟨fit, dep⟩ := he9 e he0
      refine g_name (by tm_at "at") ⟨rfl, rfl, ts_one ?_⟩
      tm_at "go"
      refine t_val ?_
      refine e_call dfr ?_
      tm_at "go"
      refine ⟨s.rows, e, sts, _, _, l7, us7, rfl, hr.mono (t59.trans (tp_same sH)), hx, sH _ _ g79, h7.mono ((tp_same s8).trans (k9.t.trans (tp_same sH))), SI, fit, dep, fun Hb sb => ?_⟩
      exact ⟨true, rfl, sb, rfl⟩
    have ea : (es.map Ex.d).filterMap (fun _ => (none : Option PyData)) = [] := by simp
    rw [ea] at ha
    refine e_lstD ?_
    tm_at "go"
    refine ⟨(Nat.le_of_ble_eq_true rfl), fun q0 Hb sb nb gb => ?_⟩
    refine ro_neNil (n := 1) (sb _ _ ga) (ha.mono (tp_same sb)) (fun d hd => nomatch hd) (by decide) gb ?_
    tm_at "go"
    exact ⟨_, _, _, _, _, _, rfl, f9.same (sa.trans sb), (sa.trans sb) _ _ g39, t5.trans (t59.trans (tp_same (sa.trans sb)))⟩
  · rintro σ' H5 ⟨v3, v4, v5, v6, v7, v8, rfl, f5, g5, t5⟩
    tm_at "go"
    exact k _
end K

namespace K
open PySem PySem.Spec PyProof.Rows L2 G
section
variable {X : Cx}
/-- d.items() of a dict with ints or texts for keys -/
def rItK : V → List V → Hp → VK → Prop := fun o args H Q => ∃ (d : Addr) (kvs : List (Key × V)), o = .ref d ∧ args = [] ∧ H d = some (.dK kvs) ∧ ∀ v, H v = none → Q (.ref v) (upd H v (L2.DX.itemsO v d))
theorem mt_itK : MtR X "dict.items" rItK := by
  intro pins st σ H o args ov us Q J ro rargs z
  obtain ⟨d, kvs, rfl, rfl, hd, k⟩ := z
  cases ro
  cases rargs
  obtain ⟨_, nosys, _, _, ob, en, ep, g1, g2, g3, _⟩ := (show ObjOk X.prog X.w H st.heap d (.dK kvs) from J.hok d _ hd)
  refine DT.callItems (ep := ep) (es := en) nosys ⟨ob, g1, g2, g3⟩ ?_
  exact ⟨.ref st.heap.objs.size, _, J.laid (o := L2.DX.itemsO st.heap.objs.size d) (t' := st.toks) (fun c o e => Heap.get?_push_of_some _ e) (Nat.le_refl _) (L2.DX.itemsO_ok (Heap.get?_push_size _ rfl)), rfl, k _ (J.hok.fresh (Nat.le_refl _))⟩
theorem ents_raw {P : Program} {w : World} : ∀ {es : List (Int × Int)} {kvs : List (Key × Value)} {en : List DictEntry}, KV (es.map kvE) kvs → Pairs (mixKind P w) en kvs → ∀ (j : Nat) (e : DictEntry), en[j]? = some e → ∃ (p : Int × Int) (t u : Tok), es[j]? = some p ∧ e.key = Value.int p.1 t ∧ e.val = Value.int p.2 u := by
  intro es
  induction es with
  | nil =>
    intro kvs en r ps j e h
    cases r
    cases ps
    simp at h
  | cons p es ih =>
    intro kvs en r ps j e h
    obtain _ | ⟨r1, r2⟩ := r
    obtain _ | ⟨p1, p2, p3⟩ := ps
    cases j with
    | zero =>
      obtain rfl := Option.some.inj h
      obtain ⟨z1, u, z2⟩ := r1
      change keyIs _ _ = true at p1
      rw [← z1] at p1
      rcases keyIs_shape p1 with ⟨i, t, y1, y2⟩ | ⟨x, t, y1, _⟩
      · cases y1
        exact ⟨p, t, u, rfl, y2, p2.trans z2⟩
      · cases y1
    | succ j =>
      obtain ⟨q, t, u, y1, y2⟩ := ih r2 p3 j e (by simpa using h)
      exact ⟨q, t, u, by simpa using y1, y2⟩
open Classical in
noncomputable def pk (h : Heap) (v : Value) : Int × Int := if z : ∃ e : Int × Int, Srt.IsPair h v e.1 e.2 then z.choose else (0, 0)
theorem pk_is {h : Heap} {v : Value} {e : Int × Int} (z : Srt.IsPair h v e.1 e.2) : pk h v = e := by
  have y : ∃ e : Int × Int, Srt.IsPair h v e.1 e.2 := ⟨e, z⟩
  have w : Srt.IsPair h v (pk h v).1 (pk h v).2 := by
    unfold pk
    rw [dif_pos y]
    exact y.choose_spec
  obtain ⟨a, o, t, u, n, rfl, g1, _, g2⟩ := z
  obtain ⟨a', o', t', u', n', e', g1', _, g2'⟩ := w
  cases e'
  obtain rfl : o = o' := Option.some.inj (g1.symm.trans g1')
  have e3 := g2.symm.trans g2'
  injection e3 with e4 _
  injection e4 with e5
  injection e5 with e6 e7
  injection e7 with e8 _
  injection e6 with i1 _
  injection e8 with i2 _
  exact Prod.ext i1.symm i2.symm
theorem prAll_back {H : Hp} {k : Value → Int × Int} : ∀ {us : List Value}, (∀ x ∈ us, ∃ b, x = Value.ref b ∧ H b = some (.tup [.int (k x).1, .int (k x).2])) → PrAll H (us.map backV) (us.map k)
  | [], _ => .nil
  | x :: us, h => by
    obtain ⟨b, rfl, hb⟩ := h x (List.mem_cons_self ..)
    exact .cons hb (prAll_back fun y hy => h y (List.mem_cons_of_mem _ hy))
/-- sorted(d.items()), keys and values ints -/
def rSoK : List V → Hp → VK → Prop := fun args H Q => ∃ (v d : Addr) (es : List (Int × Int)), args = [.ref v] ∧ H v = some (L2.DX.itemsO v d) ∧ H d = some (.dK (es.map kvE)) ∧
  ∀ l us H', Same H H' → H l = none → H' l = some (.lst us) → PrAll H' us (sortE es) → Q (.ref l) H'
theorem cr_soK (quiet : X.calm = true) : CallR X (.builtin "sorted") rSoK := by
  intro pins st σ H args us Q J rv z
  obtain ⟨v, d, es, rfl, hv, hd, k⟩ := z
  obtain rfl := Vals.ref1 rv
  have view : st.heap.IsItemsView v d := (show ObjOk X.prog X.w H st.heap v (L2.DX.itemsO v d) from J.hok v _ hv).1
  obtain ⟨short, nosys, kvs, rel, ob, en, ep, g1, g2, g3, _, g4, _⟩ := (show ObjOk X.prog X.w H st.heap d (.dK (es.map kvE)) from J.hok d _ hd)
  have n1 := KV.length rel
  have n2 := g4.length
  rw [List.length_map] at n1 short
  rw [Array.length_toList] at n2
  refine DT.sortedI (ep := ep) (es := en) (J.ok.hd quiet) view ⟨ob, g1, g2, g3⟩ (by omega) fun hp tk as keep big len made => ?_
  have far : ∀ c o, hp.get? c = some o → c ≠ hp.objs.size := fun c o e => Nat.ne_of_lt (Heap.lt_size e)
  have once : as.Nodup := made.rise.imp fun h => Nat.ne_of_lt h
  have pr : ∀ (j : Nat) (b : Addr), as[j]? = some b → ∃ (p : Int × Int) (t u : Tok), es[j]? = some p ∧ hp.get? b = some { cls := .type "tuple", data := .seq #[Value.int p.1 t, Value.int p.2 u] } := by
    intro j b hj
    obtain ⟨e, h1, h2⟩ := made.pairs j b hj
    obtain ⟨p, t, u, y1, y2, y3⟩ := ents_raw rel g4 j e (by rw [Array.getElem?_toList]; exact h1)
    exact ⟨p, t, u, y1, by rw [h2, y2, y3]⟩
  have hol : (hp.push { cls := .type "list", data := .seq (as.map Value.ref).toArray }).get? hp.objs.size = some (seqObj "list" (as.map Value.ref).toArray 0) := Heap.get?_push_size _ rfl
  have k0 : ∀ c o, hp.get? c = some o → (hp.push { cls := .type "list", data := .seq (as.map Value.ref).toArray }).get? c = some o := fun c o e => Heap.get?_push_of_some _ e
  generalize hp.push { cls := .type "list", data := .seq (as.map Value.ref).toArray } = hq at hol k0 ⊢
  have pin : ∀ (j : Nat) (b : Addr), as[j]? = some b → ∃ p : Int × Int, es[j]? = some p ∧ Srt.IsPair hq (.ref b) p.1 p.2 := by
    intro j b hj
    obtain ⟨p, t, u, y1, y2⟩ := pr j b hj
    exact ⟨p, y1, b, _, t, u, 0, rfl, k0 _ _ y2, rfl, rfl⟩
  have pall : ∀ x ∈ as.map Value.ref, ∃ b, x = .ref b ∧ b ∈ as ∧ Srt.IsPair hq x (pk hq x).1 (pk hq x).2 := by
    intro x hx
    obtain ⟨b, hb, rfl⟩ := List.mem_map.mp hx
    obtain ⟨j, hj⟩ := List.mem_iff_getElem?.mp hb
    obtain ⟨p, _, y⟩ := pin j b hj
    exact ⟨b, rfl, hb, by rw [pk_is y]; exact y⟩
  have keys : (as.map Value.ref).map (pk hq) = es := by
    rw [List.map_map]
    refine List.ext_getElem? fun j => ?_
    rw [List.getElem?_map]
    cases hj : as[j]? with
    | none =>
      have := List.getElem?_eq_none_iff.mp hj
      exact (List.getElem?_eq_none_iff.mpr (by omega)).symm
    | some b =>
      obtain ⟨p, y1, y2⟩ := pin j b hj
      rw [y1]
      exact congrArg some (pk_is y2)
  refine wpAny_call_entry PyProof.Rows.slot_list_sort ⟨_, hol, rfl⟩ PyProof.Rows.entry_list_sort (SrtO.list_sort_ord (s := { st with heap := hq, toks := tk }) (vs := as.map Value.ref) (SrtO.swo_lex (pk hq)) hol (by rw [List.length_map]; omega) (fun h2 => SrtO.pairs_sortableO (s := { st with heap := hq, toks := tk }) (by omega) (fun x hx => let ⟨_, _, _, z⟩ := pall x hx; z) fun o e => ?_) fun out o1 o2 => ⟨_, rfl, ?_⟩) (PyProof.Rows.args_list_sort _)
  · have e2 := hol.symm.trans e
    cases e2
    intro c
    exact absurd (Value.type.inj c) (by decide)
  · have perm := o2.perm
    have um : ∀ x ∈ out, ∃ b, x = .ref b ∧ b ∈ as ∧ Srt.IsPair hq x (pk hq x).1 (pk hq x).2 := fun x hx => pall x (perm.mem_iff.mp hx)
    have isr : ∀ x ∈ out, ∃ a, x = Value.ref a := fun x hx => let ⟨b, e, _⟩ := um x hx; ⟨b, e⟩
    show EP X pins σ Q (.ref hp.objs.size) { st with heap := sortedHeap hq hp.objs.size (as.map Value.ref) out.toArray, toks := tk }
    have k1 : ∀ c o, c ≠ hp.objs.size → hq.get? c = some o → (sortedHeap hq hp.objs.size (as.map Value.ref) out.toArray).get? c = some o := fun c o hc e => (PyProof.Rows.sortedHeap_old hc (Heap.lt_size e)).trans e
    have k2 : ∀ c o, st.heap.get? c = some o → (sortedHeap hq hp.objs.size (as.map Value.ref) out.toArray).get? c = some o := fun c o e => k1 c o (far _ _ (keep c o e)) (k0 _ _ (keep c o e))
    obtain ⟨fin, atFin⟩ := PyProof.Rows.sortedHeap_at (vs := as.map Value.ref) (out := out.toArray) hol
    have free : H hp.objs.size = none := J.hok.fresh (Nat.le_of_lt big)
    have few : (out.map backV).length ≤ sizeLine := by rw [List.length_map, perm.length_eq, List.length_map]; omega
    have J2 := (J.kept (t' := tk) k2).take (H := H) (o := .lst (out.map backV)) (h' := sortedHeap hq hp.objs.size (as.map Value.ref) out.toArray) (t' := tk) (fun b ob _ e => e) (J.fpOk (Nat.le_of_lt big) free) ⟨few, out, fin, vals_back isr, atFin⟩
    obtain ⟨H2, J3, g, qt⟩ := L2.DX.takeT (P := fun b vs => ∃ p : Int × Int, Srt.IsPair hq (.ref b) p.1 p.2 ∧ vs = [.int p.1, .int p.2]) J as _ J2 once fun b hb => by
      obtain ⟨j, hj⟩ := List.mem_iff_getElem?.mp hb
      obtain ⟨p, t, u, y1, y2⟩ := pr j b hj
      have low : st.heap.objs.size ≤ b := Nat.le_of_lt (made.above b hb)
      refine ⟨low, ?_, [.int p.1, .int p.2], ⟨p, ⟨b, _, t, u, 0, rfl, k0 _ _ y2, rfl, rfl⟩, rfl⟩, fun H3 => ⟨Nat.le_trans (m := 1000) (Nat.le_of_ble_eq_true rfl) (by decide), [Value.int p.1 t, Value.int p.2 u], .cons ⟨t, rfl⟩ (.cons ⟨u, rfl⟩ .nil), ⟨_, k1 _ _ (far _ _ y2) (k0 _ _ y2), rfl, 0, rfl⟩⟩⟩
      rw [upd_ne (far _ _ y2)]
      exact J.hok.fresh low
    have gr : Same H H2 := fun b o e => g b o (by rw [upd_ne (ne_of_none e free)]; exact e)
    refine ⟨.ref hp.objs.size, H2, J3, rfl, k _ _ _ gr free (g _ _ upd_same) ?_⟩
    have ek : out.map (pk hq) = sortE es := by
      refine sortE_uniq ?_ ?_
      · rw [← keys]; exact perm.map _
      · rw [List.pairwise_map]
        refine o1.imp fun {a b} h => ?_
        unfold leB
        rw [show SrtO.lexB (pk hq b) (pk hq a) = false from h]
        rfl
    rw [← ek]
    refine prAll_back fun x hx => ?_
    obtain ⟨b, rfl, hb, y⟩ := um x hx
    obtain ⟨vs, ⟨p, z1, rfl⟩, z2⟩ := qt b hb
    rw [pk_is z1]
    exact ⟨b, rfl, z2⟩
end
end K

namespace K
open PySem PySem.Spec PyProof.Rows L2 G
variable {M : Md}
/-! ### what stands behind a rule, place by place -/
def valE (es : List (Int × Int)) (j : Int) : Option Int := (es.find? fun p => decide (p.1 = j)).map (·.2)
theorem valE_none {es : List (Int × Int)} {j : Int} (h : j ∉ es.map (·.1)) : valE es j = none := by
  unfold valE
  rw [List.find?_eq_none.mpr fun p hp => ?_]
  · rfl
  · rw [decide_eq_true_eq]
    intro e
    exact h (List.mem_map.mpr ⟨p, hp, e⟩)
theorem valE_mem {es : List (Int × Int)} {j v : Int} (h : valE es j = some v) : (j, v) ∈ es := by
  unfold valE at h
  obtain ⟨p, h1, rfl⟩ := Option.map_eq_some_iff.mp h
  have e := List.find?_some h1
  rw [decide_eq_true_eq] at e
  subst e
  exact List.mem_of_find?_eq_some h1
theorem valV_kvE (es : List (Int × Int)) (j : Int) : valV (es.map kvE) (Sum.inl j : Key) = (valE es j).map V.int := by
  induction es with
  | nil => rfl
  | cons p es ih =>
    rw [List.map_cons]
    by_cases e : p.1 = j
    · rw [valV_pos (p := kvE p) (show (Sum.inl p.1 : Key) = Sum.inl j by rw [e])]
      unfold valE
      rw [List.find?_cons, decide_eq_true e]
      rfl
    · rw [valV_neg (p := kvE p) (show ¬ (Sum.inl p.1 : Key) = Sum.inl j from fun z => e (Sum.inl.inj z)), ih]
      unfold valE
      rw [List.find?_cons, decide_eq_false e]
theorem gt_set {st : St1} {p : Int × Int} {j : Int} (h0 : 0 ≤ p.1) (h1 : 0 ≤ j) (hl : p.1.toNat < st.length) : gt (setAt st p) j = if p.1 = j then p.2 else gt st j := by
  unfold gt setAt
  rw [List.getD_eq_getElem?_getD, List.getD_eq_getElem?_getD, List.getElem?_set]
  by_cases e : p.1 = j
  · subst e
    rw [if_pos rfl, if_pos hl, if_pos rfl]
    rfl
  · rw [if_neg (by omega), if_neg e]
theorem gt_fold {j : Int} (h0 : 0 ≤ j) : ∀ (es : List (Int × Int)) (st : St1), (∀ p ∈ es, 0 ≤ p.1 ∧ p.1.toNat < st.length) → (es.map (·.1)).Nodup → gt (es.foldl setAt st) j = (valE es j).getD (gt st j)
  | [], st, _, _ => rfl
  | p :: es, st, hin, nd => by
    obtain ⟨p0, p1⟩ := hin p (List.mem_cons_self ..)
    rw [List.map_cons, List.nodup_cons] at nd
    have ih := gt_fold h0 es (setAt st p) (fun q hq => by
      have := hin q (List.mem_cons_of_mem _ hq)
      rw [setAt, List.length_set]
      exact this) nd.2
    rw [List.foldl_cons, ih, gt_set p0 h0 p1]
    by_cases e : p.1 = j
    · subst e
      rw [valE_none nd.1, if_pos rfl]
      unfold valE
      rw [List.find?_cons, decide_eq_true rfl]
      rfl
    · rw [if_neg e]
      unfold valE
      rw [List.find?_cons, decide_eq_false e]
/-- the entries that count: none if the rule rests -/
def due (o : Option (List (Int × Int))) : List (Int × Int) := o.getD []
theorem beh_len {rs : List Row} {st : St1} {r : Rl} : (beh rs st r).length = st.length := by
  unfold beh
  split
  · rfl
  · exact setAt_len _ _
theorem beh_gt {rs : List Row} {st : St1} {r : Rl} (S : StOk rs st) {j : Int} (h0 : 0 ≤ j) : gt (beh rs st r) j = (valE (due (asg rs st r)) j).getD (gt st j) := by
  unfold beh
  cases e : asg rs st r with
  | none => rfl
  | some es =>
    obtain ⟨h1, _, h2, _⟩ := asg_in e
    exact gt_fold h0 es st (fun p hp => by
      have := (h1 p hp).1
      have := S.len
      omega) h2
theorem beh_rng {rs : List Row} {st : St1} {r : Rl} (S : StOk rs st) {i : Nat} {g : Rng} (hg : (rg rs)[i]? = some g) : g.1 ≤ gt (beh rs st r) i ∧ gt (beh rs st r) i ≤ g.2 := by
  rw [beh_gt S (by omega)]
  cases e : valE (due (asg rs st r)) i with
  | none => exact S.rng i g hg
  | some v =>
    have hm := valE_mem e
    cases ea : asg rs st r with
    | none =>
      rw [ea] at hm
      cases hm
    | some es =>
      rw [ea] at hm
      have h2 := ((asg_in ea).1 _ (show ((i : Int), v) ∈ es from hm)).2
      unfold inR at h2
      rw [Int.toNat_natCast, hg] at h2
      simp only [Bool.and_eq_true, decide_eq_true_eq] at h2
      exact h2
theorem st_eq {st : St1} {n : Nat} (h : st.length = n) : (List.range n).map (fun t : Nat => gt st (t : Int)) = st := by
  subst h
  refine List.ext_getElem (by simp) fun i h1 h2 => ?_
  rw [List.getElem_map, List.getElem_range]
  unfold gt
  rw [Int.toNat_natCast, List.getD_eq_getElem?_getD, List.getElem?_eq_getElem h2]
  rfl
/-! ### d.items(), sorted(..), d.get(k, x) -/
theorem e_items {c : Cd} {σ : L2.St} {H : Hp} {Q : VK} {o : Expr} {apos pos : Pos} (q : RE c o σ H fun x H1 => ∃ d kvs, x = .ref d ∧ H1 d = some (.dK kvs) ∧ ∀ v H2, Same H1 H2 → H1 v = none → H2 v = some (L2.DX.itemsO v d) → Q (.ref v) H2)
    (hbase : ∀ env, attributeBase o "items" env (eval o env) = eval o env := by intro _; rfl) (hline : (apos.endLine == pos.line) = true := by rfl) : RE c (.Call (.Attribute o "items" apos) [] [] pos) σ H Q := by
  refine e_bm0 PySem.F.plainAttrs_dict PySem.F.slot_dict_items PySem.F.type_dict_items (RE.mono (fun x H1 z => ?_) q) hbase hline
  obtain ⟨d, kvs, rfl, hd, k⟩ := z
  exact ⟨Or.inr (Or.inr (Or.inl ⟨rfl, Or.inl ⟨kvs, hd⟩⟩)), rm_of (fun X h => mt_itK) ⟨d, kvs, rfl, rfl, hd, fun v hv => k v _ (same_new hv) hv upd_same⟩⟩
theorem rc_soK {c : Cd} {H : Hp} {Q : VK} {v d : Addr} {es : List (Int × Int)} (hv : H v = some (L2.DX.itemsO v d)) (hd : H d = some (.dK (es.map kvE))) (q : ∀ l us H', Same H H' → H l = none → H' l = some (.lst us) → PrAll H' us (sortE es) → Q (.ref l) H') : RC c (.builtin "sorted") [.ref v] H Q :=
  rc_of (fun X h => cr_soK h.calm) ⟨v, d, es, rfl, hv, hd, q⟩
theorem e_get2 {c : Cd} {σ : L2.St} {H : Hp} {Q : VK} {o e f : Expr} {apos pos : Pos} (q : RE c o σ H fun x H1 => ∃ a, x = .ref a ∧ IsD H1 a ∧ RE c e σ H1 fun y H2 => RE c f σ H2 fun z H3 => ∃ ov, DGet H3 a y ov ∧ Q (ov.getD z) H3)
    (hbase : ∀ env, attributeBase o "get" env (eval o env) = eval o env := by intro _; rfl)
    (hfew : ∀ env, ((backTo pos (starEach [e, f] env)).all (fun x => !x.1) && (backToKw pos (keywordEach [] env)).all (fun x => x.1.isSome)
      && decide (([e, f] : List Expr).length + ([] : List Keyword).length + (if ([] : List Keyword).isEmpty then 0 else 1) < 30)) = true := by intro _; rfl)
    (hline : (apos.endLine == pos.line) = true := by rfl) (htr : ∀ env, backTo pos (starEach [e, f] env) = [(false, eval e env), (false, eval f env)] := by intro _; rfl) : RE c (.Call (.Attribute o "get" apos) [e, f] [] pos) σ H Q :=
  re_of (t := tDGet2 (RE c o) (RE c e) (RE c f)) (fun X h => pe_dget2 (by have := h.room.units; omega) (pe_re h) (pe_re h) (pe_re h) ⟨hbase _, hfew _, hline, htr _⟩) q
end K

namespace G
open PySem PySem.Spec PyProof.Rows L2
/-- a, b = x, y where a is a cell: the stores stand as they are written -/
theorem sw2c {x y : Str} {px py pt : Pos} {kt k2 pt2} {a b : Expr} {env : Env} (hx : env.scope.names.lookup x = some .cell) : swappedStores [.Tuple [.Name x px, .Name y py] kt pt] (.Tuple [a, b] k2 pt2) env = pure none := by
  have kx : env.kindOf x = some .cell := hx
  unfold swappedStores
  simp only [List.filterMap_cons, List.filterMap_nil, kx]
  repeat (first | rfl | split)
  all_goals (rename_i h; exact absurd h (by simp_all))
theorem s_asgC {c : Cd} {σ : L2.St} {H : Hp} {D : Ends} {pos : Pos} {tg e : Expr} (hw : ∀ env : Env, env.scope = c.sc → swappedStores [tg] e env = pure none) (q : RE c e σ H fun x H1 => RG c tg x σ H1 D.nx) (hs : ∀ env, swapsWithSole [tg] e pos.line env = pure false := by intro _; rfl)
    (h1 : ∀ env, (assignEach [tg] env).map (·.2) = [assign tg env] := by intro _; rfl) : RS c (.Assign [tg] e pos) D σ H := rs_of (fun X h => ps_asg (pe_re h) (pg_rg h) (hs _) (hw _ h.sc) (h1 _)) q
end G
namespace K
open PySem PySem.Spec PyProof.Rows L2 G
variable {M : Md}
theorem ro_eqSame {c : Cd} {H : Hp} {Q : VK} {x y : V} {d e : PyData} {n : Nat} (hx : Dt c.K H x d) (hy : Dt c.K H y e) (h : e = d) (s1 : Shp n d) (hn : n ≤ 64) (q : Q (.bl true) H) : RQ c .Eq x y H Q := by
  subst h
  refine ro_eqD hx.dp hy.dp (s1.ok hn) (s1.ok hn) ?_
  rw [PySem.SeqAt.eqv_refl _ s1.lay]
  exact q
theorem stShp (st : St1) : Shp 2 (stD st) := by
  refine shp_tup fun d hd => ?_
  obtain ⟨j, _, rfl⟩ := List.mem_map.mp hd
  exact shp_int j
set_option maxHeartbeats 2000000 in
theorem ok_bright {f fd} (F : Fun M.K "_law_behind_right" "_law_behind_right" s__law_behind_right f fd) (b : Bl M) (dbe : Dc M "behind" ["cells", "rule", "state"] 13 (spF rBeh M.K)) (dr : dcRng M) :
    FnOk M.prog M.w M.K M.mg M.base CX0 14 f fd ["_law_rows_here", "_law_rule_here", "_law_state", "_law_got"] (spBr M.K) := by
  refine fn_ok F sc__law_behind_right (fun vs H Q E h => ?_) (fun H vs Q E h => ?_)
  · obtain ⟨rs, r, st, vr, vl, vs0, vg, rfl, _⟩ := h
    rfl
  obtain ⟨rs, r, st, vr, vl, vst, vg, rfl, hr, hrl, hst, hz, S, R, k⟩ := h
  have st10 := S.tot
  have stl := S.len
  have lbl : (beh rs st r).length = st.length := beh_len
  refine b_cut (fun σ1 H' => ∃ v4 v5, σ1 = [some vr, some vl, some vst, some vg, some v4, some v5, none, none] ∧ Same H H' ∧ Dt M.K H' v4 (stD (beh rs st r)) ∧ Dt M.K H' v5 (.tuple (rngs rs))) ?_ ?_
  · refine s_asgC (fun env he => sw2c (by rw [he]; rfl)) ?_
    refine e_tupD ?_
    tm_at "go"
    refine e_callF dbe ?_
    tm_at "go"
    refine ⟨_, _, .cons hr (.cons hrl (.cons hst .nil)), ⟨rs, st, r, rfl, S, R, rfl⟩, fun v4 H1 s1 h4 => ?_⟩
    tm_at "go"
    refine e_callF dr ?_
    tm_at "go"
    refine ⟨_, _, .cons (hr.mono (tp_same s1)) .nil, ⟨rs, rfl, Nat.le_trans S.tot (by decide), rfl⟩, fun v5 H2 s2 h5 => ?_⟩
    tm_at "go"
    refine tupend (ds := [stD (beh rs st r), .tuple (rngs rs)]) (.cons (h4.mono (tp_same s2)) (.cons h5 .nil)) (Nat.le_of_ble_eq_true rfl) fun v6 H3 s3 h6 => ?_
    refine g_unp2 (by tm_at "at") (by tm_at "at") h6 fun v7 v8 h7 h8 => ?_
    exact ⟨_, _, rfl, s1.trans (s2.trans s3), h7, h8⟩
  rintro _ H1 ⟨v4, v5, rfl, s1, h4, h5⟩
  have hz1 := hz.mono (tp_same s1)
  -- the first test
  refine b_cut (fun σ1 H' => σ1 = [some vr, some vl, some vst, some vg, some v4, some v5, none, none] ∧ Same H1 H') ?_ ?_
  · tm_at "go"
    refine rc_lenT h4 ?_
    tm_at "go"
    refine rc_lenT (hst.mono (tp_same s1)) ?_
    tm_at "go"
    refine ifnF (by rw [List.length_map, List.length_map, lbl]) ?_
    tm_at "go"
    refine ifd (fun c1 => ?_) (fun c1 => ?_)
    · have ea : asg rs st r = none := by
        cases e : asg rs st r with
        | none => rfl
        | some es =>
          rw [e] at hz1
          obtain ⟨a, ob, us, e2, _⟩ := (show Fz M.K H1 vg (.tuple (es.map entD)) from hz1).tup
          rw [c1] at e2
          cases e2
      have eb : beh rs st r = st := by unfold beh; rw [ea]
      tm_at "go"
      refine ro_neSame h4 (hst.mono (tp_same s1)) (by rw [eb]) (stShp _) (by decide) ?_
      tm_at "go"
      exact ⟨rfl, Same.refl _⟩
    · tm_at "go"
      exact ⟨rfl, Same.refl _⟩
  rintro _ H2 ⟨rfl, s2⟩
  have s12 := s1.trans s2
  have h42 := h4.mono (tp_same s2)
  have h52 := h5.mono (tp_same s2)
  -- the second test
  refine b_cut (fun σ1 H' => σ1 = [some vr, some vl, some vst, some vg, some v4, some v5, none, none] ∧ Same H2 H') ?_ ?_
  · refine s_if (t_cmp ?_)
    refine e_lc (own := [("_law_k", 7)]) (Blk.of (N := N__law_behind_right) (sc := defScope s__law_behind_right) rfl rfl (by decide +kernel)) ?_
    refine lcR1_F (fun _ => none) b.range ?_
    tm_at "go"
    refine rc_lenT h42 ?_
    tm_at "go"
    refine ⟨by rw [List.length_map]; omega, fun t H' ht sH => ?_, fun p us H3 s3 n3 g3 h3 => ?_⟩
    · rw [List.length_map] at ht
      have ht2 : t < (rg rs).length := by rw [rg_len]; omega
      have hg := List.getElem?_eq_getElem ht2
      obtain ⟨lo, hi⟩ := beh_rng (r := r) S hg
      have hat : atI (rngs rs) (t : Int) = some (rngD (rg rs)[t]) := pl_at (j := t) (by omega) (by rw [rngs_eq, List.getElem?_map, hg]; rfl)
      have hat4 : atI ((beh rs st r).map PyData.int) (t : Int) = some (.int (gt (beh rs st r) t)) := by
        refine pl_at (j := t) (by omega) ?_
        rw [List.getElem?_map, List.getElem?_eq_getElem (by omega)]
        unfold gt
        rw [Int.toNat_natCast, List.getD_eq_getElem?_getD, List.getElem?_eq_getElem (by omega)]
        rfl
      refine g_name (by tm_at "at") ⟨rfl, rfl, ts_one ?_⟩
      tm_at "go"
      refine rx_tup (h52.mono (tp_same sH)) hat fun va ha => ?_
      tm_at "go"
      refine rx_int (h42.mono (tp_same sH)) hat4 ?_
      tm_at "go"
      refine ifT lo ?_
      tm_at "go"
      refine rx_tup (h52.mono (tp_same sH)) hat fun vb hb => ?_
      tm_at "go"
      exact ⟨Same.refl _, ifnF hi rfl⟩
    have e3 : (List.range ((((beh rs st r).map PyData.int).length : Nat) : Int).toNat).filterMap (fun t : Nat => (none : Option PyData)) = [] := by simp
    rw [e3] at h3
    refine e_lstD ?_
    tm_at "go"
    refine ⟨(Nat.le_of_ble_eq_true rfl), fun q0 H4 s4 n4 g4 => ?_⟩
    refine ro_neNil (n := 1) (s4 _ _ g3) (h3.mono (tp_same s4)) (fun d hd => nomatch hd) (by decide) g4 ?_
    tm_at "go"
    exact ⟨rfl, s3.trans s4⟩
  rintro _ H3 ⟨rfl, s3⟩
  have s13 := s12.trans s3
  have h43 := h42.mono (tp_same s3)
  have hz3 := hz.mono (tp_same s13)
  have hst3 := hst.mono (tp_same s13)
  -- the dict
  refine b_cut (fun σ1 H' => ∃ p, σ1 = [some vr, some vl, some vst, some vg, some v4, some v5, some (.ref p), none] ∧ Same H3 H' ∧ H' p = some (.dK ((due (asg rs st r)).map kvE))) ?_ ?_
  · tm_at "go"
    cases ea : asg rs st r with
    | none =>
      rw [ea] at hz3
      cases hz3.dt
      refine ifnF rfl ?_
      exact e_dnew fun p hp => ⟨p, rfl, same_new hp, upd_same⟩
    | some es =>
      rw [ea] at hz3
      obtain ⟨_, _, nd, _⟩ := asg_in ea
      obtain ⟨a, ob, us, rfl, hf, hb, hd⟩ := (show Fz M.K H3 vg (.tuple (es.map entD)) from hz3).tup
      refine ifnT (fun e => nomatch e) ?_
      tm_at "go"
      refine rc_dictE hf hb hd nd fun p H4 s4 n4 g4 => ?_
      exact ⟨p, rfl, s4, g4⟩
  rintro _ H4 ⟨p, rfl, s4, g4⟩
  have hz4 := hz3.mono (tp_same s4)
  -- the third test
  refine b_cut (fun σ1 H' => σ1 = [some vr, some vl, some vst, some vg, some v4, some v5, some (.ref p), none] ∧ Same H4 H') ?_ ?_
  · tm_at "go"
    cases ea : asg rs st r with
    | none =>
      rw [ea] at hz4
      cases hz4.dt
      refine ifnF rfl ?_
      tm_at "go"
      exact ⟨rfl, Same.refl _⟩
    | some es =>
      rw [ea] at hz4 g4
      obtain ⟨_, ne, nd, pw⟩ := asg_in ea
      have e5 : sortE es = es := (sortE_uniq (List.Perm.refl es) pw).symm
      have dz := hz4.dt
      obtain ⟨a, ob, us, rfl, hf, hb, hd⟩ := (show Fz M.K H4 vg (.tuple (es.map entD)) from hz4).tup
      refine ifnT (fun e => nomatch e) ?_
      tm_at "go"
      refine e_items ?_
      tm_at "go"
      refine ⟨p, _, rfl, g4, fun v H5 s5 n5 g5 => ?_⟩
      tm_at "go"
      refine rc_soK g5 (s5 _ _ g4) fun l us H6 s6 n6 g6 h6 => ?_
      tm_at "go"
      refine rc_tupL (.of g6) h6.dt fun v7 H7 s7 h7 => ?_
      have s47 := s5.trans (s6.trans s7)
      refine ro_neSame (dz.mono (tp_same s47)) h7 (by show PyData.tuple ((sortE es).map entD) = _; rw [e5]; rfl) (asgShp _) (by decide) ?_
      tm_at "go"
      refine e_tupD ?_
      tm_at "go"
      refine tupend (ds := []) .nil (Nat.le_of_ble_eq_true rfl) fun v8 H8 s8 h8 => ?_
      have sh0 : Shp 1 (.tuple []) := shp_tup fun d hd => nomatch hd
      refine ro_eqD (dz.mono (tp_same (s47.trans s8))).dp h8.dp ((asgShp _).ok (by decide)) (sh0.ok (by decide)) ?_
      have e8 : PyData.eqv (asgD (some es)) (.tuple []) = false := by
        cases es with
        | nil => exact absurd ne.symm (fun e => R.ne (List.eq_nil_of_length_eq_zero e))
        | cons q qs => rfl
      rw [e8]
      tm_at "go"
      exact ⟨rfl, s47.trans s8⟩
  rintro _ H5 ⟨rfl, s5⟩
  have s35 := s4.trans s5
  have g5 := s5 _ _ g4
  refine b_one (s_ret (e_cmp ?_))
  tm_at "go"
  refine e_lc (own := [("_law_k", 7)]) (Blk.of (N := N__law_behind_right) (sc := defScope s__law_behind_right) rfl rfl (by decide +kernel)) ?_
  refine lcR1_F (fun j => some (.int (gt (beh rs st r) j))) b.range ?_
  tm_at "go"
  refine rc_lenT (hst3.mono (tp_same s35)) ?_
  tm_at "go"
  refine ⟨by rw [List.length_map]; omega, fun t H' ht sH => ?_, fun l us H6 s6 n6 g6 h6 => ?_⟩
  · rw [List.length_map] at ht
    refine g_name (by tm_at "at") ⟨rfl, rfl, ts_nil ⟨Same.refl _, ift ?_⟩⟩
    refine e_get2 ?_
    tm_at "go"
    refine ⟨.inl ⟨_, .inl (sH _ _ g5)⟩, ?_⟩
    tm_at "go"
    refine rx_int (hst3.mono (tp_same (s35.trans sH))) (gt_at S (by omega) (by omega)) ?_
    refine ⟨_, DGet.k (k := Sum.inl (t : Int)) (sH _ _ g5), Same.refl _, _, rfl, ?_⟩
    rw [valV_kvE, beh_gt S (by omega)]
    cases valE (due (asg rs st r)) t <;> exact .int _
  · have e6 : (List.range ((((st.map PyData.int).length : Nat) : Int)).toNat).filterMap (fun t : Nat => (some (.int (gt (beh rs st r) (t : Int))) : Option PyData)) = (beh rs st r).map .int := by
      rw [List.length_map, Int.toNat_natCast]
      have e7 := st_eq (st := beh rs st r) (n := st.length) lbl
      have e9 : (List.range st.length).filterMap (fun t : Nat => (some (.int (gt (beh rs st r) (t : Int))) : Option PyData)) = ((List.range st.length).map fun t : Nat => gt (beh rs st r) (t : Int)).map .int := by
        rw [List.map_map, ← List.filterMap_eq_map]
        rfl
      rw [e9, e7]
    rw [e6] at h6
    tm_at "go"
    refine rc_tupL (.of g6) h6 fun v7 H7 s7 h7 => ?_
    refine ro_eqSame (h43.mono (tp_same (s35.trans (s6.trans s7)))) h7 rfl (stShp _) (by decide) ?_
    exact k _ (s13.trans (s35.trans (s6.trans s7)))
end K

namespace K
open PySem PySem.Spec PyProof.Rows L2 G
theorem fun_of {F : PySem.W.Frag} {x : Str} {st : Stmt} {f : Addr} {fd : FuncData} {kws : List (Str × V)} (z : FunD F x x (defArgs st) (defBody st) (defScope st) [] kws f fd) : Fun F x x st f fd := by
  obtain ⟨oc, od, dV, kV, doc, pm, an, cdv, ct, osl, e, lk, hcd, hD, _⟩ := z.ex
  rcases hD with ⟨_, rfl⟩ | ⟨h, _⟩
  · exact ⟨⟨oc, od, kV, doc, pm, an, cdv, ct, osl, e, lk, hcd⟩, z.kp⟩
  · exact absurd rfl h
theorem dc_of {M : Md} {x : Str} {st : Stmt} {f : Addr} {fd : FuncData} {ps : List Str} {k : Nat} {sp : Sp} (z : FunD M.K x x (defArgs st) (defBody st) (defScope st) [] [] f fd) (hm : M.mg x = some (.ref f))
    (hb : ∀ (kV doc pm : Value) (an : Option Addr) (cdv ct : Value) (us : List Value), us.length = ps.length → bindArgs (PySem.W.fnOf x x (defArgs st) (defBody st) (defScope st) .none kV doc pm an cdv ct) ⟨us, []⟩ = pure (ps.zip us))
    (ok : Fun M.K x x st f fd → FnOk M.prog M.w M.K M.mg M.base CX0 k f fd ps sp) : Dc M x ps k sp := ⟨f, fd, ok (fun_of z), hm, z.kp, z.bindsN hb⟩
set_option maxHeartbeats 4000000 in
theorem whole {M : Md} (b : Bl M) (lz : Lz M) (D : ∀ (i : Nat) (d : He.DefD), fns[i]? = some d → ∃ fd, FunD M.K d.name d.qual d.params d.body d.scope (d.dvs M.K) (d.kws M.K) (He.fAd M.K d.at_) fd) (g : ∀ (i : Nat) (x : Str), fas[i]? = some (.glo x) → M.mg x = some (.ref (He.ga M.K x)))
    {fd : FuncData} (zl : FunD M.K "law" "law" (defArgs s_law) (defBody s_law) (defScope s_law) [] [] (He.ga M.K "law") fd) : FnOk M.prog M.w M.K M.mg M.base CX0 16 (He.ga M.K "law") fd ["_law_script"] (spLaw M.K) := by
  obtain ⟨w_row_width, z_row_width⟩ : ∃ fd, FunD M.K "row_width" "row_width" (defArgs s_row_width) (defBody s_row_width) (defScope s_row_width) [] [] (He.ga M.K "row_width") fd := D 0 _ rfl
  have m_row_width : M.mg "row_width" = some (.ref (He.ga M.K "row_width")) := g 0 _ rfl
  obtain ⟨w_cell_ranges, z_cell_ranges⟩ : ∃ fd, FunD M.K "cell_ranges" "cell_ranges" (defArgs s_cell_ranges) (defBody s_cell_ranges) (defScope s_cell_ranges) [] [] (He.ga M.K "cell_ranges") fd := D 1 _ rfl
  have m_cell_ranges : M.mg "cell_ranges" = some (.ref (He.ga M.K "cell_ranges")) := g 1 _ rfl
  obtain ⟨w_found_index, z_found_index⟩ : ∃ fd, FunD M.K "found_index" "found_index" (defArgs s_found_index) (defBody s_found_index) (defScope s_found_index) [] [] (He.ga M.K "found_index") fd := D 2 _ rfl
  have m_found_index : M.mg "found_index" = some (.ref (He.ga M.K "found_index")) := g 2 _ rfl
  obtain ⟨w_cell_index, z_cell_index⟩ : ∃ fd, FunD M.K "cell_index" "cell_index" (defArgs s_cell_index) (defBody s_cell_index) (defScope s_cell_index) [] [("key", V.non)] (He.ga M.K "cell_index") fd := D 3 _ rfl
  have m_cell_index : M.mg "cell_index" = some (.ref (He.ga M.K "cell_index")) := g 3 _ rfl
  obtain ⟨w_value_in, z_value_in⟩ : ∃ fd, FunD M.K "value_in" "value_in" (defArgs s_value_in) (defBody s_value_in) (defScope s_value_in) [] [] (He.ga M.K "value_in") fd := D 4 _ rfl
  have m_value_in : M.mg "value_in" = some (.ref (He.ga M.K "value_in")) := g 4 _ rfl
  obtain ⟨w_looked_at, z_looked_at⟩ : ∃ fd, FunD M.K "looked_at" "looked_at" (defArgs s_looked_at) (defBody s_looked_at) (defScope s_looked_at) [] [] (He.ga M.K "looked_at") fd := D 5 _ rfl
  have m_looked_at : M.mg "looked_at" = some (.ref (He.ga M.K "looked_at")) := g 5 _ rfl
  obtain ⟨w_first_looks, z_first_looks⟩ : ∃ fd, FunD M.K "first_looks" "first_looks" (defArgs s_first_looks) (defBody s_first_looks) (defScope s_first_looks) [] [] (He.ga M.K "first_looks") fd := D 6 _ rfl
  have m_first_looks : M.mg "first_looks" = some (.ref (He.ga M.K "first_looks")) := g 6 _ rfl
  obtain ⟨w_evaluated, z_evaluated⟩ : ∃ fd, FunD M.K "evaluated" "evaluated" (defArgs s_evaluated) (defBody s_evaluated) (defScope s_evaluated) [] [] (He.ga M.K "evaluated") fd := D 7 _ rfl
  have m_evaluated : M.mg "evaluated" = some (.ref (He.ga M.K "evaluated")) := g 7 _ rfl
  obtain ⟨w_keyed_index, z_keyed_index⟩ : ∃ fd, FunD M.K "keyed_index" "keyed_index" (defArgs s_keyed_index) (defBody s_keyed_index) (defScope s_keyed_index) [] [] (He.ga M.K "keyed_index") fd := D 8 _ rfl
  have m_keyed_index : M.mg "keyed_index" = some (.ref (He.ga M.K "keyed_index")) := g 8 _ rfl
  obtain ⟨w__lazy_value, z__lazy_value⟩ : ∃ fd, FunD M.K "_lazy_value" "_lazy_value" (defArgs s__lazy_value) (defBody s__lazy_value) (defScope s__lazy_value) [] [] (He.ga M.K "_lazy_value") fd := D 9 _ rfl
  have m__lazy_value : M.mg "_lazy_value" = some (.ref (He.ga M.K "_lazy_value")) := g 9 _ rfl
  obtain ⟨w__full_value, z__full_value⟩ : ∃ fd, FunD M.K "_full_value" "_full_value" (defArgs s__full_value) (defBody s__full_value) (defScope s__full_value) [] [] (He.ga M.K "_full_value") fd := D 10 _ rfl
  have m__full_value : M.mg "_full_value" = some (.ref (He.ga M.K "_full_value")) := g 10 _ rfl
  obtain ⟨w__of_one, z__of_one⟩ : ∃ fd, FunD M.K "_of_one" "_of_one" (defArgs s__of_one) (defBody s__of_one) (defScope s__of_one) [] [] (He.ga M.K "_of_one") fd := D 11 _ rfl
  have m__of_one : M.mg "_of_one" = some (.ref (He.ga M.K "_of_one")) := g 11 _ rfl
  obtain ⟨w_value_of_two, z_value_of_two⟩ : ∃ fd, FunD M.K "value_of_two" "value_of_two" (defArgs s_value_of_two) (defBody s_value_of_two) (defScope s_value_of_two) [] [] (He.ga M.K "value_of_two") fd := D 12 _ rfl
  have m_value_of_two : M.mg "value_of_two" = some (.ref (He.ga M.K "value_of_two")) := g 12 _ rfl
  obtain ⟨w__compared, z__compared⟩ : ∃ fd, FunD M.K "_compared" "_compared" (defArgs s__compared) (defBody s__compared) (defScope s__compared) [] [] (He.ga M.K "_compared") fd := D 13 _ rfl
  have m__compared : M.mg "_compared" = some (.ref (He.ga M.K "_compared")) := g 13 _ rfl
  obtain ⟨w_assigned, z_assigned⟩ : ∃ fd, FunD M.K "assigned" "assigned" (defArgs s_assigned) (defBody s_assigned) (defScope s_assigned) [] [] (He.ga M.K "assigned") fd := D 14 _ rfl
  have m_assigned : M.mg "assigned" = some (.ref (He.ga M.K "assigned")) := g 14 _ rfl
  obtain ⟨w_behind, z_behind⟩ : ∃ fd, FunD M.K "behind" "behind" (defArgs s_behind) (defBody s_behind) (defScope s_behind) [] [] (He.ga M.K "behind") fd := D 15 _ rfl
  have m_behind : M.mg "behind" = some (.ref (He.ga M.K "behind")) := g 15 _ rfl
  obtain ⟨w_with_assigned, z_with_assigned⟩ : ∃ fd, FunD M.K "with_assigned" "with_assigned" (defArgs s_with_assigned) (defBody s_with_assigned) (defScope s_with_assigned) [] [] (He.ga M.K "with_assigned") fd := D 16 _ rfl
  have m_with_assigned : M.mg "with_assigned" = some (.ref (He.ga M.K "with_assigned")) := g 16 _ rfl
  obtain ⟨w_looks_of, z_looks_of⟩ : ∃ fd, FunD M.K "looks_of" "looks_of" (defArgs s_looks_of) (defBody s_looks_of) (defScope s_looks_of) [] [] (He.ga M.K "looks_of") fd := D 17 _ rfl
  have m_looks_of : M.mg "looks_of" = some (.ref (He.ga M.K "looks_of")) := g 17 _ rfl
  obtain ⟨w__worked_out, z__worked_out⟩ : ∃ fd, FunD M.K "_worked_out" "_worked_out" (defArgs s__worked_out) (defBody s__worked_out) (defScope s__worked_out) [] [] (He.ga M.K "_worked_out") fd := D 18 _ rfl
  have m__worked_out : M.mg "_worked_out" = some (.ref (He.ga M.K "_worked_out")) := g 18 _ rfl
  obtain ⟨w__target_index, z__target_index⟩ : ∃ fd, FunD M.K "_target_index" "_target_index" (defArgs s__target_index) (defBody s__target_index) (defScope s__target_index) [] [] (He.ga M.K "_target_index") fd := D 19 _ rfl
  have m__target_index : M.mg "_target_index" = some (.ref (He.ga M.K "_target_index")) := g 19 _ rfl
  obtain ⟨w__law_feed, z__law_feed⟩ : ∃ fd, FunD M.K "_law_feed" "_law_feed" (defArgs s__law_feed) (defBody s__law_feed) (defScope s__law_feed) [] [] (He.ga M.K "_law_feed") fd := D 20 _ rfl
  have m__law_feed : M.mg "_law_feed" = some (.ref (He.ga M.K "_law_feed")) := g 20 _ rfl
  obtain ⟨w__law_draw, z__law_draw⟩ : ∃ fd, FunD M.K "_law_draw" "_law_draw" (defArgs s__law_draw) (defBody s__law_draw) (defScope s__law_draw) [] [] (He.ga M.K "_law_draw") fd := D 21 _ rfl
  have m__law_draw : M.mg "_law_draw" = some (.ref (He.ga M.K "_law_draw")) := g 21 _ rfl
  obtain ⟨w__law_plans, z__law_plans⟩ : ∃ fd, FunD M.K "_law_plans" "_law_plans" (defArgs s__law_plans) (defBody s__law_plans) (defScope s__law_plans) [] [] (He.ga M.K "_law_plans") fd := D 22 _ rfl
  have m__law_plans : M.mg "_law_plans" = some (.ref (He.ga M.K "_law_plans")) := g 22 _ rfl
  obtain ⟨w__law_ranges, z__law_ranges⟩ : ∃ fd, FunD M.K "_law_ranges" "_law_ranges" (defArgs s__law_ranges) (defBody s__law_ranges) (defScope s__law_ranges) [] [] (He.ga M.K "_law_ranges") fd := D 23 _ rfl
  have m__law_ranges : M.mg "_law_ranges" = some (.ref (He.ga M.K "_law_ranges")) := g 23 _ rfl
  obtain ⟨w__law_states, z__law_states⟩ : ∃ fd, FunD M.K "_law_states" "_law_states" (defArgs s__law_states) (defBody s__law_states) (defScope s__law_states) [] [] (He.ga M.K "_law_states") fd := D 24 _ rfl
  have m__law_states : M.mg "_law_states" = some (.ref (He.ga M.K "_law_states")) := g 24 _ rfl
  obtain ⟨w__law_some, z__law_some⟩ : ∃ fd, FunD M.K "_law_some" "_law_some" (defArgs s__law_some) (defBody s__law_some) (defScope s__law_some) [] [] (He.ga M.K "_law_some") fd := D 25 _ rfl
  have m__law_some : M.mg "_law_some" = some (.ref (He.ga M.K "_law_some")) := g 25 _ rfl
  obtain ⟨w__law_power, z__law_power⟩ : ∃ fd, FunD M.K "_law_power" "_law_power" (defArgs s__law_power) (defBody s__law_power) (defScope s__law_power) [] [] (He.ga M.K "_law_power") fd := D 26 _ rfl
  have m__law_power : M.mg "_law_power" = some (.ref (He.ga M.K "_law_power")) := g 26 _ rfl
  obtain ⟨w__law_menu, z__law_menu⟩ : ∃ fd, FunD M.K "_law_menu" "_law_menu" (defArgs s__law_menu) (defBody s__law_menu) (defScope s__law_menu) [] [] (He.ga M.K "_law_menu") fd := D 27 _ rfl
  have m__law_menu : M.mg "_law_menu" = some (.ref (He.ga M.K "_law_menu")) := g 27 _ rfl
  obtain ⟨w__law_rows, z__law_rows⟩ : ∃ fd, FunD M.K "_law_rows" "_law_rows" (defArgs s__law_rows) (defBody s__law_rows) (defScope s__law_rows) [] [] (He.ga M.K "_law_rows") fd := D 28 _ rfl
  have m__law_rows : M.mg "_law_rows" = some (.ref (He.ga M.K "_law_rows")) := g 28 _ rfl
  obtain ⟨w__law_leaf, z__law_leaf⟩ : ∃ fd, FunD M.K "_law_leaf" "_law_leaf" (defArgs s__law_leaf) (defBody s__law_leaf) (defScope s__law_leaf) [] [] (He.ga M.K "_law_leaf") fd := D 29 _ rfl
  have m__law_leaf : M.mg "_law_leaf" = some (.ref (He.ga M.K "_law_leaf")) := g 29 _ rfl
  obtain ⟨w__law_formula, z__law_formula⟩ : ∃ fd, FunD M.K "_law_formula" "_law_formula" (defArgs s__law_formula) (defBody s__law_formula) (defScope s__law_formula) [] [] (He.ga M.K "_law_formula") fd := D 30 _ rfl
  have m__law_formula : M.mg "_law_formula" = some (.ref (He.ga M.K "_law_formula")) := g 30 _ rfl
  obtain ⟨w__law_goal, z__law_goal⟩ : ∃ fd, FunD M.K "_law_goal" "_law_goal" (defArgs s__law_goal) (defBody s__law_goal) (defScope s__law_goal) [] [] (He.ga M.K "_law_goal") fd := D 31 _ rfl
  have m__law_goal : M.mg "_law_goal" = some (.ref (He.ga M.K "_law_goal")) := g 31 _ rfl
  obtain ⟨w__law_rule, z__law_rule⟩ : ∃ fd, FunD M.K "_law_rule" "_law_rule" (defArgs s__law_rule) (defBody s__law_rule) (defScope s__law_rule) [] [] (He.ga M.K "_law_rule") fd := D 32 _ rfl
  have m__law_rule : M.mg "_law_rule" = some (.ref (He.ga M.K "_law_rule")) := g 32 _ rfl
  obtain ⟨w__law_samples, z__law_samples⟩ : ∃ fd, FunD M.K "_law_samples" "_law_samples" (defArgs s__law_samples) (defBody s__law_samples) (defScope s__law_samples) [] [] (He.ga M.K "_law_samples") fd := D 33 _ rfl
  have m__law_samples : M.mg "_law_samples" = some (.ref (He.ga M.K "_law_samples")) := g 33 _ rfl
  obtain ⟨w__law_agree, z__law_agree⟩ : ∃ fd, FunD M.K "_law_agree" "_law_agree" (defArgs s__law_agree) (defBody s__law_agree) (defScope s__law_agree) [] [] (He.ga M.K "_law_agree") fd := D 34 _ rfl
  have m__law_agree : M.mg "_law_agree" = some (.ref (He.ga M.K "_law_agree")) := g 34 _ rfl
  obtain ⟨w__law_looks_plain, z__law_looks_plain⟩ : ∃ fd, FunD M.K "_law_looks_plain" "_law_looks_plain" (defArgs s__law_looks_plain) (defBody s__law_looks_plain) (defScope s__law_looks_plain) [] [] (He.ga M.K "_law_looks_plain") fd := D 35 _ rfl
  have m__law_looks_plain : M.mg "_law_looks_plain" = some (.ref (He.ga M.K "_law_looks_plain")) := g 35 _ rfl
  obtain ⟨w__law_formula_right, z__law_formula_right⟩ : ∃ fd, FunD M.K "_law_formula_right" "_law_formula_right" (defArgs s__law_formula_right) (defBody s__law_formula_right) (defScope s__law_formula_right) [] [] (He.ga M.K "_law_formula_right") fd := D 36 _ rfl
  have m__law_formula_right : M.mg "_law_formula_right" = some (.ref (He.ga M.K "_law_formula_right")) := g 36 _ rfl
  obtain ⟨w__law_rule_right, z__law_rule_right⟩ : ∃ fd, FunD M.K "_law_rule_right" "_law_rule_right" (defArgs s__law_rule_right) (defBody s__law_rule_right) (defScope s__law_rule_right) [] [] (He.ga M.K "_law_rule_right") fd := D 37 _ rfl
  have m__law_rule_right : M.mg "_law_rule_right" = some (.ref (He.ga M.K "_law_rule_right")) := g 37 _ rfl
  obtain ⟨w__law_behind_right, z__law_behind_right⟩ : ∃ fd, FunD M.K "_law_behind_right" "_law_behind_right" (defArgs s__law_behind_right) (defBody s__law_behind_right) (defScope s__law_behind_right) [] [] (He.ga M.K "_law_behind_right") fd := D 38 _ rfl
  have m__law_behind_right : M.mg "_law_behind_right" = some (.ref (He.ga M.K "_law_behind_right")) := g 38 _ rfl
  have dw := dc_of (st := s_row_width) z_row_width m_row_width (fun _ _ _ _ _ _ us hl => match us, hl with | [_], _ => rfl) (fun F => ok_width F b)
  have dfi := dc_of (st := s_found_index) z_found_index m_found_index (fun _ _ _ _ _ _ us hl => match us, hl with | [_, _, _], _ => rfl) (fun F => ok_found F dw)
  have dr := dc_of (st := s_cell_ranges) z_cell_ranges m_cell_ranges (fun _ _ _ _ _ _ us hl => match us, hl with | [_], _ => rfl) (fun F => ok_ranges F b dw)
  have dcm := dc_of (st := s__compared) z__compared m__compared (fun _ _ _ _ _ _ us hl => match us, hl with | [_, _, _], _ => rfl) (fun F => ok_cmp F b)
  have d1 := dc_of (st := s__of_one) z__of_one m__of_one (fun _ _ _ _ _ _ us hl => match us, hl with | [_, _], _ => rfl) (fun F => ok_one F b)
  have d2 := dc_of (st := s_value_of_two) z_value_of_two m_value_of_two (fun _ _ _ _ _ _ us hl => match us, hl with | [_, _, _], _ => rfl) (fun F => ok_two F b dcm)
  obtain ⟨ixd, ixv, ixb⟩ := z_cell_index.binds0 (ps := ["cells", "name", "key"]) 2 (by simp) rfl (fun Dk doc pm an cdv ct us ks hu hk => match us, ks, hu, hk with | [_, _], [_], _, _ => ⟨_, _, _, _, _, _, rfl, rfl, rfl⟩)
  have dx : dcIx M := ⟨_, _, ixd, ok_index (fun_of z_cell_index) b dfi, m_cell_index, z_cell_index.kp, ixb, ixv⟩
  have de : ∀ n, dcEv M n := fun n => Nat.rec (motive := fun n => dcEv M n) (dc_of (st := s_evaluated) z_evaluated m_evaluated (fun _ _ _ _ _ _ us hl => match us, hl with | [_, _, _], _ => rfl) (fun F => ok_ev 0 F b lz dx (fun m h => by omega))) (fun n ih => dc_of (st := s_evaluated) z_evaluated m_evaluated (fun _ _ _ _ _ _ us hl => match us, hl with | [_, _, _], _ => rfl) (fun F => ok_ev (n + 1) F b lz dx (fun m h => match m, Nat.succ.inj h with | _, rfl => ⟨dc_of (st := s_keyed_index) z_keyed_index m_keyed_index (fun _ _ _ _ _ _ us hl => match us, hl with | [_, _, _, _], _ => rfl) (fun F => ok_keyed n F b dfi ih), dc_of (st := s__lazy_value) z__lazy_value m__lazy_value (fun _ _ _ _ _ _ us hl => match us, hl with | [_, _, _], _ => rfl) (fun F => ok_lazy n F b ih), dc_of (st := s__full_value) z__full_value m__full_value (fun _ _ _ _ _ _ us hl => match us, hl with | [_, _, _], _ => rfl) (fun F => ok_full n F b ih d1 d2)⟩))) n
  have dfl := dc_of (st := s_first_looks) z_first_looks m_first_looks (fun _ _ _ _ _ _ us hl => match us, hl with | [_, _], _ => rfl) (fun F => ok_first F b)
  have dv := dc_of (st := s_value_in) z_value_in m_value_in (fun _ _ _ _ _ _ us hl => match us, hl with | [_, _, _], _ => rfl) (fun F => ok_value 3 F b (de 3))
  have dl := dc_of (st := s_looked_at) z_looked_at m_looked_at (fun _ _ _ _ _ _ us hl => match us, hl with | [_, _, _], _ => rfl) (fun F => ok_looked 3 F b (de 3) dfl)
  have dk2 := dc_of (st := s_keyed_index) z_keyed_index m_keyed_index (fun _ _ _ _ _ _ us hl => match us, hl with | [_, _, _, _], _ => rfl) (fun F => ok_keyed 2 F b dfi (de 2))
  have dtg := dc_of (st := s__target_index) z__target_index m__target_index (fun _ _ _ _ _ _ us hl => match us, hl with | [_, _, _], _ => rfl) (fun F => ok_tgt F b dfi dk2)
  have dwk := dc_of (st := s__worked_out) z__worked_out m__worked_out (fun _ _ _ _ _ _ us hl => match us, hl with | [_, _, _], _ => rfl) (fun F => ok_work F b (de 2) dtg)
  have das := dc_of (st := s_assigned) z_assigned m_assigned (fun _ _ _ _ _ _ us hl => match us, hl with | [_, _, _], _ => rfl) (fun F => ok_assigned F b dwk dr)
  have dwa := dc_of (st := s_with_assigned) z_with_assigned m_with_assigned (fun _ _ _ _ _ _ us hl => match us, hl with | [_, _], _ => rfl) (fun F => ok_wa F b)
  have dbe := dc_of (st := s_behind) z_behind m_behind (fun _ _ _ _ _ _ us hl => match us, hl with | [_, _, _], _ => rfl) (fun F => ok_behind F b das dwa)
  have dlo := dc_of (st := s_looks_of) z_looks_of m_looks_of (fun _ _ _ _ _ _ us hl => match us, hl with | [_, _, _], _ => rfl) (fun F => ok_lof F b dwk dfl)
  have dfe := dc_of (st := s__law_feed) z__law_feed m__law_feed (fun _ _ _ _ _ _ us hl => match us, hl with | [_], _ => rfl) (fun F => ok_feed F b)
  have dd := dc_of (st := s__law_draw) z__law_draw m__law_draw (fun _ _ _ _ _ _ us hl => match us, hl with | [_, _], _ => rfl) (fun F => ok_draw F b)
  have dpl := dc_of (st := s__law_plans) z__law_plans m__law_plans (fun _ _ _ _ _ _ us hl => match us, hl with | [], _ => rfl) (fun F => ok_plans F b)
  have dlr := dc_of (st := s__law_ranges) z__law_ranges m__law_ranges (fun _ _ _ _ _ _ us hl => match us, hl with | [_], _ => rfl) (fun F => ok_lranges F b)
  have dst := dc_of (st := s__law_states) z__law_states m__law_states (fun _ _ _ _ _ _ us hl => match us, hl with | [_], _ => rfl) (fun F => ok_states F b dlr)
  have dso := dc_of (st := s__law_some) z__law_some m__law_some (fun _ _ _ _ _ _ us hl => match us, hl with | [_, _], _ => rfl) (fun F => ok_some F b)
  have dpw := dc_of (st := s__law_power) z__law_power m__law_power (fun _ _ _ _ _ _ us hl => match us, hl with | [_, _], _ => rfl) (fun F => ok_power F b)
  have dme := dc_of (st := s__law_menu) z__law_menu m__law_menu (fun _ _ _ _ _ _ us hl => match us, hl with | [_], _ => rfl) (fun F => ok_menu F b dd)
  have dro := dc_of (st := s__law_rows) z__law_rows m__law_rows (fun _ _ _ _ _ _ us hl => match us, hl with | [_, _], _ => rfl) (fun F => ok_rows F b dd dme dpw)
  have dle := dc_of (st := s__law_leaf) z__law_leaf m__law_leaf (fun _ _ _ _ _ _ us hl => match us, hl with | [_, _], _ => rfl) (fun F => ok_leaf F b dd)
  have dfo : ∀ n, dcForm M n := fun n => Nat.rec (motive := fun n => dcForm M n) (dc_of (st := s__law_formula) z__law_formula m__law_formula (fun _ _ _ _ _ _ us hl => match us, hl with | [_, _, _], _ => rfl) (fun F => ok_form 0 F b dd dle dpl (fun m h => by omega))) (fun n ih => dc_of (st := s__law_formula) z__law_formula m__law_formula (fun _ _ _ _ _ _ us hl => match us, hl with | [_, _, _], _ => rfl) (fun F => ok_form (n + 1) F b dd dle dpl (fun m h => match m, Nat.succ.inj h with | _, rfl => ih))) n
  have dgo := dc_of (st := s__law_goal) z__law_goal m__law_goal (fun _ _ _ _ _ _ us hl => match us, hl with | [_, _], _ => rfl) (fun F => ok_goal F b dd (dfo 1))
  have dru := dc_of (st := s__law_rule) z__law_rule m__law_rule (fun _ _ _ _ _ _ us hl => match us, hl with | [_, _, _], _ => rfl) (fun F => ok_rule F b dd (dfo 2) dgo)
  have dsm := dc_of (st := s__law_samples) z__law_samples m__law_samples (fun _ _ _ _ _ _ us hl => match us, hl with | [], _ => rfl) (fun F => ok_samples F b)
  have dag := dc_of (st := s__law_agree) z__law_agree m__law_agree (fun _ _ _ _ _ _ us hl => match us, hl with | [_, _], _ => rfl) (fun F => ok_agree F b)
  have dpn := dc_of (st := s__law_looks_plain) z__law_looks_plain m__law_looks_plain (fun _ _ _ _ _ _ us hl => match us, hl with | [_, _], _ => rfl) (fun F => ok_plain F b dag)
  have dfr := dc_of (st := s__law_formula_right) z__law_formula_right m__law_formula_right (fun _ _ _ _ _ _ us hl => match us, hl with | [_, _, _], _ => rfl) (fun F => ok_fright F b dag dpn dv dl)
  have dbr := dc_of (st := s__law_behind_right) z__law_behind_right m__law_behind_right (fun _ _ _ _ _ _ us hl => match us, hl with | [_, _, _, _], _ => rfl) (fun F => ok_bright F b dbe dr)
  have drr := dc_of (st := s__law_rule_right) z__law_rule_right m__law_rule_right (fun _ _ _ _ _ _ us hl => match us, hl with | [_, _, _], _ => rfl) (fun F => ok_rright F b dag dpn das dlo dbr)
  exact ok_law (fun_of zl) b dfe dsm dro dru dst dso (dfo 3) drr dfr
end K

namespace K
open PySem PySem.Spec PyProof.Rows L2 G
theorem facts {P : Program} {w : World} {F : PySem.W.Frag} {h : Heap} {mg : Str → Option Value} {f : Addr} (X : F.In h) (N : h.Ns mainGlobals mg) (hf : mg ("law" : Str) = some (.ref f)) (c : He.SaysD fas fns F) (tl : He.tupB F "LAZY" lazyD = true) :
    ∃ fd : FuncData, (∀ (s : Shared) (v : Value), BindsTo s fd ⟨[v], []⟩ [("_law_script", v)]) ∧ ∀ base : Heap, F.In base → base.Ns mainGlobals mg → FnOk P w F mg base CX0 16 f fd ["_law_script"] (spLaw F) := by
  have glo : ∀ (i : Nat) (x : Str), fas[i]? = some (.glo x) → mg x = some (.ref (He.ga F x)) := fun i x hx => He.glo_ok X N (c.fact i hx)
  have fre : ∀ (i : Nat) (x : Str), fas[i]? = some (.free x) → mg x = none := fun i x hx => He.free_ok X N (c.fact i hx)
  obtain ⟨fd, zl⟩ : ∃ fd, FunD F "law" "law" (defArgs s_law) (defBody s_law) (defScope s_law) [] [] (He.ga F "law") fd := c.def_ 39 rfl
  have e := hf.symm.trans (glo 39 _ rfl)
  cases e
  refine ⟨fd, fun s v => FunD.bindsA (ps := ["_law_script"]) zl (fun _ _ _ _ _ _ us hl => match us, hl with | [_], _ => rfl) s [v] rfl, fun base _ _ => ?_⟩
  exact whole (M := ⟨P, w, F, mg, base⟩) ⟨fre 40 _ rfl, fre 41 _ rfl, fre 42 _ rfl, fre 43 _ rfl, fre 44 _ rfl, fre 45 _ rfl, fre 46 _ rfl, fre 47 _ rfl, fre 48 _ rfl, fre 49 _ rfl, fre 50 _ rfl, fre 51 _ rfl, fre 52 _ rfl⟩
    ⟨_, glo 53 _ rfl, fun H => He.tupB_ok tl H⟩ (fun i d hd => c.def_ i hd) glo zl
end K
open PySem PySem.W PySem.Calls PyProof.Rows
set_option maxHeartbeats 0 in
theorem PySem.Challenge.cw_orderless_k09_whole_looks_decide_holds : PySem.Challenge.rw_orderless_k09_whole_looks_decide.Holds := by
  w_on; o_law
  refine HandSHeadRun.head_any (r := K.Rw) (q := view K.Rw.prog [K.lawAt]) (H := K.ownHook) (ob := K.obT) (M := 9000) (loose := K.loose) (d := HandSHeadRun.topDef K.Rw.prog K.lawAt) (kwd := []) K.obT_eq
    (by kernel_rfl) (fun s => by kernel_rfl) K.topRun (by kernel_rfl) (by kernel_rfl) (by kernel_rfl) (by rfl) (by first | assumption | decide +kernel) (by decide +kernel) ⟨rfl, rfl, rfl, rfl, rfl, by decide +kernel⟩ ?hw ?hc
  case hw => w_witness2
  case hc =>
    refine L2.walk_ofE (l := PySem.Challenge.rw_orderless_k09_whole_looks_decide) (n := 63) (k := 16) (x := "_law_script") (CX := L2.CX0) rfl (by decide) (by kernel_rfl) ⟨rfl, by decide, by decide⟩ ?F (fun _ _ _ _ z => z)
    intro w mg fa h Y N hmg0
    obtain ⟨F, FX, c, tl⟩ := Y
    have nm : (HandSHeadRun.topDef K.Rw.prog K.lawAt).name = ("law" : PySem.Str) := by kernel_rfl
    rw [nm] at hmg0
    obtain ⟨fd, hb, ok⟩ := K.facts (P := PySem.Challenge.rw_orderless_k09_whole_looks_decide.prog) (w := w) FX N hmg0 c tl
    exact ⟨F, fd, K.spLaw F, FX, hb, fun H a ns few _ is => ⟨a, ns, rfl, is, few, fun _ => rfl⟩, ok⟩

