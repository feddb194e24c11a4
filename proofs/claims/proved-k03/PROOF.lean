import PyProof.Rows.All
import Wide.All
import OpenK.AllK
import Wide.FinOn
import KE.KStateDown
import HandS.Ends
import HandS.Exc
import HandS.WordsExc
import HandS.Defaults
import HandS.Head0
import HandS.Head1
import HandS.Head2
import HandS.HeadHook1
import HandS.HeadHook2
import HandS.HeadHook4
import HandS.ExcInit
import HandS.ExcField
import HandS.ExcIs
import HandS.Base
import HandS.Call
import HandS.List
import HandS.Comp
import HandS.Dict
import HandS.Iter
import HandS.Words
import HandS.IsInst
import HandS.Wide
import HandS.Flow
import HandS.TupAny
import HandS.Deep
import HandS.Style
import HandS.Zip
import HandS.SortRule
import KE.KDictPairs
import HandS.WordsDict
import HandS.HeadEnd
import PyProof.ReprRoads
import PyProof.ReprLen
import HandS.DictTup
import HandS.SortOrd
import HandS.Star
import HandS.More
import PyProof.CallFns
import HandS.FStr
import HandS.Lambda
import PyProof.StrLawsRepr
import KE.KIntText
import PyProof.Draws
import KE.GoesMore
import PyProof.EnumMake
import PyProof.EnumFor
import HandS.EndTab
import PySem.Challenge.RW_orderless_k03_cells_and_expressions
set_option Elab.async false
set_option linter.all false
set_option maxRecDepth 100000
namespace K
open PySem L2
def top (i : Nat) : Stmt := PySem.Challenge.pw_orderless_k03_cells_and_expressions.main.body.getD i (.Pass ⟨0, 0, 0, 0⟩)
abbrev s_row_width : Stmt := top 9
-- 0:row
abbrev N_row_width : List Str := ["row"]
theorem sc_row_width : FnScope N_row_width ["row"] (defScope s_row_width) := ⟨rfl, rfl, rfl, by decide +kernel, rfl, by decide +kernel, by decide +kernel⟩
abbrev s_cell_names : Stmt := top 10
-- 0:cells 1:places 2:place
abbrev N_cell_names : List Str := ["cells", "places", "place"]
theorem sc_cell_names : FnScope N_cell_names ["cells"] (defScope s_cell_names) := ⟨rfl, rfl, rfl, by decide +kernel, rfl, by decide +kernel, by decide +kernel⟩
abbrev s_cell_places : Stmt := top 11
-- 0:cells 1:places 2:row 3:key
abbrev N_cell_places : List Str := ["cells", "places", "row", "key"]
theorem sc_cell_places : FnScope N_cell_places ["cells"] (defScope s_cell_places) := ⟨rfl, rfl, rfl, by decide +kernel, rfl, by decide +kernel, by decide +kernel⟩
abbrev s_cell_ranges : Stmt := top 12
-- 0:cells 1:ranges 2:row
abbrev N_cell_ranges : List Str := ["cells", "ranges", "row"]
theorem sc_cell_ranges : FnScope N_cell_ranges ["cells"] (defScope s_cell_ranges) := ⟨rfl, rfl, rfl, by decide +kernel, rfl, by decide +kernel, by decide +kernel⟩
abbrev s_found_index : Stmt := top 13
-- 0:cells 1:name 2:key 3:begin 4:row
abbrev N_found_index : List Str := ["cells", "name", "key", "begin", "row"]
theorem sc_found_index : FnScope N_found_index ["cells", "name", "key"] (defScope s_found_index) := ⟨rfl, rfl, rfl, by decide +kernel, rfl, by decide +kernel, by decide +kernel⟩
abbrev s_cell_index : Stmt := top 14
-- 0:cells 1:name 2:key 3:index
abbrev N_cell_index : List Str := ["cells", "name", "key", "index"]
theorem sc_cell_index : FnScope N_cell_index ["cells", "name", "key"] (defScope s_cell_index) := ⟨rfl, rfl, rfl, by decide +kernel, rfl, by decide +kernel, by decide +kernel⟩
abbrev s_value_in : Stmt := top 17
-- 0:cells 1:state 2:expression 3:value 4:_
abbrev N_value_in : List Str := ["cells", "state", "expression", "value", "_"]
theorem sc_value_in : FnScope N_value_in ["cells", "state", "expression"] (defScope s_value_in) := ⟨rfl, rfl, rfl, by decide +kernel, rfl, by decide +kernel, by decide +kernel⟩
abbrev s_looked_at : Stmt := top 18
-- 0:cells 1:state 2:expression 3:_ 4:looks
abbrev N_looked_at : List Str := ["cells", "state", "expression", "_", "looks"]
theorem sc_looked_at : FnScope N_looked_at ["cells", "state", "expression"] (defScope s_looked_at) := ⟨rfl, rfl, rfl, by decide +kernel, rfl, by decide +kernel, by decide +kernel⟩
abbrev s_first_looks : Stmt := top 19
-- 0:state 1:looks 2:seen 3:index
abbrev N_first_looks : List Str := ["state", "looks", "seen", "index"]
theorem sc_first_looks : FnScope N_first_looks ["state", "looks"] (defScope s_first_looks) := ⟨rfl, rfl, rfl, by decide +kernel, rfl, by decide +kernel, by decide +kernel⟩
abbrev s_evaluated : Stmt := top 20
-- 0:cells 1:state 2:expression 3:index 4:looks
abbrev N_evaluated : List Str := ["cells", "state", "expression", "index", "looks"]
theorem sc_evaluated : FnScope N_evaluated ["cells", "state", "expression"] (defScope s_evaluated) := ⟨rfl, rfl, rfl, by decide +kernel, rfl, by decide +kernel, by decide +kernel⟩
abbrev s_keyed_index : Stmt := top 21
-- 0:cells 1:state 2:table 3:key 4:value 5:looks
abbrev N_keyed_index : List Str := ["cells", "state", "table", "key", "value", "looks"]
theorem sc_keyed_index : FnScope N_keyed_index ["cells", "state", "table", "key"] (defScope s_keyed_index) := ⟨rfl, rfl, rfl, by decide +kernel, rfl, by decide +kernel, by decide +kernel⟩
abbrev s__lazy_value : Stmt := top 22
-- 0:cells 1:state 2:expression 3:op 4:test 5:looks 6:holds 7:value 8:more
abbrev N__lazy_value : List Str := ["cells", "state", "expression", "op", "test", "looks", "holds", "value", "more"]
theorem sc__lazy_value : FnScope N__lazy_value ["cells", "state", "expression"] (defScope s__lazy_value) := ⟨rfl, rfl, rfl, by decide +kernel, rfl, by decide +kernel, by decide +kernel⟩
abbrev s__full_value : Stmt := top 23
-- 0:cells 1:state 2:expression 3:values 4:looks 5:part 6:value 7:more
abbrev N__full_value : List Str := ["cells", "state", "expression", "values", "looks", "part", "value", "more"]
theorem sc__full_value : FnScope N__full_value ["cells", "state", "expression"] (defScope s__full_value) := ⟨rfl, rfl, rfl, by decide +kernel, rfl, by decide +kernel, by decide +kernel⟩
abbrev s__of_one : Stmt := top 24
-- 0:op 1:value
abbrev N__of_one : List Str := ["op", "value"]
theorem sc__of_one : FnScope N__of_one ["op", "value"] (defScope s__of_one) := ⟨rfl, rfl, rfl, by decide +kernel, rfl, by decide +kernel, by decide +kernel⟩
abbrev s_value_of_two : Stmt := top 25
-- 0:op 1:one 2:other
abbrev N_value_of_two : List Str := ["op", "one", "other"]
theorem sc_value_of_two : FnScope N_value_of_two ["op", "one", "other"] (defScope s_value_of_two) := ⟨rfl, rfl, rfl, by decide +kernel, rfl, by decide +kernel, by decide +kernel⟩
abbrev s__compared : Stmt := top 26
-- 0:op 1:one 2:other
abbrev N__compared : List Str := ["op", "one", "other"]
theorem sc__compared : FnScope N__compared ["op", "one", "other"] (defScope s__compared) := ⟨rfl, rfl, rfl, by decide +kernel, rfl, by decide +kernel, by decide +kernel⟩
abbrev s__law_feed : Stmt := top 28
-- 0:_law_script
abbrev N__law_feed : List Str := ["_law_script"]
theorem sc__law_feed : FnScope N__law_feed ["_law_script"] (defScope s__law_feed) := ⟨rfl, rfl, rfl, by decide +kernel, rfl, by decide +kernel, by decide +kernel⟩
abbrev s__law_draw : Stmt := top 29
-- 0:_law_feed_here 1:_law_many 2:_law_digit 3:_law_at_here 4:_law_cell 5:_law_mixed
abbrev N__law_draw : List Str := ["_law_feed_here", "_law_many", "_law_digit", "_law_at_here", "_law_cell", "_law_mixed"]
theorem sc__law_draw : FnScope N__law_draw ["_law_feed_here", "_law_many"] (defScope s__law_draw) := ⟨rfl, rfl, rfl, by decide +kernel, rfl, by decide +kernel, by decide +kernel⟩
abbrev s__law_plans : Stmt := top 30
-- 0:_law_found 1:_law_word
abbrev N__law_plans : List Str := ["_law_found", "_law_word"]
theorem sc__law_plans : FnScope N__law_plans [] (defScope s__law_plans) := ⟨rfl, rfl, rfl, by decide +kernel, rfl, by decide +kernel, by decide +kernel⟩
abbrev s__law_spots : Stmt := top 31
-- 0:_law_rows_here 1:_law_found 2:_law_at_here 3:_law_own
abbrev N__law_spots : List Str := ["_law_rows_here", "_law_found", "_law_at_here", "_law_own"]
theorem sc__law_spots : FnScope N__law_spots ["_law_rows_here"] (defScope s__law_spots) := ⟨rfl, rfl, rfl, by decide +kernel, rfl, by decide +kernel, by decide +kernel⟩
abbrev s__law_ranges : Stmt := top 32
-- 0:_law_rows_here 1:_law_found 2:_law_own
abbrev N__law_ranges : List Str := ["_law_rows_here", "_law_found", "_law_own"]
theorem sc__law_ranges : FnScope N__law_ranges ["_law_rows_here"] (defScope s__law_ranges) := ⟨rfl, rfl, rfl, by decide +kernel, rfl, by decide +kernel, by decide +kernel⟩
abbrev s__law_states : Stmt := top 33
-- 0:_law_rows_here 1:_law_found 2:_law_low 3:_law_high 4:_law_wider 5:_law_own 6:_law_value_here
abbrev N__law_states : List Str := ["_law_rows_here", "_law_found", "_law_low", "_law_high", "_law_wider", "_law_own", "_law_value_here"]
theorem sc__law_states : FnScope N__law_states ["_law_rows_here"] (defScope s__law_states) := ⟨rfl, rfl, rfl, by decide +kernel, rfl, by decide +kernel, by decide +kernel⟩
abbrev s__law_some : Stmt := top 34
-- 0:_law_states_now 1:_law_most 2:_law_step
abbrev N__law_some : List Str := ["_law_states_now", "_law_most", "_law_step"]
theorem sc__law_some : FnScope N__law_some ["_law_states_now", "_law_most"] (defScope s__law_some) := ⟨rfl, rfl, rfl, by decide +kernel, rfl, by decide +kernel, by decide +kernel⟩
abbrev s__law_at : Stmt := top 35
-- 0:_law_rows_here 1:_law_state_in 2:_law_name_in 3:_law_which 4:_law_looks 5:_law_size 6:_law_spot 7:_law_own
abbrev N__law_at : List Str := ["_law_rows_here", "_law_state_in", "_law_name_in", "_law_which", "_law_looks", "_law_size", "_law_spot", "_law_own"]
theorem sc__law_at : FnScope N__law_at ["_law_rows_here", "_law_state_in", "_law_name_in", "_law_which", "_law_looks"] (defScope s__law_at) := ⟨rfl, rfl, rfl, by decide +kernel, rfl, by decide +kernel, by decide +kernel⟩
abbrev s__law_lazy : Stmt := top 36
-- 0:_law_rows_here 1:_law_state_in 2:_law_e 3:_law_looks 4:_law_first 5:_law_second
abbrev N__law_lazy : List Str := ["_law_rows_here", "_law_state_in", "_law_e", "_law_looks", "_law_first", "_law_second"]
theorem sc__law_lazy : FnScope N__law_lazy ["_law_rows_here", "_law_state_in", "_law_e", "_law_looks"] (defScope s__law_lazy) := ⟨rfl, rfl, rfl, by decide +kernel, rfl, by decide +kernel, by decide +kernel⟩
abbrev s__law_value : Stmt := top 37
-- 0:_law_rows_here 1:_law_state_in 2:_law_e 3:_law_looks 4:_law_spot 5:_law_a 6:_law_b
abbrev N__law_value : List Str := ["_law_rows_here", "_law_state_in", "_law_e", "_law_looks", "_law_spot", "_law_a", "_law_b"]
theorem sc__law_value : FnScope N__law_value ["_law_rows_here", "_law_state_in", "_law_e", "_law_looks"] (defScope s__law_value) := ⟨rfl, rfl, rfl, by decide +kernel, rfl, by decide +kernel, by decide +kernel⟩
abbrev s__law_counted : Stmt := top 38
-- 0:_law_word 1:_law_a 2:_law_b 3:_law_found
abbrev N__law_counted : List Str := ["_law_word", "_law_a", "_law_b", "_law_found"]
theorem sc__law_counted : FnScope N__law_counted ["_law_word", "_law_a", "_law_b"] (defScope s__law_counted) := ⟨rfl, rfl, rfl, by decide +kernel, rfl, by decide +kernel, by decide +kernel⟩
abbrev s__law_first_looks : Stmt := top 39
-- 0:_law_looks 1:_law_found 2:_law_own
abbrev N__law_first_looks : List Str := ["_law_looks", "_law_found", "_law_own"]
theorem sc__law_first_looks : FnScope N__law_first_looks ["_law_looks"] (defScope s__law_first_looks) := ⟨rfl, rfl, rfl, by decide +kernel, rfl, by decide +kernel, by decide +kernel⟩
abbrev s__law_power : Stmt := top 40
-- 0:_law_base 1:_law_many 2:_law_found 3:_law_k
abbrev N__law_power : List Str := ["_law_base", "_law_many", "_law_found", "_law_k"]
theorem sc__law_power : FnScope N__law_power ["_law_base", "_law_many"] (defScope s__law_power) := ⟨rfl, rfl, rfl, by decide +kernel, rfl, by decide +kernel, by decide +kernel⟩
abbrev s__law_menu : Stmt := top 41
-- 0:_law_feed_here 1:_law_menu_here
abbrev N__law_menu : List Str := ["_law_feed_here", "_law_menu_here"]
theorem sc__law_menu : FnScope N__law_menu ["_law_feed_here"] (defScope s__law_menu) := ⟨rfl, rfl, rfl, by decide +kernel, rfl, by decide +kernel, by decide +kernel⟩
abbrev s__law_rows : Stmt := top 42
-- 0:_law_feed_here 1:_law_most 2:_law_found 3:_law_many 4:_law_had 5:_law_name_in 6:_law_size 7:_law_wide 8:_law_low 9:_law_given 10:_law_shown 11:_law_first
abbrev N__law_rows : List Str := ["_law_feed_here", "_law_most", "_law_found", "_law_many", "_law_had", "_law_name_in", "_law_size", "_law_wide", "_law_low", "_law_given", "_law_shown", "_law_first"]
theorem sc__law_rows : FnScope N__law_rows ["_law_feed_here", "_law_most"] (defScope s__law_rows) := ⟨rfl, rfl, rfl, by decide +kernel, rfl, by decide +kernel, by decide +kernel⟩
abbrev s__law_leaf : Stmt := top 43
-- 0:_law_feed_here 1:_law_rows_here 2:_law_plain 3:_law_own
abbrev N__law_leaf : List Str := ["_law_feed_here", "_law_rows_here", "_law_plain", "_law_own"]
theorem sc__law_leaf : FnScope N__law_leaf ["_law_feed_here", "_law_rows_here"] (defScope s__law_leaf) := ⟨rfl, rfl, rfl, by decide +kernel, rfl, by decide +kernel, by decide +kernel⟩
abbrev s__law_formula : Stmt := top 44
-- 0:_law_feed_here 1:_law_rows_here 2:_law_deep 3:_law_words 4:_law_word 5:_law_tables 6:_law_own 7:_law_way
abbrev N__law_formula : List Str := ["_law_feed_here", "_law_rows_here", "_law_deep", "_law_words", "_law_word", "_law_tables", "_law_own", "_law_way"]
theorem sc__law_formula : FnScope N__law_formula ["_law_feed_here", "_law_rows_here", "_law_deep"] (defScope s__law_formula) := ⟨rfl, rfl, rfl, by decide +kernel, rfl, by decide +kernel, by decide +kernel⟩
abbrev s__law_samples : Stmt := top 45
-- 0:_law_add 1:_law_twice 2:_law_see 3:_law_rows_here 4:_law_found 5:_law_table 6:_law_move 7:_law_same
abbrev N__law_samples : List Str := ["_law_add", "_law_twice", "_law_see", "_law_rows_here", "_law_found", "_law_table", "_law_move", "_law_same"]
theorem sc__law_samples : FnScope N__law_samples [] (defScope s__law_samples) := ⟨rfl, rfl, rfl, by decide +kernel, rfl, by decide +kernel, by decide +kernel⟩
abbrev s__law_heard : Stmt := top 46
-- 0:_law_ask 1:_law_e 2:_law_families
abbrev N__law_heard : List Str := ["_law_ask", "_law_e", "_law_families"]
theorem sc__law_heard : FnScope N__law_heard ["_law_ask"] (defScope s__law_heard) := ⟨rfl, rfl, rfl, by decide +kernel, rfl, by decide +kernel, by decide +kernel⟩
abbrev s__law_spots_right : Stmt := top 47
-- 0:_law_rows_here 1:_law_names 2:_law_ranges_here 3:_law_spots_here 4:_law_which 5:_law_told 6:_law_there 7:_law_due 8:_law_name_in 9:_law_own
abbrev N__law_spots_right : List Str := ["_law_rows_here", "_law_names", "_law_ranges_here", "_law_spots_here", "_law_which", "_law_told", "_law_there", "_law_due", "_law_name_in", "_law_own"]
theorem sc__law_spots_right : FnScope N__law_spots_right ["_law_rows_here"] (defScope s__law_spots_right) := ⟨rfl, rfl, rfl, by decide +kernel, rfl, by decide +kernel, by decide +kernel⟩
abbrev s__law_formulas : Stmt := top 48
-- 0:_law_feed_here 1:_law_rows_here 2:_law_found 3:_law_own 4:_law_there 5:_law_k
abbrev N__law_formulas : List Str := ["_law_feed_here", "_law_rows_here", "_law_found", "_law_own", "_law_there", "_law_k"]
theorem sc__law_formulas : FnScope N__law_formulas ["_law_feed_here", "_law_rows_here"] (defScope s__law_formulas) := ⟨rfl, rfl, rfl, by decide +kernel, rfl, by decide +kernel, by decide +kernel⟩
abbrev s__law_ten_right : Stmt := top 49
-- 0:_law_sign 1:_law_rows_here 2:_law_deep 3:_law_state_in 4:_law_e 5:_law_looks 6:_law_due 7:_law_k
abbrev N__law_ten_right : List Str := ["_law_sign", "_law_rows_here", "_law_deep", "_law_state_in", "_law_e", "_law_looks", "_law_due", "_law_k"]
theorem sc__law_ten_right : FnScope N__law_ten_right [] (defScope s__law_ten_right) := ⟨rfl, rfl, rfl, by decide +kernel, rfl, by decide +kernel, by decide +kernel⟩
abbrev s_law : Stmt := top 50
-- 0:_law_script 1:_law_feed_here 2:_law_samples_here 3:_law_rows_here 4:_law_states_now 5:_law_at_here 6:_law_e 7:_law_kept 8:_law_some_here 9:_law_state_in 10:_law_looks 11:_law_due 12:_law_told 13:_law_good 14:_law_k
abbrev N_law : List Str := ["_law_script", "_law_feed_here", "_law_samples_here", "_law_rows_here", "_law_states_now", "_law_at_here", "_law_e", "_law_kept", "_law_some_here", "_law_state_in", "_law_looks", "_law_due", "_law_told", "_law_good", "_law_k"]
theorem sc_law : FnScope N_law ["_law_script"] (defScope s_law) := ⟨rfl, rfl, rfl, by decide +kernel, rfl, by decide +kernel, by decide +kernel⟩
end K

namespace K
open PySem L2
def clsBody : Stmt → List Stmt
  | .ClassDef _ _ _ bd _ _ _ _ _ _ _ => bd
  | _ => []
def clsM (i j : Nat) : Stmt := (clsBody (top i)).getD j (.Pass ⟨0, 0, 0, 0⟩)
abbrev s_U_init : Stmt := clsM 6 0
-- 0:self 1:name
abbrev N_U_init : List Str := ["self", "name"]
theorem sc_U_init : FnScope N_U_init ["self", "name"] (defScope s_U_init) := ⟨rfl, rfl, rfl, by decide +kernel, rfl, by decide +kernel, by decide +kernel⟩
end K

namespace K
open PySem PySem.Spec PyProof.Rows L2
def fns : List He.DefD := [
  ⟨("row_width", none), "row_width", "row_width", defArgs s_row_width, defBody s_row_width, defScope s_row_width, [], []⟩,
  ⟨("cell_names", none), "cell_names", "cell_names", defArgs s_cell_names, defBody s_cell_names, defScope s_cell_names, [], []⟩,
  ⟨("cell_places", none), "cell_places", "cell_places", defArgs s_cell_places, defBody s_cell_places, defScope s_cell_places, [], []⟩,
  ⟨("cell_ranges", none), "cell_ranges", "cell_ranges", defArgs s_cell_ranges, defBody s_cell_ranges, defScope s_cell_ranges, [], []⟩,
  ⟨("found_index", none), "found_index", "found_index", defArgs s_found_index, defBody s_found_index, defScope s_found_index, [], []⟩,
  ⟨("cell_index", none), "cell_index", "cell_index", defArgs s_cell_index, defBody s_cell_index, defScope s_cell_index, [], [("key", .non)]⟩,
  ⟨("value_in", none), "value_in", "value_in", defArgs s_value_in, defBody s_value_in, defScope s_value_in, [], []⟩,
  ⟨("looked_at", none), "looked_at", "looked_at", defArgs s_looked_at, defBody s_looked_at, defScope s_looked_at, [], []⟩,
  ⟨("first_looks", none), "first_looks", "first_looks", defArgs s_first_looks, defBody s_first_looks, defScope s_first_looks, [], []⟩,
  ⟨("evaluated", none), "evaluated", "evaluated", defArgs s_evaluated, defBody s_evaluated, defScope s_evaluated, [], []⟩,
  ⟨("keyed_index", none), "keyed_index", "keyed_index", defArgs s_keyed_index, defBody s_keyed_index, defScope s_keyed_index, [], []⟩,
  ⟨("_lazy_value", none), "_lazy_value", "_lazy_value", defArgs s__lazy_value, defBody s__lazy_value, defScope s__lazy_value, [], []⟩,
  ⟨("_full_value", none), "_full_value", "_full_value", defArgs s__full_value, defBody s__full_value, defScope s__full_value, [], []⟩,
  ⟨("_of_one", none), "_of_one", "_of_one", defArgs s__of_one, defBody s__of_one, defScope s__of_one, [], []⟩,
  ⟨("value_of_two", none), "value_of_two", "value_of_two", defArgs s_value_of_two, defBody s_value_of_two, defScope s_value_of_two, [], []⟩,
  ⟨("_compared", none), "_compared", "_compared", defArgs s__compared, defBody s__compared, defScope s__compared, [], []⟩,
  ⟨("_law_feed", none), "_law_feed", "_law_feed", defArgs s__law_feed, defBody s__law_feed, defScope s__law_feed, [], []⟩,
  ⟨("_law_draw", none), "_law_draw", "_law_draw", defArgs s__law_draw, defBody s__law_draw, defScope s__law_draw, [], []⟩,
  ⟨("_law_plans", none), "_law_plans", "_law_plans", defArgs s__law_plans, defBody s__law_plans, defScope s__law_plans, [], []⟩,
  ⟨("_law_spots", none), "_law_spots", "_law_spots", defArgs s__law_spots, defBody s__law_spots, defScope s__law_spots, [], []⟩,
  ⟨("_law_ranges", none), "_law_ranges", "_law_ranges", defArgs s__law_ranges, defBody s__law_ranges, defScope s__law_ranges, [], []⟩,
  ⟨("_law_states", none), "_law_states", "_law_states", defArgs s__law_states, defBody s__law_states, defScope s__law_states, [], []⟩,
  ⟨("_law_some", none), "_law_some", "_law_some", defArgs s__law_some, defBody s__law_some, defScope s__law_some, [], []⟩,
  ⟨("_law_at", none), "_law_at", "_law_at", defArgs s__law_at, defBody s__law_at, defScope s__law_at, [], []⟩,
  ⟨("_law_lazy", none), "_law_lazy", "_law_lazy", defArgs s__law_lazy, defBody s__law_lazy, defScope s__law_lazy, [], []⟩,
  ⟨("_law_value", none), "_law_value", "_law_value", defArgs s__law_value, defBody s__law_value, defScope s__law_value, [], []⟩,
  ⟨("_law_counted", none), "_law_counted", "_law_counted", defArgs s__law_counted, defBody s__law_counted, defScope s__law_counted, [], []⟩,
  ⟨("_law_first_looks", none), "_law_first_looks", "_law_first_looks", defArgs s__law_first_looks, defBody s__law_first_looks, defScope s__law_first_looks, [], []⟩,
  ⟨("_law_power", none), "_law_power", "_law_power", defArgs s__law_power, defBody s__law_power, defScope s__law_power, [], []⟩,
  ⟨("_law_menu", none), "_law_menu", "_law_menu", defArgs s__law_menu, defBody s__law_menu, defScope s__law_menu, [], []⟩,
  ⟨("_law_rows", none), "_law_rows", "_law_rows", defArgs s__law_rows, defBody s__law_rows, defScope s__law_rows, [], []⟩,
  ⟨("_law_leaf", none), "_law_leaf", "_law_leaf", defArgs s__law_leaf, defBody s__law_leaf, defScope s__law_leaf, [], []⟩,
  ⟨("_law_formula", none), "_law_formula", "_law_formula", defArgs s__law_formula, defBody s__law_formula, defScope s__law_formula, [], []⟩,
  ⟨("_law_samples", none), "_law_samples", "_law_samples", defArgs s__law_samples, defBody s__law_samples, defScope s__law_samples, [], []⟩,
  ⟨("_law_heard", none), "_law_heard", "_law_heard", defArgs s__law_heard, defBody s__law_heard, defScope s__law_heard, [], []⟩,
  ⟨("_law_spots_right", none), "_law_spots_right", "_law_spots_right", defArgs s__law_spots_right, defBody s__law_spots_right, defScope s__law_spots_right, [], []⟩,
  ⟨("_law_formulas", none), "_law_formulas", "_law_formulas", defArgs s__law_formulas, defBody s__law_formulas, defScope s__law_formulas, [], []⟩,
  ⟨("_law_ten_right", none), "_law_ten_right", "_law_ten_right", defArgs s__law_ten_right, defBody s__law_ten_right, defScope s__law_ten_right, [], []⟩,
  ⟨("law", none), "law", "law", defArgs s_law, defBody s_law, defScope s_law, [], []⟩,
  ⟨("UnknownCell", some "__init__"), "__init__", "UnknownCell.__init__", defArgs s_U_init, defBody s_U_init, defScope s_U_init, [], []⟩]
def fas : List He.Fa := [.glo "row_width", .glo "cell_names", .glo "cell_places", .glo "cell_ranges", .glo "found_index", .glo "cell_index", .glo "value_in", .glo "looked_at", .glo "first_looks", .glo "evaluated", .glo "keyed_index", .glo "_lazy_value", .glo "_full_value", .glo "_of_one", .glo "value_of_two", .glo "_compared", .glo "_law_feed", .glo "_law_draw", .glo "_law_plans", .glo "_law_spots", .glo "_law_ranges", .glo "_law_states", .glo "_law_some", .glo "_law_at", .glo "_law_lazy", .glo "_law_value", .glo "_law_counted", .glo "_law_first_looks", .glo "_law_power", .glo "_law_menu", .glo "_law_rows", .glo "_law_leaf", .glo "_law_formula", .glo "_law_samples", .glo "_law_heard", .glo "_law_spots_right", .glo "_law_formulas", .glo "_law_ten_right", .glo "law",
  .free "len", .free "int", .free "max", .free "min", .free "range", .free "tuple", .free "list", .free "isinstance", .free "str", .free "bool", .free "set", .free "dict", .free "sorted", .free "enumerate", .free "repr", .glo "LAZY", .glo "UnknownCell", .glo "OrderError", .glo "PaperError", .glo "ProgramError", .glo "TextError", .glo "InvalidPaper", .glo "InvalidText"]
def loose0 : List PySem.Str := ["OrderError", "PaperError", "ProgramError", "TextError", "InvalidPaper", "UnknownCell", "InvalidText", "row_width", "cell_names", "cell_places", "cell_ranges", "found_index", "cell_index", "LAZY", "value_in", "looked_at", "first_looks", "evaluated", "keyed_index", "_lazy_value", "_full_value", "_of_one", "value_of_two", "_compared", "_law_feed", "_law_draw", "_law_plans", "_law_spots", "_law_ranges", "_law_states"]
def loose1 : List PySem.Str := ["_law_some", "_law_at", "_law_lazy", "_law_value", "_law_counted", "_law_first_looks", "_law_power", "_law_menu", "_law_rows", "_law_leaf", "_law_formula", "_law_samples", "_law_heard", "_law_spots_right", "_law_formulas", "_law_ten_right"]
def loose : List PySem.Str := loose0 ++ loose1
abbrev lawAt : Nat := 50
abbrev Rw : PySem.W.OpenRow := PySem.W.OpenLaw.row PySem.Challenge.rw_orderless_k03_cells_and_expressions
-- INDEX 0:row_width 1:cell_names 2:cell_places 3:cell_ranges 4:found_index 5:cell_index 6:value_in 7:looked_at 8:first_looks 9:evaluated 10:keyed_index 11:_lazy_value 12:_full_value 13:_of_one 14:value_of_two 15:_compared 16:_law_feed 17:_law_draw 18:_law_plans 19:_law_spots 20:_law_ranges 21:_law_states 22:_law_some 23:_law_at 24:_law_lazy 25:_law_value 26:_law_counted 27:_law_first_looks 28:_law_power 29:_law_menu 30:_law_rows 31:_law_leaf 32:_law_formula 33:_law_samples 34:_law_heard 35:_law_spots_right 36:_law_formulas 37:_law_ten_right 38:law
def lazyD : List He.Dv := [.str "and", .str "or", .str "if"]
/-- the class at C is an error with an initializer of its own -/
def mroB (C : Addr) : List Value → Bool
  | .ref D :: bm => decide (D = C) && PySem.HandSPX.refsVE bm
  | _ => false
def slB : List (Option Value) → Bool
  | [_, _, _, _, some (.builtin n), _] => decide (n = "ValueError.__new__")
  | _ => false
def oexB (K : PySem.W.Frag) (C : Addr) : Bool := match K.lookup C with
  | some ⟨.type t, _, .cls cd, sl⟩ => decide (t = "type") && (!cd.hasDel && (cd.hasDict && (mroB C cd.mro && slB sl.toList)))
  | _ => false
def errB (K : PySem.W.Frag) (C fI : Addr) (on off : List Addr) : Bool :=
  oexB K C && (decide (PySem.W.findIn K (.ref C) "__setattr__" = some (some (.builtin "object.__setattr__"))) && (decide (PySem.W.subIn K (.ref C) (.type "BaseException") = some true) && (decide (PySem.W.typeIn K (.ref C) = some (.type "type")) && (PySem.W.keepIn K (.ref C) &&
  (decide (PySem.W.findIn K (.ref C) "__init__" = some (some (.ref fI))) && (decide (PySem.W.typeIn K (.ref fI) = some (.type "function")) && (decide (PySem.W.findIn K (.ref C) "name" = some none) &&
  (decide (PySem.W.findIn K (.ref C) "__getattribute__" = some (some (.builtin "BaseException.__getattribute__"))) && (decide (PySem.W.findIn K (.ref C) "__getattr__" = some none) && (PySem.W.hasDictIn K C &&
  (decide (PySem.W.findIn K (.ref C) "__class__" = some (some (.builtin "object.__class__"))) && (decide (PySem.W.specialIn K (.builtin "object.__class__") "__get__" = some (some (.builtin "getset_descriptor.__get__"))) && (decide (PySem.W.takesIn K (.builtin "object.__class__") = some true) && (decide (PySem.W.mroIn K C (.type "object") = some true) &&
  (on.all (fun D => decide (PySem.W.kitOne K (.ref C) (.ref D) = some true)) && off.all (fun D => decide (PySem.W.kitOne K (.ref C) (.ref D) = some false)))))))))))))))))
abbrev uC (K : PySem.W.Frag) : Addr := He.ga K "UnknownCell"
def ruleB (K : PySem.W.Frag) : Bool := He.tupB K "LAZY" lazyD && (errB K (uC K) (He.ma K (uC K) "__init__") [uC K, He.ga K "ProgramError"] [He.ga K "PaperError", He.ga K "TextError", He.ga K "InvalidPaper", He.ga K "InvalidText"] &&
  decide (PySem.W.exmOne K (.ref (uC K)) (.ref (He.ga K "OrderError")) = some true))
abbrev own0 : He.Defn := ("_law_spots_right", none)
abbrev ownHook : PySem.W.Hook := He.hookX 4 fas fns [] [own0] ruleB
abbrev ObT : Type := He.AlX
def obT (s : PySem.W.SharedT) : ObT := He.obsX 4 fas fns [] [own0] ruleB (HandSHeadRun.getT s)
theorem obT_eq (s : PySem.W.SharedT) : obT s = ownHook.obs s.abs := He.obsX_eq (HandSHeadRun.getT_eq s)
set_option maxHeartbeats 0 in
theorem topRun (w : World) : HandSHeadRun.RunEq Rw (PySem.W.view Rw.prog [lawAt]) ownHook obT 9000 loose w := by
  intro os
  kernel_rfl
end K

namespace G
open PySem PySem.Spec PyProof.Rows L2

/-! ### contexts by what is asked of them; the weakest reading of a piece of syntax -/
structure Md where
  prog : Program
  w : World
  K : PySem.W.Frag
  mg : Str → Option Value
  base : Heap
structure Cd extends Md where
  N : List Str
  sc : Scope
  k : Nat
  top : Bool
  g : Bool
  ev : Option (Str × Addr)
structure Is (c : Cd) (X : Cx) : Prop where
  prog : X.prog = c.prog
  w : X.w = c.w
  K : X.K = c.K
  mg : X.mg = c.mg
  base : X.base = c.base
  N : X.N = c.N
  sc : X.env.scope = c.sc
  calm : X.calm = true
  room : Room c.k X.A
  top : c.top = true → ∀ x, X.fn x = true
  own : PassesOwn (model X.prog X.w) X.A X.env X.xe
  nd : c.N.Nodup
  gd : c.g = true → X.A.guards = some []
  evh : ∀ q a, c.ev = some (q, a) → X.env.qual = q ∧ X.env.code = .ref a

structure DLe (D D' : Ends) : Prop where
  nx : ∀ σ H, D.nx σ H → D'.nx σ H
  rt : ∀ v H, D.rt v H → D'.rt v H
  bk : ∀ σ H, D.bk σ H → D'.bk σ H
  ct : ∀ σ H, D.ct σ H → D'.ct σ H
theorem DLe.refl (D : Ends) : DLe D D := ⟨fun _ _ h => h, fun _ _ h => h, fun _ _ h => h, fun _ _ h => h⟩
theorem DLe.trans {D D1 D2 : Ends} (a : DLe D D1) (b : DLe D1 D2) : DLe D D2 := ⟨fun _ _ h => b.nx _ _ (a.nx _ _ h), fun _ _ h => b.rt _ _ (a.rt _ _ h), fun _ _ h => b.bk _ _ (a.bk _ _ h), fun _ _ h => b.ct _ _ (a.ct _ _ h)⟩

structure RE (c : Cd) (e : Expr) (σ : L2.St) (H : Hp) (Q : VK) : Prop where
  ex : ∃ t Q', (∀ X, Is c X → PE X e t) ∧ t σ H Q' ∧ ∀ v H', Q' v H' → Q v H'
structure RT (c : Cd) (e : Expr) (σ : L2.St) (H : Hp) (Q : Bool → Hp → Prop) : Prop where
  ex : ∃ t Q', (∀ X, Is c X → PT X e t) ∧ t σ H Q' ∧ ∀ v H', Q' v H' → Q v H'
structure RW (c : Cd) (e : Expr) (σ : L2.St) (H : Hp) (Q : Bool → Hp → Prop) : Prop where
  ex : ∃ t Q', (∀ X, Is c X → PW X e t) ∧ t σ H Q' ∧ ∀ v H', Q' v H' → Q v H'
structure RTs (c : Cd) (es : List Expr) (σ : L2.St) (H : Hp) (Q : Bool → Hp → Prop) : Prop where
  ex : ∃ t Q', (∀ X, Is c X → PTs X es t) ∧ t σ H Q' ∧ ∀ v H', Q' v H' → Q v H'
structure RA (c : Cd) (es : List Expr) (σ : L2.St) (H : Hp) (Q : List V → Hp → Prop) : Prop where
  ex : ∃ t Q', (∀ X, Is c X → PA X es t) ∧ t σ H Q' ∧ ∀ v H', Q' v H' → Q v H'
structure RPK (c : Cd) (es : List Keyword) (σ : L2.St) (H : Hp) (Q : List V → Hp → Prop) : Prop where
  ex : ∃ t Q', (∀ X, Is c X → PK X es t) ∧ t σ H Q' ∧ ∀ v H', Q' v H' → Q v H'
structure RS (c : Cd) (st : Stmt) (D : Ends) (σ : L2.St) (H : Hp) : Prop where
  ex : ∃ t D', (∀ X, Is c X → PS X st t) ∧ t D' σ H ∧ DLe D' D
structure RB (c : Cd) (sts : List Stmt) (D : Ends) (σ : L2.St) (H : Hp) : Prop where
  ex : ∃ t D', (∀ X, Is c X → PSs X sts t) ∧ t D' σ H ∧ DLe D' D
structure RG (c : Cd) (tg : Expr) (v : V) (σ : L2.St) (H : Hp) (Q : L2.St → Hp → Prop) : Prop where
  ex : ∃ t Q', (∀ X, Is c X → PG X tg t) ∧ t v σ H Q' ∧ ∀ v H', Q' v H' → Q v H'
structure RGs (c : Cd) (ts : List Expr) (vs : List V) (σ : L2.St) (H : Hp) (Q : L2.St → Hp → Prop) : Prop where
  ex : ∃ t Q', (∀ X, Is c X → PGs X ts t) ∧ t vs σ H Q' ∧ ∀ v H', Q' v H' → Q v H'
structure RI (c : Cd) (tg it : Expr) (σ : L2.St) (H : Hp) (R : It → Hp → Prop) : Prop where
  ex : ∃ t R', (∀ X, Is c X → PI X tg it t) ∧ t σ H R' ∧ ∀ J H', R' J H' → R J H'
structure RO (c : Cd) (op : Operator) (x y : V) (H : Hp) (Q : VK) : Prop where
  ex : ∃ r Q', (∀ X, Is c X → OpR X (binaryOp op) r) ∧ r x y H Q' ∧ ∀ v H', Q' v H' → Q v H'
structure RQ (c : Cd) (op : CmpOp) (x y : V) (H : Hp) (Q : VK) : Prop where
  ex : ∃ r Q', (∀ X, Is c X → OpR X (compareOp op) r) ∧ r x y H Q' ∧ ∀ v H', Q' v H' → Q v H'
structure RU (c : Cd) (f : UnaryOp) (x : V) (H : Hp) (Q : VK) : Prop where
  ex : ∃ r Q', (∀ X, Is c X → UnR X (unaryOp f) r) ∧ r x H Q' ∧ ∀ v H', Q' v H' → Q v H'
structure RC (c : Cd) (f : Value) (xs : List V) (H : Hp) (Q : VK) : Prop where
  ex : ∃ r Q', (∀ X, Is c X → CallR X f r) ∧ r xs H Q' ∧ ∀ v H', Q' v H' → Q v H'
structure RX (c : Cd) (x y : V) (H : Hp) (Q : VK) : Prop where
  ex : ∃ r Q', (∀ X, Is c X → IxR X r) ∧ r x y H Q' ∧ ∀ v H', Q' v H' → Q v H'
structure RSl (c : Cd) (x : V) (l u : Option Int) (H : Hp) (Q : VK) : Prop where
  ex : ∃ r Q', (∀ X, Is c X → SlR X r) ∧ r x l u H Q' ∧ ∀ v H', Q' v H' → Q v H'
structure RM (c : Cd) (id : String) (x : V) (xs : List V) (H : Hp) (Q : VK) : Prop where
  ex : ∃ r Q', (∀ X, Is c X → MtR X id r) ∧ r x xs H Q' ∧ ∀ v H', Q' v H' → Q v H'
structure RP (c : Cd) (o i v : V) (H : Hp) (Q : Hp → Prop) : Prop where
  ex : ∃ r Q', (∀ X, Is c X → PSet X r) ∧ r o i v H Q' ∧ ∀ H', Q' H' → Q H'
structure RPo (c : Cd) (e : Option Expr) (σ : L2.St) (H : Hp) (Q : Option Int → Hp → Prop) : Prop where
  ex : ∃ t Q', (∀ X, Is c X → PO X e t) ∧ t σ H Q' ∧ ∀ v H', Q' v H' → Q v H'

section
variable {c : Cd} {X : Cx} (h : Is c X)
include h
theorem pe_re {e : Expr} : PE X e (RE c e) := ⟨fun pins s σ H Q I ⟨⟨_, _, a, q, w⟩⟩ => thn ((a X h).run pins s σ H _ I q) fun _ _ ⟨v, H', I', r, q'⟩ => ⟨v, H', I', r, w _ _ q'⟩⟩
theorem pt_rt {e : Expr} : PT X e (RT c e) := ⟨fun pins s σ H Q I ⟨⟨_, _, a, q, w⟩⟩ => thn ((a X h).run pins s σ H _ I q) fun _ _ ⟨H', I', q'⟩ => ⟨H', I', w _ _ q'⟩⟩
theorem pw_rw {e : Expr} : PW X e (RW c e) := ⟨fun wh pins s σ H Q I ⟨⟨_, _, a, q, w⟩⟩ => thn ((a X h).run wh pins s σ H _ I q) fun _ _ ⟨H', I', q'⟩ => ⟨H', I', w _ _ q'⟩⟩
theorem pts_rts {es : List Expr} : PTs X es (RTs c es) := ⟨fun pins s σ H Q I ⟨⟨_, _, a, q, w⟩⟩ => thn ((a X h).run pins s σ H _ I q) fun _ _ ⟨H', I', q'⟩ => ⟨H', I', w _ _ q'⟩⟩
theorem pa_ra {es : List Expr} : PA X es (RA c es) := ⟨fun pos pins s σ H Q I ⟨⟨_, _, a, q, w⟩⟩ => thn ((a X h).run pos pins s σ H _ I q) fun _ _ ⟨v, H', I', r, q'⟩ => ⟨v, H', I', r, w _ _ q'⟩⟩
theorem pk_rk {es : List Keyword} : PK X es (RPK c es) := ⟨fun pos pins s σ H Q I ⟨⟨_, _, a, q, w⟩⟩ => thn ((a X h).run pos pins s σ H _ I q) fun _ _ ⟨v, H', I', r, q'⟩ => ⟨v, H', I', r, w _ _ q'⟩⟩
theorem SP.le {pins : List (Addr × Obj)} {D' D : Ends} (w : DLe D' D) : ∀ {f : Flow} {s' : Shared}, SP X pins D' f s' → SP X pins D f s'
  | .next, _, ⟨σ', H', I, q⟩ => ⟨σ', H', I, w.nx _ _ q⟩
  | .brk, _, ⟨σ', H', I, q⟩ => ⟨σ', H', I, w.bk _ _ q⟩
  | .cont, _, ⟨σ', H', I, q⟩ => ⟨σ', H', I, w.ct _ _ q⟩
  | .ret _, _, ⟨v, σ', H', I, r, q⟩ => ⟨v, σ', H', I, r, w.rt _ _ q⟩
theorem ps_rs {st : Stmt} : PS X st (RS c st) := ⟨fun pins s σ H D I ⟨⟨_, _, a, q, w⟩⟩ => thn ((a X h).run pins s σ H _ I q) fun _ _ q' => SP.le h w q'⟩
theorem ps_rb {sts : List Stmt} : PSs X sts (RB c sts) := ⟨fun pins s σ H D I ⟨⟨_, _, a, q, w⟩⟩ => thn ((a X h).run pins s σ H _ I q) fun _ _ q' => SP.le h w q'⟩
theorem pg_rg {tg : Expr} : PG X tg (RG c tg) := ⟨fun pins s σ H v u Q I r ⟨⟨_, _, a, q, w⟩⟩ => thn ((a X h).run pins s σ H v u _ I r q) fun _ _ ⟨σ', H', I', q'⟩ => ⟨σ', H', I', w _ _ q'⟩⟩
theorem pg_rgs {ts : List Expr} : PGs X ts (RGs c ts) := ⟨fun pins s σ H vs us Q I r ⟨⟨_, _, a, q, w⟩⟩ => thn ((a X h).run pins s σ H vs us _ I r q) fun _ _ ⟨σ', H', I', q'⟩ => ⟨σ', H', I', w _ _ q'⟩⟩
theorem pi_ri {tg it : Expr} : PI X tg it (RI c tg it) := ⟨fun pins s σ H R I ⟨⟨_, _, a, q, w⟩⟩ => thn ((a X h).run pins s σ H _ I q) fun _ _ z => thn z fun _ _ ⟨it, fp, tn, J, H', e, I', T, t0, f, q'⟩ => ⟨it, fp, tn, J, H', e, I', T, t0, f, w _ _ q'⟩⟩
theorem EP.le {pins : List (Addr × Obj)} {σ : L2.St} {Q' Q : VK} {u : Value} {s' : Shared} (w : ∀ v H', Q' v H' → Q v H') : EP X pins σ Q' u s' → EP X pins σ Q u s' := fun ⟨v, H', I', r, q'⟩ => ⟨v, H', I', r, w _ _ q'⟩
theorem op_ro {op : Operator} : OpR X (binaryOp op) (RO c op) := fun pins s σ H x y v u Q I r1 r2 ⟨⟨_, _, a, q, w⟩⟩ => thn (a X h pins s σ H x y v u _ I r1 r2 q) fun _ _ z => EP.le h w z
theorem op_rq {op : CmpOp} : OpR X (compareOp op) (RQ c op) := fun pins s σ H x y v u Q I r1 r2 ⟨⟨_, _, a, q, w⟩⟩ => thn (a X h pins s σ H x y v u _ I r1 r2 q) fun _ _ z => EP.le h w z
theorem un_ru {f : UnaryOp} : UnR X (unaryOp f) (RU c f) := fun pins s σ H x v Q I r ⟨⟨_, _, a, q, w⟩⟩ => thn (a X h pins s σ H x v _ I r q) fun _ _ z => EP.le h w z
theorem call_rc {f : Value} : CallR X f (RC c f) := fun pins s σ H xs us Q I r ⟨⟨_, _, a, q, w⟩⟩ => thn (a X h pins s σ H xs us _ I r q) fun _ _ z => EP.le h w z
theorem ix_rx : IxR X (RX c) := by
  intro value slice pins s σ H x y v u Q I r1 r2 q0 hs
  obtain ⟨⟨_, _, a, q, w⟩⟩ := q0
  exact thn (a X h value slice pins s σ H x y v u _ I r1 r2 q hs) fun _ _ z => EP.le h w z
theorem sl_rs : SlR X (RSl c) := by
  intro pins s σ H x v vl vu lo hi sl Q I rx hs pl pu ⟨⟨_, _, a, q, w⟩⟩
  obtain ⟨T, id, h1, h2, h3⟩ := a X h pins s σ H x v vl vu lo hi sl _ I rx hs pl pu q
  exact ⟨T, id, h1, h2, thn h3 fun _ _ z => EP.le h w z⟩
theorem mt_rm {id : String} : MtR X id (RM c id) := by
  intro pins s σ H x xs v us Q I r1 r2 ⟨⟨_, _, a, q, w⟩⟩
  exact thn (a X h pins s σ H x xs v us _ I r1 r2 q) fun _ _ z => EP.le h w z
theorem set_rp : PSet X (RP c) := by
  intro pins s σ H o i v ov iv u Q I r1 r2 r3 ⟨⟨_, _, a, q, w⟩⟩
  exact thn (a X h pins s σ H o i v ov iv u _ I r1 r2 r3 q) fun _ _ ⟨H', I', q'⟩ => ⟨H', I', w _ q'⟩
theorem po_rp {e : Option Expr} : PO X e (RPo c e) := ⟨fun pins s σ H Q I ⟨⟨_, _, a, q, w⟩⟩ => thn ((a X h).run pins s σ H _ I q) fun _ _ ⟨o, H', I', p, q'⟩ => ⟨o, H', I', p, w _ _ q'⟩⟩
end
section
variable {c : Cd} {σ : L2.St} {H : Hp} {Q Q' : VK} {B B' : Bool → Hp → Prop} {D D' : Ends}
theorem re_of {e : Expr} {t : TE} (h : ∀ X, Is c X → PE X e t) (q : t σ H Q) : RE c e σ H Q := ⟨⟨t, Q, h, q, fun _ _ z => z⟩⟩
theorem rt_of {e : Expr} {t : TT} (h : ∀ X, Is c X → PT X e t) (q : t σ H B) : RT c e σ H B := ⟨⟨t, B, h, q, fun _ _ z => z⟩⟩
theorem rw_of {e : Expr} {t : TT} (h : ∀ X, Is c X → PW X e t) (q : t σ H B) : RW c e σ H B := ⟨⟨t, B, h, q, fun _ _ z => z⟩⟩
theorem rts_of {es : List Expr} {t : TT} (h : ∀ X, Is c X → PTs X es t) (q : t σ H B) : RTs c es σ H B := ⟨⟨t, B, h, q, fun _ _ z => z⟩⟩
theorem ra_of {es : List Expr} {t : TA} {Q : List V → Hp → Prop} (h : ∀ X, Is c X → PA X es t) (q : t σ H Q) : RA c es σ H Q := ⟨⟨t, Q, h, q, fun _ _ z => z⟩⟩
theorem rk_of {es : List Keyword} {t : TA} {Q : List V → Hp → Prop} (h : ∀ X, Is c X → PK X es t) (q : t σ H Q) : RPK c es σ H Q := ⟨⟨t, Q, h, q, fun _ _ z => z⟩⟩
theorem rs_of {st : Stmt} {t : TS} (h : ∀ X, Is c X → PS X st t) (q : t D σ H) : RS c st D σ H := ⟨⟨t, D, h, q, DLe.refl D⟩⟩
theorem rb_of {st : List Stmt} {t : TS} (h : ∀ X, Is c X → PSs X st t) (q : t D σ H) : RB c st D σ H := ⟨⟨t, D, h, q, DLe.refl D⟩⟩
theorem rg_of {tg : Expr} {t : TG} {v : V} {Q : L2.St → Hp → Prop} (h : ∀ X, Is c X → PG X tg t) (q : t v σ H Q) : RG c tg v σ H Q := ⟨⟨t, Q, h, q, fun _ _ z => z⟩⟩
theorem rgs_of {tg : List Expr} {t : TGs} {v : List V} {Q : L2.St → Hp → Prop} (h : ∀ X, Is c X → PGs X tg t) (q : t v σ H Q) : RGs c tg v σ H Q := ⟨⟨t, Q, h, q, fun _ _ z => z⟩⟩
theorem ri_of {tg it : Expr} {t : TI} {R : It → Hp → Prop} (h : ∀ X, Is c X → PI X tg it t) (q : t σ H R) : RI c tg it σ H R := ⟨⟨t, R, h, q, fun _ _ z => z⟩⟩
theorem ro_of {op : Operator} {r : R2} {x y : V} (h : ∀ X, Is c X → OpR X (binaryOp op) r) (q : r x y H Q) : RO c op x y H Q := ⟨⟨r, Q, h, q, fun _ _ z => z⟩⟩
theorem rq_of {op : CmpOp} {r : R2} {x y : V} (h : ∀ X, Is c X → OpR X (compareOp op) r) (q : r x y H Q) : RQ c op x y H Q := ⟨⟨r, Q, h, q, fun _ _ z => z⟩⟩
theorem ru_of {f : UnaryOp} {r : V → Hp → VK → Prop} {x : V} (h : ∀ X, Is c X → UnR X (unaryOp f) r) (q : r x H Q) : RU c f x H Q := ⟨⟨r, Q, h, q, fun _ _ z => z⟩⟩
theorem rc_of {f : Value} {r : List V → Hp → VK → Prop} {xs : List V} (h : ∀ X, Is c X → CallR X f r) (q : r xs H Q) : RC c f xs H Q := ⟨⟨r, Q, h, q, fun _ _ z => z⟩⟩
theorem rx_of {r : R2} {x y : V} (h : ∀ X, Is c X → IxR X r) (q : r x y H Q) : RX c x y H Q := ⟨⟨r, Q, h, q, fun _ _ z => z⟩⟩
theorem rsl_of {r : V → Option Int → Option Int → Hp → VK → Prop} {x : V} {l u : Option Int} (h : ∀ X, Is c X → SlR X r) (q : r x l u H Q) : RSl c x l u H Q := ⟨⟨r, Q, h, q, fun _ _ z => z⟩⟩
theorem rm_of {id : String} {r : V → List V → Hp → VK → Prop} {x : V} {xs : List V} (h : ∀ X, Is c X → MtR X id r) (q : r x xs H Q) : RM c id x xs H Q := ⟨⟨r, Q, h, q, fun _ _ z => z⟩⟩
theorem rp_of {r : TSet} {o i v : V} {Q : Hp → Prop} (h : ∀ X, Is c X → PSet X r) (q : r o i v H Q) : RP c o i v H Q := ⟨⟨r, Q, h, q, fun _ z => z⟩⟩
theorem rpo_of {e : Option Expr} {t : TO} {Q : Option Int → Hp → Prop} (h : ∀ X, Is c X → PO X e t) (q : t σ H Q) : RPo c e σ H Q := ⟨⟨t, Q, h, q, fun _ _ z => z⟩⟩
theorem RE.mono {e : Expr} (w : ∀ v H', Q v H' → Q' v H') : RE c e σ H Q → RE c e σ H Q' := fun ⟨⟨t, Q1, h, q, z⟩⟩ => ⟨⟨t, Q1, h, q, fun _ _ y => w _ _ (z _ _ y)⟩⟩
theorem RT.mono {e : Expr} (w : ∀ v H', B v H' → B' v H') : RT c e σ H B → RT c e σ H B' := fun ⟨⟨t, Q1, h, q, z⟩⟩ => ⟨⟨t, Q1, h, q, fun _ _ y => w _ _ (z _ _ y)⟩⟩
theorem RTs.mono {e : List Expr} (w : ∀ v H', B v H' → B' v H') : RTs c e σ H B → RTs c e σ H B' := fun ⟨⟨t, Q1, h, q, z⟩⟩ => ⟨⟨t, Q1, h, q, fun _ _ y => w _ _ (z _ _ y)⟩⟩
theorem RA.mono {e : List Expr} {Q Q' : List V → Hp → Prop} (w : ∀ v H', Q v H' → Q' v H') : RA c e σ H Q → RA c e σ H Q' := fun ⟨⟨t, Q1, h, q, z⟩⟩ => ⟨⟨t, Q1, h, q, fun _ _ y => w _ _ (z _ _ y)⟩⟩
theorem RG.mono {e : Expr} {v : V} {Q Q' : L2.St → Hp → Prop} (w : ∀ v H', Q v H' → Q' v H') : RG c e v σ H Q → RG c e v σ H Q' := fun ⟨⟨t, Q1, h, q, z⟩⟩ => ⟨⟨t, Q1, h, q, fun _ _ y => w _ _ (z _ _ y)⟩⟩
theorem RI.mono {tg it : Expr} {R R' : It → Hp → Prop} (w : ∀ v H', R v H' → R' v H') : RI c tg it σ H R → RI c tg it σ H R' := fun ⟨⟨t, Q1, h, q, z⟩⟩ => ⟨⟨t, Q1, h, q, fun _ _ y => w _ _ (z _ _ y)⟩⟩
theorem RO.mono {f : Operator} {x y : V} (w : ∀ v H', Q v H' → Q' v H') : RO c f x y H Q → RO c f x y H Q' := fun ⟨⟨t, Q1, h, q, z⟩⟩ => ⟨⟨t, Q1, h, q, fun _ _ y => w _ _ (z _ _ y)⟩⟩
theorem RS.mono {st : Stmt} (w : DLe D D') : RS c st D σ H → RS c st D' σ H := fun ⟨⟨t, Q1, h, q, z⟩⟩ => ⟨⟨t, Q1, h, q, z.trans w⟩⟩
theorem RB.mono {st : List Stmt} (w : DLe D D') : RB c st D σ H → RB c st D' σ H := fun ⟨⟨t, Q1, h, q, z⟩⟩ => ⟨⟨t, Q1, h, q, z.trans w⟩⟩
end
theorem kEq {c : Cd} {X : Cx} (h : Is c X) {p : PySem.W.Frag → Prop} (a : p X.K) : p c.K := h.K ▸ a

/-- the place of a name -/
inductive At : List Str → Nat → Str → Prop
  | z {x : Str} {l : List Str} : At (x :: l) 0 x
  | s {x y : Str} {l : List Str} {i : Nat} (h : At l i x) : At (y :: l) (i + 1) x
theorem At.get {x : Str} : ∀ {l : List Str} {i : Nat}, At l i x → l[i]? = some x
  | _, _, .z => rfl
  | _, _, .s h => by simpa using At.get h
/-! ### expressions -/
section
variable {c : Cd} {σ : L2.St} {H : Hp} {Q : VK} {pos : Pos}
theorem e_int {i : Int} {j} (q : Q (.int i) H) : RE c (.Constant (.int i) j pos) σ H Q := re_of (fun _ _ => pe_int) q
theorem e_bl {b : Bool} {j} (q : Q (.bl b) H) : RE c (.Constant (.bool b) j pos) σ H Q := re_of (fun _ _ => pe_bl) q
theorem e_non {j} (q : Q .non H) : RE c (.Constant .none j pos) σ H Q := re_of (fun _ _ => pe_non) q
theorem e_str {x : Str} {j} (q : Q (.str x) H) : RE c (.Constant (.str x) j pos) σ H Q := re_of (fun _ _ => pe_str) q
theorem e_var {i : Nat} {x : Str} {v : V} (hA : At c.N i x) (q : Q v H) (hσ : σ[i]? = some (some v) := by rfl)
    (hv : Vis c.sc x := by first | exact Or.inl rfl | exact Or.inr (Or.inl rfl) | exact Or.inr (Or.inr rfl)) (hd : (x == ("__debug__" : Str)) = false := by decide) (hcd : (x == ("__classdict__" : Str)) = false := by decide) :
    RE c (.Name x pos) σ H Q := re_of (fun X h => pe_var (i := i) (by rw [h.N]; exact hA.get) (by rw [h.sc]; exact hv) hd hcd) ⟨v, hσ, q⟩
theorem gl_of {X : Cx} (h : Is c X) {x : Str} (hg : c.sc.names.lookup x = some .globalImplicit) : Gl X x := by
  show X.env.scope.names.lookup x = _
  rw [h.sc]; exact hg
/-- a module's constant -/
theorem e_glob {x : Str} {v : V} {u : Value} (hm : c.mg x = some u) (r : RelV v u) (q : Q v H) (hg : c.sc.names.lookup x = some .globalImplicit := by rfl) (hd : (x == ("__debug__" : Str)) = false := by decide) : RE c (.Name x pos) σ H Q :=
  re_of (fun X h => pe_glob (gl_of h hg) (by rw [h.mg]; exact hm) r hd) q
theorem e_bltn {x : Str} {v : V} {u : Value} (hm : c.mg x = none) (hv : bootBuiltins x = some u) (r : RelV v u) (q : Q v H) (hg : c.sc.names.lookup x = some .globalImplicit := by rfl) (hn : x ≠ "__name__" := by decide) (hd : (x == ("__debug__" : Str)) = false := by decide) :
    RE c (.Name x pos) σ H Q := re_of (fun X h => pe_bltn (gl_of h hg) (by rw [h.mg]; exact hm) hv r hn hd) q
theorem e_bin {a b : Expr} {op : Operator} (q : RE c a σ H fun x H1 => RE c b σ H1 fun y H2 => RO c op x y H2 Q) : RE c (.BinOp a op b pos) σ H Q :=
  re_of (fun X h => pe_op (op_ro h) (pe_re h) (pe_re h)) q
theorem e_un {a : Expr} {op : UnaryOp} (q : RE c a σ H fun x H1 => RU c op x H1 Q) : RE c (.UnaryOp op a pos) σ H Q :=
  re_of (fun X h => pe_un (un_ru h) (pe_re h)) q
theorem e_cmp {a b : Expr} {op : CmpOp} (q : RE c a σ H fun x H1 => RE c b σ H1 fun y H2 => RQ c op x y H2 Q) (hm : behindInMarks op b = false := by first | rfl | exact nomark _) : RE c (.Compare a [op] [b] pos) σ H Q :=
  re_of (fun X h => pe_cmpR (op_rq h) (pe_re h) (pe_re h) hm) q
theorem e_chain {a b d : Expr} {op op' : CmpOp} (q : RE c a σ H fun x H1 => RE c b σ H1 fun y H2 => RQ c op x y H2 fun z H3 => ∃ k, z = .bl k ∧ (if k = true then RE c d σ H3 fun w' H4 => RQ c op' y w' H4 Q else Q (.bl false) H3))
    (hm : lastMarks [op, op'] [b, d] = false := by with_unfolding_all rfl) : RE c (.Compare a [op, op'] [b, d] pos) σ H Q :=
  re_of (t := tChain (RQ c op) (RQ c op') (RE c a) (RE c b) (RE c d)) (fun X h => pe_chain (op_rq h) (op_rq h) (pe_re h) (pe_re h) (pe_re h) hm) q
theorem e_one {a : Expr} {op} (q : RE c a σ H Q) : RE c (.BoolOp op [a] pos) σ H Q := re_of (fun X h => pe_one (pe_re h)) q
theorem e_and {a b : Expr} {rest : List Expr} (q : RE c a σ H fun x H1 => ∃ k, x = .bl k ∧ if k = true then RE c (.BoolOp .And (b :: rest) pos) σ H1 Q else Q (.bl false) H1) : RE c (.BoolOp .And (a :: b :: rest) pos) σ H Q :=
  re_of (fun X h => pe_and (pe_re h) (pe_re h)) q
theorem e_or {a b : Expr} {rest : List Expr} (q : RE c a σ H fun x H1 => ∃ k, x = .bl k ∧ if k = true then Q (.bl true) H1 else RE c (.BoolOp .Or (b :: rest) pos) σ H1 Q) : RE c (.BoolOp .Or (a :: b :: rest) pos) σ H Q :=
  re_of (fun X h => pe_or (pe_re h) (pe_re h)) q
theorem e_not {a : Expr} (q : RE c a σ H fun x H1 => ∃ k, x = .bl k ∧ Q (.bl (!k)) H1) : RE c (.UnaryOp .Not a pos) σ H Q :=
  re_of (fun X h => pe_not (pe_re h)) q
theorem e_if {a b d : Expr} (q : RT c d σ H fun k H1 => if k = true then RE c a σ H1 Q else RE c b σ H1 Q) : RE c (.IfExp d a b pos) σ H Q :=
  re_of (fun X h => pe_ifExp (pt_rt h) (pe_re h) (pe_re h)) q
theorem a_nil {Q : List V → Hp → Prop} (q : Q [] H) : RA c [] σ H Q := ra_of (fun _ _ => pa_nil) q
theorem a_cons {Q : List V → Hp → Prop} {e : Expr} {es : List Expr} (q : RE c e σ H fun x H1 => RA c es σ H1 fun xs H2 => Q (x :: xs) H2) (hs : ∀ env, starEach (e :: es) env = (false, eval e env) :: starEach es env := by intro _; rfl) : RA c (e :: es) σ H Q :=
  ra_of (fun X h => pa_cons (pe_re h) (pa_ra h) (hs _)) q
theorem e_tup {es : List Expr} {x1} (q : RA c es σ H fun xs H1 => xs.length ≤ sizeLine ∧ ∀ p, H1 p = none → Q (.ref p) (upd H1 p (.tup xs))) : RE c (.Tuple es x1 pos) σ H Q :=
  re_of (fun X h => pe_tup (pa_ra h)) q
theorem e_lst {es : List Expr} (q : RA c es σ H fun xs H1 => xs.length ≤ sizeLine ∧ ∀ p, H1 p = none → Q (.ref p) (upd H1 p (.lst xs))) : RE c (.List es pos) σ H Q :=
  re_of (fun X h => pe_lst (pa_ra h)) q
theorem e_ix {a b : Expr} (q : RE c a σ H fun x H1 => RE c b σ H1 fun y H2 => RX c x y H2 Q) (hs : PlainIx b := by intro _ _; rfl) : RE c (.Subscript a b pos) σ H Q :=
  re_of (fun X h => pe_ix (ix_rx h) (pe_re h) (pe_re h) hs) q
theorem e_dget {a b : Expr} (q : RE c a σ H fun x H1 => RE c b σ H1 fun y H2 => ∃ a v, x = .ref a ∧ DGet H2 a y (some v) ∧ Q v H2) (hs : NoSl b := by intro _ _; rfl) : RE c (.Subscript a b pos) σ H Q :=
  re_of (fun X h => pe_dget (by have := h.room.units; omega) (pe_re h) (pe_re h) hs) q
theorem p_none {Q : Option Int → Hp → Prop} (q : Q none H) : RPo c none σ H Q := rpo_of (fun _ _ => po_none) q
theorem p_some {e : Expr} {Q : Option Int → Hp → Prop} (q : RE c e σ H fun x H1 => ∃ i, x = .int i ∧ Q (some i) H1) : RPo c (some e) σ H Q := rpo_of (fun _ h => po_some (pe_re h)) q
theorem e_slice {e : Expr} {lo hi : Option Expr} {p2 : Pos} (q : RE c e σ H fun x H1 => RPo c lo σ H1 fun l H2 => RPo c hi σ H2 fun u H3 => RSl c x l u H3 Q) : RE c (.Subscript e (.Slice lo hi none p2) pos) σ H Q :=
  re_of (fun _ h => pe_slice (sl_rs h) (pe_re h) (po_rp h) (po_rp h)) q
/-! ### defs, where no text of an object is being written (what repr asks for) -/
structure FnQ (P : Program) (w : World) (K : PySem.W.Frag) (mg : Str → Option Value) (base : Heap) (CX : CXT) (k : Nat) (f : Addr) (fd : FuncData) (ps : List Str) (sp : Sp) : Prop where
  len : ∀ vs H Q E, sp vs H Q E → vs.length = ps.length
  run : ∀ (A : Around) (up : List Env) (st : Shared) (H : Hp) (ag : Args) (us : List Value) (vs : List V) (Q : VK) (E : XK), A.guards = some [] → Room k A → Env0 P w K mg base A up st H → BindsTo st fd ag (ps.zip us) → Vals vs us → sp vs H Q E →
    codeAny (model P w) A (.call (.ref f) ag) (CR CX up P w H st Q E) st
theorem fnQ_of {CX : CXT} {P : Program} {w : World} {K : PySem.W.Frag} {mg : Str → Option Value} {base : Heap} {k : Nat} {f : Addr} {x qual : Str} {pas : Arguments} {bd : List Stmt} {sco : Scope} {dV kV doc pm cdv ct oc : Value} {an od : Option Addr} {osl : Array (Option Value)} {N ps : List Str} {sp : Sp}
    (at_ : K.lookup f = some ⟨oc, od, .func (PySem.W.fnOf x qual pas bd sco dV kV doc pm an cdv ct), osl⟩) (cod : PySem.W.codeIn K cdv qual = true) (S : FnScope N ps sco) (len : ∀ vs H Q E, sp vs H Q E → vs.length = ps.length)
    (walk : ∀ (A : Around) (up : List Env) (st : Shared) (H : Hp) (vs : List V) (Q : VK) (E : XK), A.guards = some [] → Room k (A.deeper (envOfC qual sco st.heap.objs.size f cdv)) → sp vs H Q E →
      ∃ t, PSs (cxOf CX P w K mg base N qual sco f cdv A up st H E) bd t ∧ t { nx := fun _ H' => Q .non H', rt := Q } (start N vs) H) : FnQ P w K mg base CX (k + 1) f (PySem.W.fnOf x qual pas bd sco dV kV doc pm an cdv ct) ps sp := by
  refine ⟨len, fun A up st H ag us vs Q E quiet room en bt vv want => ?_⟩
  have many := len vs H Q E want
  have here : ∀ b o, base.get? b = some o → st.heap.get? b = some o := fun b o e => (en.bs b o e).1
  have inK : K.In st.heap := en.mod.kin.keeps here
  have free : st.heap.NoLimit := en.mod.nolimit.keeps here
  have kinds : ∀ z ∈ ps.zip us, sco.names.lookup z.1 = some .local ∨ (sco.names.lookup z.1 = some .cell ∧ ((cellsFrom (st.heap.objs.size + 1) sco.names []).lookup z.1).isSome = true) := by
    rintro ⟨n, v⟩ hz
    exact (S.par n (List.of_mem_zip hz).1).imp id fun q => ⟨q, PySem.W.cellsFrom_some _ _ _ (.inl q)⟩
  refine codeAny_call_function room.depth (inK _ _ at_) rfl S.co S.gen rfl (PySem.W.codeRec_of inK cod) (bt _ _ _ _ (wpAny_newFunctionEnv_cells S.kind kinds fun env same s1 made => ?_))
  subst same
  refine ⟨free.keeps made.toInCall.keep, codeAny_func ?_⟩
  obtain ⟨t, runs, goal⟩ := walk A up st H vs Q E quiet (room.deeper _) want
  have J : Inv (cxOf CX P w K mg base N qual sco f cdv A up st H E) [] (start N vs) H s1 := inv_start S room.hd en many vv made
  refine wpAny_mono (runs.run [] s1 (start N vs) H _ J goal) (fun fl s2 e => ?_) fun _ _ e => e
  cases fl with
  | ret u => exact let ⟨v, _, H2, J2, rv, q⟩ := e; ⟨v, H2, J2.os, J2.bare, J2.base, J2.hok, rv, q⟩
  | next => exact let ⟨_, H2, J2, q⟩ := e; ⟨V.non, H2, J2.os, J2.bare, J2.base, J2.hok, (rfl : Value.none = Value.none), q⟩
  | brk => exact (let ⟨_, _, _, q⟩ := e; False.elim q)
  | cont => exact (let ⟨_, _, _, q⟩ := e; False.elim q)
section
variable {X : Cx} {k : Nat} {f : Addr} {fd : FuncData} {ps : List Str} {sp : Sp} {dvs : List V} {ds : List Value} {x : Str} {p pos : Pos} {e : Expr} {es : List Expr} {t : TA}
abbrev noX : CXT := fun _ _ _ _ _ _ => False
theorem runQ {pins : List (Addr × Obj)} {σ : L2.St} {H : Hp} {st : Shared} {Q : VK} {us : List Value} {vs : List V} (F : FnQ X.prog X.w X.K X.mg X.base noX k f fd ps sp) (quiet : X.A.guards = some []) (room : Room k X.A) (bn : Binds X.K fd ps ds) (dv : Vals dvs ds)
    (J : Inv X pins σ H st) (vv : Vals vs us) (want : sp (vs ++ dvs) H Q fun _ _ _ => False) : wpAny (model X.prog X.w) X.A (call (.ref f) us) (EP X pins σ Q) X.xe st := by
  have all := vv.append dv
  have many : (us ++ ds).length = ps.length := all.length.symm.trans (F.len _ _ _ _ want)
  refine wpAny_call (codeAny_mono (F.run X.A X.stack st H ⟨us, []⟩ _ _ Q _ quiet room J.env0 (bn st us J.kIn many) all want) fun r s2 z => ?_)
  match r, z with
  | .ok (.ret u), z => exact J.after z
theorem peQ_call (F : FnQ X.prog X.w X.K X.mg X.base noX k f fd ps sp) (quiet : X.A.guards = some []) (room : Room k X.A) (gl : Gl X x) (hm : X.mg x = some (.ref f)) (kp : PySem.W.keepIn X.K (.ref f) = true) (bn : Binds X.K fd ps ds) (dv : Vals dvs ds)
    (ha : PA X (e :: es) t) (hdb : (x == ("__debug__" : Str)) = false) (he : starEach (e :: es) X.env = (false, eval e X.env) :: starEach es X.env) (hpl : (backTo pos (starEach es X.env)).any (·.1) = false) : PE X (.Call (.Name x p) (e :: es) [] pos) (tCall sp dvs (fun _ _ _ => False) t) := by
  constructor
  intro pins st σ H Q J z
  apply wpAny_Call_Name_kw
  apply ld_glob J gl hm _ hdb
  exact PySem.W.callWith_K (h₀ := X.base) J.ok.mod.kin kp (thn (ha.run pos pins st σ H _ J z) fun us s1 ⟨vs, H1, J1, vv, q⟩ => ⟨J1.kIn, runQ F quiet room bn dv J1 vv q⟩) he hpl
theorem peQ_call0 (F : FnQ X.prog X.w X.K X.mg X.base noX k f fd ps sp) (quiet : X.A.guards = some []) (room : Room k X.A) (gl : Gl X x) (hm : X.mg x = some (.ref f)) (kp : PySem.W.keepIn X.K (.ref f) = true) (bn : Binds X.K fd ps ds) (dv : Vals dvs ds)
    (hdb : (x == ("__debug__" : Str)) = false) : PE X (.Call (.Name x p) [] [] pos) (tCall sp dvs (fun _ _ _ => False) tNil) := by
  constructor
  intro pins st σ H Q J z
  apply wpAny_Call_Name_kw
  apply ld_glob J gl hm _ hdb
  exact PySem.W.callWith_K0 J.kIn kp (runQ (us := []) F quiet room bn dv J .nil z)
end
abbrev FnG := @FnOk
/-! ### calls -/
/-- a def at the module's name x -/
structure Dc (c : Md) (x : Str) (ps : List Str) (k : Nat) (sp : Sp) : Prop where
  ex : ∃ (f : Addr) (fd : FuncData), FnG c.prog c.w c.K c.mg c.base noX k f fd ps sp ∧ c.mg x = some (.ref f) ∧ PySem.W.keepIn c.K (.ref f) = true ∧ Binds c.K fd ps []
theorem e_call {x : Str} {p : Pos} {e : Expr} {es : List Expr} {ps : List Str} {k : Nat} {sp : Sp} (D : Dc c.toMd x ps k sp) (q : RA c (e :: es) σ H fun vs H1 => sp vs H1 Q fun _ _ _ => False) (hk : k ≤ c.k := by exact Nat.le_of_ble_eq_true rfl) (hg : c.sc.names.lookup x = some .globalImplicit := by rfl)
    (hdb : (x == ("__debug__" : Str)) = false := by decide) (he : ∀ env, starEach (e :: es) env = (false, eval e env) :: starEach es env := by intro _; rfl) (hpl : ∀ env, (backTo pos (starEach es env)).any (·.1) = false := by intro _; rfl) :
    RE c (.Call (.Name x p) (e :: es) [] pos) σ H Q := by
  obtain ⟨f, fd, F, hm, hkp, hb⟩ := D.ex
  refine re_of (t := tCall sp [] (fun _ _ _ => False) (RA c (e :: es))) (fun X h => ?_) ?_
  · refine pe_call (CX := fun _ _ _ _ _ _ => False) (k := k) (f := f) (fd := fd) (ps := ps) (ds := []) ?_ (h.room.mono hk) (gl_of h hg) (by rw [h.mg]; exact hm) (by rw [h.K]; exact hkp) (by rw [h.K]; exact hb) .nil (fun _ _ _ _ _ _ _ z => z.elim) (pa_ra h) hdb (he _) (hpl _)
    rw [h.prog, h.w, h.K, h.mg, h.base]; exact F
  · show RA c (e :: es) σ H fun vs H1 => sp (vs ++ []) H1 Q fun _ _ _ => False
    simpa only [List.append_nil] using q
theorem e_call0 {x : Str} {p : Pos} {ps : List Str} {k : Nat} {sp : Sp} (D : Dc c.toMd x ps k sp) (q : sp [] H Q fun _ _ _ => False) (hk : k ≤ c.k := by exact Nat.le_of_ble_eq_true rfl) (hg : c.sc.names.lookup x = some .globalImplicit := by rfl)
    (hdb : (x == ("__debug__" : Str)) = false := by decide) : RE c (.Call (.Name x p) [] [] pos) σ H Q := by
  obtain ⟨f, fd, F, hm, hkp, hb⟩ := D.ex
  refine re_of (t := tCall sp [] (fun _ _ _ => False) tNil) (fun X h => ?_) q
  refine pe_call0 (CX := fun _ _ _ _ _ _ => False) (k := k) (f := f) (fd := fd) (ps := ps) (ds := []) ?_ (h.room.mono hk) (gl_of h hg) (by rw [h.mg]; exact hm) (by rw [h.K]; exact hkp) (by rw [h.K]; exact hb) .nil (fun _ _ _ _ _ _ _ z => z.elim) hdb
  rw [h.prog, h.w, h.K, h.mg, h.base]; exact F
/-- a def at the module's name x -/
structure DcQ (c : Md) (x : Str) (ps : List Str) (k : Nat) (sp : Sp) : Prop where
  ex : ∃ (f : Addr) (fd : FuncData), FnQ c.prog c.w c.K c.mg c.base noX k f fd ps sp ∧ c.mg x = some (.ref f) ∧ PySem.W.keepIn c.K (.ref f) = true ∧ Binds c.K fd ps []
theorem e_callQ {x : Str} {p : Pos} {e : Expr} {es : List Expr} {ps : List Str} {k : Nat} {sp : Sp} (D : DcQ c.toMd x ps k sp) (q : RA c (e :: es) σ H fun vs H1 => sp vs H1 Q fun _ _ _ => False) (hq : c.g = true := by rfl) (hk : k ≤ c.k := by exact Nat.le_of_ble_eq_true rfl) (hg : c.sc.names.lookup x = some .globalImplicit := by rfl)
    (hdb : (x == ("__debug__" : Str)) = false := by decide) (he : ∀ env, starEach (e :: es) env = (false, eval e env) :: starEach es env := by intro _; rfl) (hpl : ∀ env, (backTo pos (starEach es env)).any (·.1) = false := by intro _; rfl) :
    RE c (.Call (.Name x p) (e :: es) [] pos) σ H Q := by
  obtain ⟨f, fd, F, hm, hkp, hb⟩ := D.ex
  refine re_of (t := tCall sp [] (fun _ _ _ => False) (RA c (e :: es))) (fun X h => ?_) ?_
  · refine peQ_call (k := k) (f := f) (fd := fd) (ps := ps) (ds := []) ?_ (h.gd hq) (h.room.mono hk) (gl_of h hg) (by rw [h.mg]; exact hm) (by rw [h.K]; exact hkp) (by rw [h.K]; exact hb) .nil (pa_ra h) hdb (he _) (hpl _)
    rw [h.prog, h.w, h.K, h.mg, h.base]; exact F
  · show RA c (e :: es) σ H fun vs H1 => sp (vs ++ []) H1 Q fun _ _ _ => False
    simpa only [List.append_nil] using q
theorem e_callQ0 {x : Str} {p : Pos} {ps : List Str} {k : Nat} {sp : Sp} (D : DcQ c.toMd x ps k sp) (q : sp [] H Q fun _ _ _ => False) (hq : c.g = true := by rfl) (hk : k ≤ c.k := by exact Nat.le_of_ble_eq_true rfl) (hg : c.sc.names.lookup x = some .globalImplicit := by rfl)
    (hdb : (x == ("__debug__" : Str)) = false := by decide) : RE c (.Call (.Name x p) [] [] pos) σ H Q := by
  obtain ⟨f, fd, F, hm, hkp, hb⟩ := D.ex
  refine re_of (t := tCall sp [] (fun _ _ _ => False) tNil) (fun X h => ?_) q
  refine peQ_call0 (k := k) (f := f) (fd := fd) (ps := ps) (ds := []) ?_ (h.gd hq) (h.room.mono hk) (gl_of h hg) (by rw [h.mg]; exact hm) (by rw [h.K]; exact hkp) (by rw [h.K]; exact hb) .nil hdb
  rw [h.prog, h.w, h.K, h.mg, h.base]; exact F
theorem e_callB {x : Str} {id : String} {p : Pos} {e : Expr} {es : List Expr} (hm : c.mg x = none) (hv : bootBuiltins x = some (.builtin id)) (q : RA c (e :: es) σ H fun vs H1 => RC c (.builtin id) vs H1 Q) (hg : c.sc.names.lookup x = some .globalImplicit := by rfl) (hn : x ≠ "__name__" := by decide) (hdb : (x == ("__debug__" : Str)) = false := by decide)
    (he : ∀ env, starEach (e :: es) env = (false, eval e env) :: starEach es env := by intro _; rfl) (hpl : ∀ env, (backTo pos (starEach es env)).any (·.1) = false := by intro _; rfl) : RE c (.Call (.Name x p) (e :: es) [] pos) σ H Q :=
  re_of (fun X h => pe_callB (call_rc h) (gl_of h hg) (by rw [h.mg]; exact hm) hv (pa_ra h) hn hdb (he _) (hpl _)) q
theorem e_callT {x : Str} {T : String} {p : Pos} {e : Expr} {es : List Expr} (hm : c.mg x = none) (hv : bootBuiltins x = some (.type T)) (q : RA c (e :: es) σ H fun vs H1 => RC c (.type T) vs H1 Q) (hg : c.sc.names.lookup x = some .globalImplicit := by rfl) (hn : x ≠ "__name__" := by decide) (hdb : (x == ("__debug__" : Str)) = false := by decide)
    (he : ∀ env, starEach (e :: es) env = (false, eval e env) :: starEach es env := by intro _; rfl) (hpl : ∀ env, (backTo pos (starEach es env)).any (·.1) = false := by intro _; rfl) : RE c (.Call (.Name x p) (e :: es) [] pos) σ H Q :=
  re_of (fun X h => pe_callTy (call_rc h) (gl_of h hg) (by rw [h.mg]; exact hm) hv (pa_ra h) hn hdb (he _) (hpl _)) q
/-- o.name(e, ..), a builtin's method -/
theorem e_bm {T id : String} {o e : Expr} {es : List Expr} {name : Str} {apos : Pos} (pa : PlainAttrs T) (slot : Slot T name id) (hty : typeOf (.builtin id) = pure (.type "method_descriptor")) (q : RE c o σ H fun x H1 => tyV c.K T x H1 ∧ RA c (e :: es) σ H1 fun xs H2 => RM c id x xs H2 Q)
    (hbase : ∀ env, attributeBase o name env (eval o env) = eval o env := by intro _; rfl)
    (hfew : ∀ env, ((backTo pos (starEach (e :: es) env)).all (fun x => !x.1) && (backToKw pos (keywordEach [] env)).all (fun x => x.1.isSome)
      && decide ((e :: es).length + ([] : List Keyword).length + (if ([] : List Keyword).isEmpty then 0 else 1) < 30)) = true := by intro _; rfl)
    (hline : (apos.endLine == pos.line) = true := by rfl) (hs : ∀ env, starEach (e :: es) env = (false, eval e env) :: starEach es env := by intro _; rfl) (hplain : ∀ env, (backTo pos (starEach es env)).any (·.1) = false := by intro _; rfl) :
    RE c (.Call (.Attribute o name apos) (e :: es) [] pos) σ H Q := by
  refine re_of (t := tBM c.K T (RM c id) (RE c o) (RA c (e :: es))) (fun X h => ?_) q
  rw [← h.K]
  exact pe_bm pa slot hty (mt_rm h) (pe_re h) (pa_ra h) (hbase _) (hfew _) hline (hs _) (hplain _)
theorem e_bm0 {T id : String} {o : Expr} {name : Str} {apos : Pos} (pa : PlainAttrs T) (slot : Slot T name id) (hty : typeOf (.builtin id) = pure (.type "method_descriptor")) (q : RE c o σ H fun x H1 => tyV c.K T x H1 ∧ RM c id x [] H1 Q)
    (hbase : ∀ env, attributeBase o name env (eval o env) = eval o env := by intro _; rfl) (hline : (apos.endLine == pos.line) = true := by rfl) : RE c (.Call (.Attribute o name apos) [] [] pos) σ H Q := by
  refine re_of (t := tBM0 c.K T (RM c id) (RE c o)) (fun X h => ?_) q
  rw [← h.K]
  exact pe_bm0 pa slot hty (mt_rm h) (pe_re h) (hbase _) hline

/-! ### tests -/
variable {R : Bool → Hp → Prop}
theorem t_val {e : Expr} (q : RE c e σ H fun x H1 => ∃ k, x = .bl k ∧ R k H1) (he : ∀ env whole, isTrue e env whole = (do let v ← whole; standAt e.pos; holding [v] (truthy v)) := by intro _ _; rfl) : RT c e σ H R :=
  rt_of (fun X h => pt_val (pe_re h) (he _)) q
theorem t_tru {e : Expr} (q : RE c e σ H fun x H1 => ∃ k, TruV c.K x H1 k ∧ R k H1) (he : ∀ env whole, isTrue e env whole = (do let v ← whole; standAt e.pos; holding [v] (truthy v)) := by intro _ _; rfl) : RT c e σ H R :=
  rt_of (t := fun σ H Q => RE c e σ H fun x H' => ∃ k, TruV c.K x H' k ∧ Q k H') (fun X h => by rw [← h.K]; exact pt_truth (pe_re h) (he _)) q
theorem t_cmp {a b : Expr} {op : CmpOp} (q : RE c a σ H fun x H1 => RE c b σ H1 fun y H2 => RQ c op x y H2 fun z H3 => ∃ k, z = .bl k ∧ R k H3) (hm : behindInMarks op b = false := by first | rfl | exact nomark _) : RT c (.Compare a [op] [b] pos) σ H R :=
  rt_of (fun X h => pt_cmpR (op_rq h) (pe_re h) (pe_re h) hm) q
theorem t_chain {a b d : Expr} {op op' : CmpOp} (q : RE c a σ H fun x H1 => RE c b σ H1 fun y H2 => RQ c op x y H2 fun z H3 => ∃ k, z = .bl k ∧ (if k = true then RE c d σ H3 fun w' H4 => RQ c op' y w' H4 (fun z H5 => ∃ k, z = .bl k ∧ R k H5) else (∃ k, V.bl false = .bl k ∧ R k H3)))
    (hm : lastMarks [op, op'] [b, d] = false := by with_unfolding_all rfl) : RT c (.Compare a [op, op'] [b, d] pos) σ H R :=
  rt_of (t := tTest (tChain (RQ c op) (RQ c op') (RE c a) (RE c b) (RE c d))) (fun X h => pt_chain (op_rq h) (op_rq h) (pe_re h) (pe_re h) (pe_re h) hm) q
theorem t_not {a : Expr} (q : RT c a σ H fun k H1 => R (!k) H1) : RT c (.UnaryOp .Not a pos) σ H R := rt_of (fun X h => pt_not (pt_rt h)) q
theorem t_w {e : Expr} (q : RW c e σ H R) : RT c e σ H R := rt_of (fun X h => (pw_rw h).pt) q
theorem w_and1 {a : Expr} (q : RT c a σ H R) : RW c (.BoolOp .And [a] pos) σ H R := rw_of (fun X h => pw_and1 (pt_rt h)) q
theorem w_or1 {a : Expr} (q : RT c a σ H R) : RW c (.BoolOp .Or [a] pos) σ H R := rw_of (fun X h => pw_or1 (pt_rt h)) q
theorem w_and {a b : Expr} {rest : List Expr} (q : RT c a σ H fun k H1 => if k = true then RW c (.BoolOp .And (b :: rest) pos) σ H1 R else R false H1) : RW c (.BoolOp .And (a :: b :: rest) pos) σ H R :=
  rw_of (fun X h => pw_and (pt_rt h) (pw_rw h)) q
theorem w_or {a b : Expr} {rest : List Expr} (q : RT c a σ H fun k H1 => if k = true then R true H1 else RW c (.BoolOp .Or (b :: rest) pos) σ H1 R) : RW c (.BoolOp .Or (a :: b :: rest) pos) σ H R :=
  rw_of (fun X h => pw_or (pt_rt h) (pw_rw h)) q
/-! ### statements -/
variable {D : Ends} {nx : L2.St → Hp → Prop} {rt : VK} {bk ct : L2.St → Hp → Prop}
theorem b_nil (q : D.nx σ H) : RB c [] D σ H := rb_of (fun _ _ => pss_nil) q
theorem b_cons {st : Stmt} {rest : List Stmt} (q : RS c st ⟨fun σ1 H1 => RB c rest ⟨nx, rt, bk, ct⟩ σ1 H1, rt, bk, ct⟩ σ H) : RB c (st :: rest) ⟨nx, rt, bk, ct⟩ σ H := rb_of (t := tSeq (RS c st) (RB c rest)) (fun X h => pss_cons (ps_rs h) (ps_rb h)) q
/-- a statement, then the rest, with a word between them -/
theorem b_cut {st : Stmt} {rest : List Stmt} (Mid : L2.St → Hp → Prop) (q : RS c st ⟨Mid, rt, bk, ct⟩ σ H) (q2 : ∀ σ1 H1, Mid σ1 H1 → RB c rest ⟨nx, rt, bk, ct⟩ σ1 H1) : RB c (st :: rest) ⟨nx, rt, bk, ct⟩ σ H :=
  b_cons (RS.mono (D := ⟨Mid, rt, bk, ct⟩) (D' := ⟨fun σ1 H1 => RB c rest ⟨nx, rt, bk, ct⟩ σ1 H1, rt, bk, ct⟩) ⟨q2, fun _ _ h => h, fun _ _ h => h, fun _ _ h => h⟩ q)
theorem b_one {st : Stmt} (q : RS c st D σ H) : RB c [st] D σ H := rb_of (fun X h => pss_one (ps_rs h)) q
theorem s_pass (q : D.nx σ H) : RS c (.Pass pos) D σ H := rs_of (fun _ _ => ps_pass) q
theorem s_break (q : D.bk σ H) : RS c (.Break pos) D σ H := rs_of (fun _ _ => ps_break) q
theorem s_cont (q : D.ct σ H) : RS c (.Continue pos) D σ H := rs_of (fun _ _ => ps_continue) q
theorem s_ret {e : Expr} (q : RE c e σ H D.rt) : RS c (.Return (some e) pos) D σ H := rs_of (fun X h => ps_ret (pe_re h)) q
theorem s_retN (q : D.rt .non H) : RS c (.Return none pos) D σ H := rs_of (fun X h => ps_retN) q
theorem s_expr {e : Expr} (q : RE c e σ H fun _ H1 => D.nx σ H1) (hs : ∀ env, swapsWith e none pos.line env = pure false := by intro _; rfl) : RS c (.Expr e pos) D σ H := rs_of (fun X h => ps_expr (pe_re h) (hs _)) q
theorem s_if {d : Expr} {a b : List Stmt} (q : RT c d σ H fun k H1 => if k = true then RB c a D σ H1 else RB c b D σ H1) : RS c (.If d a b pos) D σ H := rs_of (fun X h => ps_if (pt_rt h) (ps_rb h) (ps_rb h)) q
theorem s_asg {tg e : Expr} (q : RE c e σ H fun x H1 => RG c tg x σ H1 D.nx) (hs : ∀ env, swapsWithSole [tg] e pos.line env = pure false := by intro _; rfl) (hw : ∀ env, swappedStores [tg] e env = pure none := by intro _; rfl)
    (h1 : ∀ env, (assignEach [tg] env).map (·.2) = [assign tg env] := by intro _; rfl) : RS c (.Assign [tg] e pos) D σ H := rs_of (fun X h => ps_asg (pe_re h) (pg_rg h) (hs _) (hw _) (h1 _)) q
theorem s_set {i : Nat} {x : Str} {e : Expr} {pos' : Pos} (hA : At c.N i x) (q : RE c e σ H fun v H1 => D.nx (σ.set i (some v)) H1) (hx : c.sc.names.lookup x = some .local ∨ (c.sc.names.lookup x = some .cell ∧ c.top = true) := by first | exact Or.inl rfl | exact Or.inr ⟨rfl, rfl⟩)
    (hs : ∀ env, swapsWith e (some (.Name x pos')) pos.line env = pure false := by intro _; rfl) : RS c (.Assign [.Name x pos'] e pos) D σ H := by
  refine rs_of (t := tAsg (RE c e) (gName i)) (fun X h => ?_) q
  refine ps_set (by rw [h.N]; exact h.nd) (by rw [h.N]; exact hA.get) ?_ (pe_re h) (hs _) ?_
  · rcases hx with z | z
    · exact .inl (by rw [h.sc]; exact z)
    · exact .inr (by rw [h.sc]; exact z.1)
  · rcases hx with z | z
    · exact .inr (by rw [h.sc]; exact z)
    · exact .inl (h.top z.2 _)
theorem g_name {i : Nat} {x : Str} {v : V} {R : L2.St → Hp → Prop} (hA : At c.N i x) (q : R (σ.set i (some v)) H) (hx : c.sc.names.lookup x = some .local ∨ (c.sc.names.lookup x = some .cell ∧ c.top = true) := by first | exact Or.inl rfl | exact Or.inr ⟨rfl, rfl⟩) : RG c (.Name x pos) v σ H R := by
  refine rg_of (t := gName i) (fun X h => ?_) q
  refine pg_name (by rw [h.N]; exact h.nd) (by rw [h.N]; exact hA.get) ?_ ?_
  · rcases hx with z | z
    · exact .inl (by rw [h.sc]; exact z)
    · exact .inr (by rw [h.sc]; exact z.1)
  · rcases hx with z | z
    · exact .inr (by rw [h.sc]; exact z)
    · exact .inl (h.top z.2 _)
theorem gs_nil {R : L2.St → Hp → Prop} (q : R σ H) : RGs c [] [] σ H R := rgs_of (fun _ _ => pgs_nil) ⟨rfl, q⟩
theorem gs_cons {e : Expr} {es : List Expr} {v : V} {vs : List V} {R : L2.St → Hp → Prop} (q : RG c e v σ H fun σ1 H1 => RGs c es vs σ1 H1 R) (hs : ∀ env, (assignEach (e :: es) env).map (·.2) = assign e env :: (assignEach es env).map (·.2) := by intro _; rfl) : RGs c (e :: es) (v :: vs) σ H R :=
  rgs_of (t := gCons (RG c e) (RGs c es)) (fun X h => pgs_cons (pg_rg h) (pg_rgs h) (hs _)) ⟨v, vs, rfl, q⟩
theorem g_tup {es : List Expr} {k : Nat} {a : Addr} {xs : List V} {n : Nat} {R : L2.St → Hp → Prop} (ht : SqT c.K H a xs) (q : RGs c es xs σ H R) (hl : xs.length = n := by rfl) (hn : ∀ env, (assignEach es env).length = n := by intro _; rfl) (hst : ∀ env, (assignEach es env).findIdx? (·.1) = none := by intro _; rfl) :
    RG c (.Tuple es k pos) (.ref a) σ H R := rg_of (t := gTup c.K n (RGs c es)) (fun X h => by rw [← h.K]; exact pg_tup h.calm (pg_rgs h) (hn _) (hst _)) ⟨a, xs, rfl, ht, hl, q⟩
theorem g_sub {o i : Expr} {v : V} {R : L2.St → Hp → Prop} (q : RE c o σ H fun x H1 => RE c i σ H1 fun y H2 => RP c x y v H2 fun H3 => R σ H3)
    (ha : ∀ env v, assign (.Subscript o i pos) env v = (do
      let ov ← holding [v] (eval o env)
      let iv ← holding [v, ov] (eval i env)
      standAt pos
      holding [v, ov, iv] (setItem ov iv v)
      release [v, ov, iv] []) := by intro _ _; rfl) : RG c (.Subscript o i pos) v σ H R := rg_of (fun X h => pg_sub (pe_re h) (pe_re h) (set_rp h) (ha _)) q
/-- d[k] = v -/
theorem s_dput {o i e : Expr} {pos' : Pos} (q : RE c e σ H fun v H1 => RE c o σ H1 fun x H2 => RE c i σ H2 fun y H3 => ∃ a H4, x = .ref a ∧ DPut H3 a y v H4 ∧ D.nx σ H4)
    (hs : ∀ env, swapsWith e (some (.Subscript o i pos')) pos.line env = pure false := by intro _; rfl) : RS c (.Assign [.Subscript o i pos'] e pos) D σ H :=
  rs_of (fun X h => ps_dput (by have := h.room.units; omega) (pe_re h) (pe_re h) (pe_re h) (hs _)) q
/-- a, b = x, y -/
theorem s_par {i j : Nat} {x y : Str} {a b : Expr} {px py pt : Pos} {kt k2 pt2} (hi : At c.N i x) (hj : At c.N j y) (q : RE c a σ H fun v H1 => RE c b σ H1 fun w H2 => D.nx ((σ.set i (some v)).set j (some w)) H2) (hij : i ≠ j := by decide)
    (hx : c.sc.names.lookup x = some .local := by rfl) (hy : c.sc.names.lookup y = some .local := by rfl)
    (hw : ∀ env : Env, env.scope = c.sc → swappedStores [.Tuple [.Name x px, .Name y py] kt pt] (.Tuple [a, b] k2 pt2) env = pure (some [x, y]))
    (hs : ∀ env, swapsWithSole [.Tuple [.Name x px, .Name y py] kt pt] (.Tuple [a, b] k2 pt2) pos.line env = pure false := by intro _; rfl)
    (h1 : ∀ env, starEach [a, b] env = (false, eval a env) :: starEach [b] env := by intro _; rfl) (h2 : ∀ env, starEach [b] env = (false, eval b env) :: starEach [] env := by intro _; rfl) :
    RS c (.Assign [.Tuple [.Name x px, .Name y py] kt pt] (.Tuple [a, b] k2 pt2) pos) D σ H := by
  refine rs_of (t := tPar i j (RA c [a, b])) (fun X h => ps_par h.calm (by rw [h.N]; exact h.nd) (by rw [h.N]; exact hi.get) (by rw [h.N]; exact hj.get) hij (by rw [h.sc]; exact hx) (by rw [h.sc]; exact hy) (pa_ra h) (hw _ h.sc) (hs _)) ?_
  refine a_cons (RE.mono (fun v H1 z => a_cons (RE.mono (fun w H2 z => a_nil ⟨v, w, rfl, z⟩) z) h2) q) h1

/-! ### what is walked -/
theorem i_list {tg l : Expr} {R : It → Hp → Prop} (q : RE c l σ H fun x H1 => ∃ a, x = .ref a ∧ (∃ xs, SqL c.K H1 a xs) ∧ R (Itl c.K a) H1) : RI c tg l σ H R :=
  ri_of (t := iList c.K (RE c l)) (fun X h => by rw [← h.K]; exact pi_list (pe_re h)) q
theorem i_tup {tg l : Expr} {R : It → Hp → Prop} (q : RE c l σ H fun x H1 => ∃ a, x = .ref a ∧ (∃ xs, SqT c.K H1 a xs) ∧ R (Itt c.K a) H1) : RI c tg l σ H R :=
  ri_of (t := iTup c.K (RE c l)) (fun X h => by rw [← h.K]; exact pi_tup (pe_re h)) q
theorem i_range1 {tg a : Expr} {p : Pos} {R : It → Hp → Prop} (hm : c.mg "range" = none) (q : RA c [a] σ H fun vs H1 => ∃ j : Int, vs = [.int j] ∧ -(2 ^ 62) ≤ j ∧ j < 2 ^ 62 ∧ R (Itr 0 j.toNat) H1) (hg : c.sc.names.lookup ("range" : Str) = some .globalImplicit := by rfl) (hs : ∀ env, starEach [a] env = [(false, eval a env)] := by intro _; rfl) :
    RI c tg (.Call (.Name "range" p) [a] [] pos) σ H R := ri_of (t := iRng1 (RA c [a])) (fun X h => pi_range1 (gl_of h hg) (by rw [h.mg]; exact hm) (pa_ra h) (hs _)) q
theorem i_range2 {tg a b : Expr} {p : Pos} {R : It → Hp → Prop} (hm : c.mg "range" = none) (q : RA c [a, b] σ H fun vs H1 => ∃ i j : Int, vs = [.int i, .int j] ∧ (-(2 ^ 62) ≤ i ∧ i < 2 ^ 62 ∧ -(2 ^ 62) ≤ j ∧ j < 2 ^ 62) ∧ R (Itr i (j - i).toNat) H1) (hg : c.sc.names.lookup ("range" : Str) = some .globalImplicit := by rfl)
    (hs : ∀ env, starEach [a, b] env = [(false, eval a env), (false, eval b env)] := by intro _; rfl) (hs2 : ∀ env, starEach [b] env = [(false, eval b env)] := by intro _; rfl) :
    RI c tg (.Call (.Name "range" p) [a, b] [] pos) σ H R := ri_of (t := iRng2 (RA c [a, b])) (fun X h => pi_range2 (gl_of h hg) (by rw [h.mg]; exact hm) (pa_ra h) (hs _) (hs2 _)) q

/-! ### loops -/
theorem s_for {tg iter : Expr} {body : List Stmt} (q : RI c tg iter σ H fun J H1 => ∃ W : Nat → Nat → L2.St → Hp → Prop, (∃ m, W 0 m σ H1) ∧ ∀ i m σ H, W i m σ H →
      (J.stop i H ∧ nx σ H) ∨ (J.go i H ∧ ∃ N : L2.St → Hp → Prop, (∀ σ' H', N σ' H' → ∃ m', m' < m ∧ W (i + 1) m' σ' H') ∧ ∀ x H', J.yld i H x H' → RG c tg x σ H' fun σ2 H2 => RB c body ⟨N, rt, nx, N⟩ σ2 H2))
    (hs : ∀ env x, foldedSetIterable iter env x = pure x := by intro _ _; rfl) : RS c (.For tg iter body [] pos) ⟨nx, rt, bk, ct⟩ σ H :=
  rs_of (t := tFor (RI c tg iter) (RG c tg) (RB c body)) (fun X h => ps_for h.own h.calm (pi_ri h) (pg_rg h) (ps_rb h) (hs _)) q
theorem s_forT {tg iter : Expr} {body : List Stmt} (q : RE c iter σ H fun x H1 => ∃ a xs, x = .ref a ∧ SqT c.K H1 a xs ∧ ∃ Pv : Nat → L2.St → Hp → Prop, Pv 0 σ H1 ∧ (∀ i σ' H', i ≤ xs.length → Pv i σ' H' → SqT c.K H' a xs) ∧
      (∀ i x σ' H', xs[i]? = some x → Pv i σ' H' → RG c tg x σ' H' fun σ2 H2 => RB c body ⟨Pv (i + 1), rt, nx, Pv (i + 1)⟩ σ2 H2) ∧ ∀ σ' H', Pv xs.length σ' H' → nx σ' H')
    (hs : ∀ env x, foldedSetIterable iter env x = pure x := by intro _ _; rfl) : RS c (.For tg iter body [] pos) ⟨nx, rt, bk, ct⟩ σ H := by
  refine s_for (i_tup (RE.mono (fun x H1 z => ?_) q)) hs
  obtain ⟨a, xs, rfl, ht, Pv, h0, hl, hs, hd⟩ := z
  exact ⟨a, rfl, ⟨xs, ht⟩, for_tup (tb := RB c body) (D := ⟨nx, rt, bk, ct⟩) Pv h0 hl hs hd⟩
theorem s_forL {tg iter : Expr} {body : List Stmt} (q : RE c iter σ H fun x H1 => ∃ a xs, x = .ref a ∧ SqL c.K H1 a xs ∧ ∃ Pv : Nat → L2.St → Hp → Prop, Pv 0 σ H1 ∧ (∀ i σ' H', i ≤ xs.length → Pv i σ' H' → SqL c.K H' a xs) ∧
      (∀ i x σ' H', xs[i]? = some x → Pv i σ' H' → RG c tg x σ' H' fun σ2 H2 => RB c body ⟨Pv (i + 1), rt, nx, Pv (i + 1)⟩ σ2 H2) ∧ ∀ σ' H', Pv xs.length σ' H' → nx σ' H')
    (hs : ∀ env x, foldedSetIterable iter env x = pure x := by intro _ _; rfl) : RS c (.For tg iter body [] pos) ⟨nx, rt, bk, ct⟩ σ H := by
  refine s_for (i_list (RE.mono (fun x H1 z => ?_) q)) hs
  obtain ⟨a, xs, rfl, ht, Pv, h0, hl, hs, hd⟩ := z
  exact ⟨a, rfl, ⟨xs, ht⟩, for_list (tb := RB c body) (D := ⟨nx, rt, bk, ct⟩) Pv h0 hl hs hd⟩
theorem s_forR1 {tg a : Expr} {p ppos : Pos} {body : List Stmt} (hm : c.mg "range" = none) (q : RE c a σ H fun x H1 => ∃ n : Int, x = .int n ∧ -(2 ^ 62) ≤ n ∧ n < 2 ^ 62 ∧ ∃ Pv : Nat → L2.St → Hp → Prop, Pv 0 σ H1 ∧
      (∀ i σ' H', i < n.toNat → Pv i σ' H' → RG c tg (.int (i : Int)) σ' H' fun σ2 H2 => RB c body ⟨Pv (i + 1), rt, nx, Pv (i + 1)⟩ σ2 H2) ∧ ∀ σ' H', Pv n.toNat σ' H' → nx σ' H')
    (hg : c.sc.names.lookup ("range" : Str) = some .globalImplicit := by rfl) (h1 : ∀ env, starEach [a] env = [(false, eval a env)] := by intro _; rfl) (hs : ∀ env x, foldedSetIterable (.Call (.Name "range" p) [a] [] ppos) env x = pure x := by intro _ _; rfl) :
    RS c (.For tg (.Call (.Name "range" p) [a] [] ppos) body [] pos) ⟨nx, rt, bk, ct⟩ σ H := by
  refine s_for (i_range1 hm (a_cons (RE.mono (fun x H1 z => ?_) q) (fun env => by rw [h1]; rfl)) hg h1) hs
  obtain ⟨n, rfl, n1, n2, Pv, h0, hs, hd⟩ := z
  refine a_nil ⟨n, rfl, n1, n2, for_range (tb := RB c body) (D := ⟨nx, rt, bk, ct⟩) (lo := 0) (n := n.toNat) Pv h0 (fun i σ' H' hi p => ?_) hd⟩
  rw [Int.zero_add]
  exact hs i σ' H' hi p
theorem s_while {d : Expr} {body : List Stmt} (Pv : Nat → L2.St → Hp → Prop) (m : Nat) (h0 : Pv m σ H)
    (q : ∀ m σ H, Pv m σ H → RT c d σ H fun b H1 => if b = true then RB c body ⟨fun σ' H' => ∃ m', m' < m ∧ Pv m' σ' H', rt, nx, fun σ' H' => ∃ m', m' < m ∧ Pv m' σ' H'⟩ σ H1 else nx σ H1) : RS c (.While d body [] pos) ⟨nx, rt, bk, ct⟩ σ H := by
  refine rs_of (t := tWhile (RT c d) (RB c body)) (fun X h => ps_while h.own (pt_rt h) (ps_rb h)) ⟨Pv, ⟨m, h0⟩, fun m σ H p => RT.mono (fun b H1 z => ?_) (q m σ H p)⟩
  cases b with
  | true => exact ⟨_, fun _ _ z => z, z⟩
  | false => exact z
end
/-! ### what a goal asks of, told by its head -/
section
variable {c : Cd} {σ : L2.St} {H : Hp}
theorem gRE {e : Expr} {Q : VK} (q : RE c e σ H Q) : RE c e σ H Q := q
theorem gRT {e : Expr} {Q : Bool → Hp → Prop} (q : RT c e σ H Q) : RT c e σ H Q := q
theorem gRW {e : Expr} {Q : Bool → Hp → Prop} (q : RW c e σ H Q) : RW c e σ H Q := q
theorem gRA {e : List Expr} {Q : List V → Hp → Prop} (q : RA c e σ H Q) : RA c e σ H Q := q
theorem gRS {e : Stmt} {D : Ends} (q : RS c e D σ H) : RS c e D σ H := q
theorem gRB {e : List Stmt} {D : Ends} (q : RB c e D σ H) : RB c e D σ H := q
theorem gRG {e : Expr} {v : V} {Q : L2.St → Hp → Prop} (q : RG c e v σ H Q) : RG c e v σ H Q := q
theorem gRO {f : Operator} {x y : V} {Q : VK} (q : RO c f x y H Q) : RO c f x y H Q := q
theorem gRQ {f : CmpOp} {x y : V} {Q : VK} (q : RQ c f x y H Q) : RQ c f x y H Q := q
theorem gRU {f : UnaryOp} {x : V} {Q : VK} (q : RU c f x H Q) : RU c f x H Q := q
theorem gRC {f : Value} {xs : List V} {Q : VK} (q : RC c f xs H Q) : RC c f xs H Q := q
theorem gRX {x y : V} {Q : VK} (q : RX c x y H Q) : RX c x y H Q := q
theorem gRPo {e : Option Expr} {Q : Option Int → Hp → Prop} (q : RPo c e σ H Q) : RPo c e σ H Q := q
end
end G

namespace G
open PySem PySem.Spec PyProof.Rows L2

/-! ### heaps: what stays -/
structure Tp (H H' : Hp) : Prop where
  t : ∀ a xs, H a = some (.tup xs) → H' a = some (.tup xs)
  f : ∀ a o u, H a = some (.frz o u) → H' a = some (.frz o u)
theorem Tp.refl (H : Hp) : Tp H H := ⟨fun _ _ h => h, fun _ _ _ h => h⟩
theorem Tp.trans {H H1 H2 : Hp} (a : Tp H H1) (b : Tp H1 H2) : Tp H H2 := ⟨fun _ _ h => b.t _ _ (a.t _ _ h), fun _ _ _ h => b.f _ _ _ (a.f _ _ _ h)⟩
theorem tp_same {H H' : Hp} (s : Same H H') : Tp H H' := ⟨fun _ _ h => s _ _ h, fun _ _ _ h => s _ _ h⟩
theorem Tp.sqt {K : PySem.W.Frag} {H H' : Hp} {a : Addr} {xs : List V} (e : Tp H H') (h : SqT K H a xs) : SqT K H' a xs := by
  rcases h with (h | ⟨o, h⟩) | h
  · exact .inl (.inl (e.t _ _ h))
  · exact .inl (.inr ⟨o, e.f _ _ _ h⟩)
  · exact .inr h
theorem same_new {H : Hp} {p : Addr} {o : HO} (h : H p = none) : Same H (upd H p o) := fun b u q => by rw [upd_ne (ne_of_none q h)]; exact q
/-- all but the thing at m stays; m is no tuple and not locked -/
structure Kp (m : Addr) (H H' : Hp) : Prop where
  k : ∀ a o, a ≠ m → H a = some o → H' a = some o
  t : Tp H H'
theorem kp_same {m : Addr} {H H' : Hp} (s : Same H H') : Kp m H H' := ⟨fun _ _ _ h => s _ _ h, tp_same s⟩
theorem Kp.refl (m : Addr) (H : Hp) : Kp m H H := kp_same (Same.refl H)
theorem Kp.trans {m : Addr} {H H1 H2 : Hp} (a : Kp m H H1) (b : Kp m H1 H2) : Kp m H H2 := ⟨fun _ _ n h => b.k _ _ n (a.k _ _ n h), a.t.trans b.t⟩
/-- a list (of ours) is written -/
theorem kp_upd {H : Hp} {p : Addr} {o o' : HO} (h : H p = some o) (h1 : ∀ xs, o ≠ .tup xs) (h2 : ∀ b u, o ≠ .frz b u) : Kp p H (upd H p o') :=
  ⟨fun a u n q => by rw [upd_ne n]; exact q, fun a xs q => by rw [upd_ne (ne_of q h fun e => h1 _ e.symm)]; exact q, fun a b u q => by rw [upd_ne (ne_of q h fun e => h2 _ _ e.symm)]; exact q⟩
/-- a thing that the older heap does not know is written: for it nothing has changed -/
theorem same_mut {H H1 : Hp} {p : Addr} {o : HO} (s : Same H H1) (h : H p = none) : Same H (upd H1 p o) := fun b u q => by rw [upd_ne (ne_of_none q h)]; exact s _ _ q
theorem kp_mut {m : Addr} {H H1 : Hp} {p : Addr} {o : HO} (s : Kp m H H1) (h : H p = none) : Kp m H (upd H1 p o) :=
  ⟨fun b u n q => by rw [upd_ne (ne_of_none q h)]; exact s.k _ _ n q, fun b u q => by rw [upd_ne (ne_of_none q h)]; exact s.t.t _ _ q, fun b u v q => by rw [upd_ne (ne_of_none q h)]; exact s.t.f _ _ _ q⟩

/-! ### data that never changes: none, bools, ints, texts, tuples of these -/
mutual
inductive Dt (K : PySem.W.Frag) (H : Hp) : V → PyData → Prop
  | non : Dt K H .non .none
  | bl (b : Bool) : Dt K H (.bl b) (.bool b)
  | int (i : Int) : Dt K H (.int i) (.int i)
  | str (x : Str) : Dt K H (.str x) (.str x)
  | tup {a : Addr} {xs : List V} {ds : List PyData} : SqT K H a xs → DtAll K H xs ds → Dt K H (.ref a) (.tuple ds)
inductive DtAll (K : PySem.W.Frag) (H : Hp) : List V → List PyData → Prop
  | nil : DtAll K H [] []
  | cons {v : V} {vs : List V} {d : PyData} {ds : List PyData} : Dt K H v d → DtAll K H vs ds → DtAll K H (v :: vs) (d :: ds)
end
section
variable {K : PySem.W.Frag} {H H' : Hp}
mutual
theorem Dt.mono (e : Tp H H') : ∀ {d : PyData} {v : V}, Dt K H v d → Dt K H' v d
  | .none, _, h => by cases h; exact .non
  | .bool _, _, h => by cases h; exact .bl _
  | .int _, _, h => by cases h; exact .int _
  | .str _, _, h => by cases h; exact .str _
  | .tuple ds, _, h => by
    cases h with
    | tup hs ha => exact .tup (e.sqt hs) (DtAll.mono e ha)
  | .list _, _, h => by cases h
  | .dict _, _, h => by cases h
theorem DtAll.mono (e : Tp H H') : ∀ {ds : List PyData} {vs : List V}, DtAll K H vs ds → DtAll K H' vs ds
  | [], _, h => by cases h; exact .nil
  | d :: ds, _, h => by
    cases h with
    | cons h1 h2 => exact .cons (Dt.mono e h1) (DtAll.mono e h2)
end
mutual
theorem Dt.dp : ∀ {d : PyData} {v : V}, Dt K H v d → Dp K H v d
  | .none, _, h => by cases h; exact .non
  | .bool _, _, h => by cases h; exact .bl _
  | .int _, _, h => by cases h; exact .int _
  | .str _, _, h => by cases h; exact .str _
  | .tuple ds, _, h => by
    cases h with
    | tup hs ha => exact .tup hs (DtAll.dp ha)
  | .list _, _, h => by cases h
  | .dict _, _, h => by cases h
theorem DtAll.dp : ∀ {ds : List PyData} {vs : List V}, DtAll K H vs ds → DpAll K H vs ds
  | [], _, h => by cases h; exact .nil
  | d :: ds, _, h => by
    cases h with
    | cons h1 h2 => exact .cons (Dt.dp h1) (DtAll.dp h2)
end
theorem DtAll.len : ∀ {ds : List PyData} {vs : List V}, DtAll K H vs ds → vs.length = ds.length
  | [], _, h => by cases h; rfl
  | d :: ds, _, h => by
    cases h with
    | cons _ h2 => exact congrArg Nat.succ (DtAll.len h2)
theorem DtAll.get : ∀ {ds : List PyData} {vs : List V} {i : Nat} {d : PyData}, DtAll K H vs ds → ds[i]? = some d → ∃ v, vs[i]? = some v ∧ Dt K H v d
  | [], _, _, _, _, e => by simp at e
  | d :: ds, _, 0, _, h, e => by
    cases h with
    | cons h1 _ =>
      simp at e
      subst e
      exact ⟨_, rfl, h1⟩
  | d :: ds, _, i + 1, _, h, e => by
    cases h with
    | cons _ h2 =>
      obtain ⟨v, e1, h3⟩ := DtAll.get (i := i) h2 (by simpa using e)
      exact ⟨v, by simpa using e1, h3⟩
theorem DtAll.getV : ∀ {ds : List PyData} {vs : List V} {i : Nat} {v : V}, DtAll K H vs ds → vs[i]? = some v → ∃ d, ds[i]? = some d ∧ Dt K H v d
  | [], _, _, _, h, e => by cases h; simp at e
  | d :: ds, _, 0, _, h, e => by
    cases h with
    | cons h1 _ =>
      simp at e
      subst e
      exact ⟨_, rfl, h1⟩
  | d :: ds, _, i + 1, _, h, e => by
    cases h with
    | cons _ h2 =>
      obtain ⟨v, e1, h3⟩ := DtAll.getV (i := i) h2 (by simpa using e)
      exact ⟨v, by simpa using e1, h3⟩
theorem DtAll.app : ∀ {ds es : List PyData} {vs us : List V}, DtAll K H vs ds → DtAll K H us es → DtAll K H (vs ++ us) (ds ++ es)
  | [], _, _, _, h, k => by cases h; exact k
  | d :: ds, _, _, _, h, k => by
    cases h with
    | cons h1 h2 => exact .cons h1 (DtAll.app h2 k)
theorem DtAll.drop : ∀ {ds : List PyData} {vs : List V} (n : Nat), DtAll K H vs ds → DtAll K H (vs.drop n) (ds.drop n)
  | _, _, 0, h => h
  | [], _, _ + 1, h => by cases h; exact .nil
  | d :: ds, _, n + 1, h => by
    cases h with
    | cons _ h2 => exact DtAll.drop n h2
theorem DtAll.take : ∀ {ds : List PyData} {vs : List V} (n : Nat), DtAll K H vs ds → DtAll K H (vs.take n) (ds.take n)
  | _, _, 0, h => .nil
  | [], _, _ + 1, h => by cases h; exact .nil
  | d :: ds, _, n + 1, h => by
    cases h with
    | cons h1 h2 => exact .cons h1 (DtAll.take n h2)
theorem Dt.intE {v : V} {i : Int} (h : Dt K H v (.int i)) : v = .int i := by cases h; rfl
theorem Dt.strE {v : V} {i : Str} (h : Dt K H v (.str i)) : v = .str i := by cases h; rfl
theorem Dt.blE {v : V} {i : Bool} (h : Dt K H v (.bool i)) : v = .bl i := by cases h; rfl
theorem Dt.nonE {v : V} (h : Dt K H v .none) : v = .non := by cases h; rfl
theorem Dt.tupE {v : V} {ds : List PyData} (h : Dt K H v (.tuple ds)) : ∃ a xs, v = .ref a ∧ SqT K H a xs ∧ DtAll K H xs ds := by
  cases h with
  | tup h1 h2 => exact ⟨_, _, rfl, h1, h2⟩
end
theorem atI_map {α β : Type} {R : α → β → Prop} {xs : List α} {ys : List β} (hl : xs.length = ys.length) {i : Int} {y : β} (h : atI ys i = some y) (g : ∀ (j : Nat) y, ys[j]? = some y → ∃ x, xs[j]? = some x ∧ R x y) : ∃ x, atI xs i = some x ∧ R x y := by
  unfold atI at h ⊢
  rw [hl]
  cases e : ixN ys.length i with
  | none => rw [e] at h; cases h
  | some j =>
    rw [e] at h
    obtain ⟨x, h1, h2⟩ := g j y h
    exact ⟨x, h1, h2⟩

/-! ### steps over data -/
section
variable {c : Cd} {σ : L2.St} {H : Hp} {Q : VK} {pos : Pos} {x y : V}
theorem ro_add {i j : Int} (q : Q (.int (i + j)) H) : RO c .Add (.int i) (.int j) H Q := ro_of (fun _ _ => op_add) ⟨i, j, rfl, rfl, q⟩
theorem ro_sub {i j : Int} (q : Q (.int (i - j)) H) : RO c .Sub (.int i) (.int j) H Q := ro_of (fun _ _ => op_sub) ⟨i, j, rfl, rfl, q⟩
theorem ro_mul {i j : Int} (hc : CMul i j) (q : Q (.int (i * j)) H) : RO c .Mult (.int i) (.int j) H Q := ro_of (fun _ _ => op_mul) ⟨i, j, rfl, rfl, hc, q⟩
theorem ro_mod {i j : Int} (hc : 0 < j) (q : Q (.int (i % j)) H) : RO c .Mod (.int i) (.int j) H Q := ro_of (fun _ _ => op_mod) ⟨i, j, rfl, rfl, hc, q⟩
theorem ro_div {i j : Int} (hc : 0 < j) (h2 : j < 1073741824) (q : Q (.int (i / j)) H) : RO c .FloorDiv (.int i) (.int j) H Q := ro_of (fun _ _ => op_fdiv) ⟨i, j, rfl, rfl, ⟨hc, h2⟩, q⟩
theorem ro_pow {i j : Int} (hc : CPow i j) (q : Q (.int (i ^ j.toNat)) H) : RO c .Pow (.int i) (.int j) H Q := ro_of (fun _ _ => op_pow) ⟨i, j, rfl, rfl, hc, q⟩
theorem ro_eq (hs : scal x y = true) (q : Q (.bl (decide (x = y))) H) : RQ c .Eq x y H Q := rq_of (fun _ _ => op_eq) ⟨hs, q⟩
theorem ro_ne (hs : scal x y = true) (q : Q (.bl (!decide (x = y))) H) : RQ c .NotEq x y H Q := rq_of (fun _ _ => op_ne) ⟨hs, q⟩
theorem ro_eqI {i j : Int} (q : Q (.bl (decide (i = j))) H) : RQ c .Eq (.int i) (.int j) H Q := ro_eq rfl (by
  have e : decide (V.int i = V.int j) = decide (i = j) := decide_eq_decide.mpr ⟨fun h => V.int.inj h, fun h => by rw [h]⟩
  rw [e]; exact q)
theorem ro_neI {i j : Int} (q : Q (.bl (!decide (i = j))) H) : RQ c .NotEq (.int i) (.int j) H Q := ro_ne rfl (by
  have e : decide (V.int i = V.int j) = decide (i = j) := decide_eq_decide.mpr ⟨fun h => V.int.inj h, fun h => by rw [h]⟩
  rw [e]; exact q)
theorem ro_eqS {i j : Str} (q : Q (.bl (decide (i = j))) H) : RQ c .Eq (.str i) (.str j) H Q := ro_eq rfl (by
  have e : decide (V.str i = V.str j) = decide (i = j) := decide_eq_decide.mpr ⟨fun h => V.str.inj h, fun h => by rw [h]⟩
  rw [e]; exact q)
theorem ro_eqB {i j : Bool} (q : Q (.bl (decide (i = j))) H) : RQ c .Eq (.bl i) (.bl j) H Q := ro_eq rfl (by
  have e : decide (V.bl i = V.bl j) = decide (i = j) := decide_eq_decide.mpr ⟨fun h => V.bl.inj h, fun h => by rw [h]⟩
  rw [e]; exact q)
theorem ro_lt {i j : Int} (q : Q (.bl (decide (i < j))) H) : RQ c .Lt (.int i) (.int j) H Q := rq_of (fun _ _ => op_lt) ⟨i, j, rfl, rfl, q⟩
theorem ro_le {i j : Int} (q : Q (.bl (decide (i ≤ j))) H) : RQ c .LtE (.int i) (.int j) H Q := rq_of (fun _ _ => op_le) ⟨i, j, rfl, rfl, q⟩
theorem ro_gt {i j : Int} (q : Q (.bl (decide (j < i))) H) : RQ c .Gt (.int i) (.int j) H Q := rq_of (fun _ _ => op_gt) ⟨i, j, rfl, rfl, q⟩
theorem ro_ge {i j : Int} (q : Q (.bl (decide (j ≤ i))) H) : RQ c .GtE (.int i) (.int j) H Q := rq_of (fun _ _ => op_ge) ⟨i, j, rfl, rfl, q⟩
theorem ro_isN (q : Q (.bl (decide (x = .non))) H) : RQ c .Is x .non H Q := rq_of (fun _ _ => op_isN) ⟨rfl, q⟩
theorem ro_notN (q : Q (.bl (!decide (x = .non))) H) : RQ c .IsNot x .non H Q := rq_of (fun _ _ => op_notN) ⟨rfl, q⟩
theorem ru_neg {i : Int} (q : Q (.int (-i)) H) : RU c .USub (.int i) H Q := ru_of (fun _ _ => un_neg) ⟨i, rfl, q⟩
/-- == of data -/
theorem ro_eqD {d e : PyData} (hx : Dp c.K H x d) (hy : Dp c.K H y e) (s1 : SeqAt.shaped d = true) (s2 : SeqAt.shaped e = true) (q : Q (.bl (PyData.eqv d e)) H) : RQ c .Eq x y H Q :=
  rq_of (r := rEqD c.K) (fun X h => by rw [← h.K]; exact op_eqD h.room.units) ⟨d, e, hx, hy, s1, s2, q⟩
theorem ro_neD {d e : PyData} (hx : Dp c.K H x d) (hy : Dp c.K H y e) (s1 : SeqAt.shaped d = true) (s2 : SeqAt.shaped e = true) (q : Q (.bl (!PyData.eqv d e)) H) : RQ c .NotEq x y H Q :=
  rq_of (r := rNeD c.K) (fun X h => by rw [← h.K]; exact op_neD h.room.units) ⟨d, e, hx, hy, s1, s2, q⟩
/-- x[i] of a tuple of data -/
theorem rx_tup {ds : List PyData} {i : Int} {d : PyData} (hx : Dt c.K H x (.tuple ds)) (hi : atI ds i = some d) (q : ∀ v, Dt c.K H v d → Q v H) : RX c x (.int i) H Q := by
  obtain ⟨a, xs, rfl, ht, ha⟩ := hx.tupE
  obtain ⟨v, h1, h2⟩ := atI_map (R := fun v d => Dt c.K H v d) ha.len hi fun j y hj => ha.get hj
  exact rx_of (r := rIxT c.K) (fun X h => by rw [← h.K]; exact ix_tup) ⟨a, xs, i, v, rfl, rfl, ht, h1, q v h2⟩
theorem rx_int {ds : List PyData} {i n : Int} (hx : Dt c.K H x (.tuple ds)) (hi : atI ds i = some (.int n)) (q : Q (.int n) H) : RX c x (.int i) H Q := rx_tup hx hi fun v h => by rw [h.intE]; exact q
theorem rx_str {ds : List PyData} {i : Int} {n : Str} (hx : Dt c.K H x (.tuple ds)) (hi : atI ds i = some (.str n)) (q : Q (.str n) H) : RX c x (.int i) H Q := rx_tup hx hi fun v h => by rw [h.strE]; exact q
theorem rx_bl {ds : List PyData} {i : Int} {n : Bool} (hx : Dt c.K H x (.tuple ds)) (hi : atI ds i = some (.bool n)) (q : Q (.bl n) H) : RX c x (.int i) H Q := rx_tup hx hi fun v h => by rw [h.blE]; exact q
/-- xs[i] of a list -/
theorem rx_list {p : Addr} {xs : List V} {i : Int} {v : V} (hx : SqL c.K H p xs) (hi : atI xs i = some v) (q : Q v H) : RX c (.ref p) (.int i) H Q :=
  rx_of (r := rIxL c.K) (fun X h => by rw [← h.K]; exact ix_list) ⟨p, xs, i, v, rfl, rfl, hx, hi, q⟩
/-- (a, b, ..), data -/
theorem e_tupD {es : List Expr} {x1} (q : RA c es σ H fun xs H1 => ∃ ds, DtAll c.K H1 xs ds ∧ xs.length ≤ 1000 ∧ ∀ v H2, Same H1 H2 → Dt c.K H2 v (.tuple ds) → Q v H2) : RE c (.Tuple es x1 pos) σ H Q :=
  e_tup (RA.mono (fun xs H1 z => by
    obtain ⟨ds, h1, h2, h3⟩ := z
    exact ⟨Nat.le_trans h2 (by decide), fun p hp => h3 _ _ (same_new hp) (.tup (.of upd_same) (h1.mono (tp_same (same_new hp))))⟩) q)
/-! calls -/
/-- a def that changes nothing: R tells what it answers -/
def spF (R : List PyData → PyData → Prop) (K : PySem.W.Frag) : Sp := fun vs H Q _ => ∃ ds d, DtAll K H vs ds ∧ R ds d ∧ ∀ v H', Same H H' → Dt K H' v d → Q v H'
theorem e_callF {x : Str} {p : Pos} {e : Expr} {es : List Expr} {ps : List Str} {k : Nat} {R : List PyData → PyData → Prop} (D : Dc c.toMd x ps k (spF R c.K)) (q : RA c (e :: es) σ H fun vs H1 => ∃ ds d, DtAll c.K H1 vs ds ∧ R ds d ∧ ∀ v H', Same H1 H' → Dt c.K H' v d → Q v H') (hk : k ≤ c.k := by exact Nat.le_of_ble_eq_true rfl) (hg : c.sc.names.lookup x = some .globalImplicit := by rfl)
    (hdb : (x == ("__debug__" : Str)) = false := by decide) (he : ∀ env, starEach (e :: es) env = (false, eval e env) :: starEach es env := by intro _; rfl) (hpl : ∀ env, (backTo pos (starEach es env)).any (·.1) = false := by intro _; rfl) :
    RE c (.Call (.Name x p) (e :: es) [] pos) σ H Q := e_call D q hk hg hdb he hpl
theorem rc_max2 {i j : Int} (q : Q (.int (if j > i then j else i)) H) : RC c (.builtin "max") [.int i, .int j] H Q := rc_of (fun X h => call_max2 h.calm) ⟨i, j, rfl, q⟩
theorem rc_min2 {i j : Int} (q : Q (.int (if j < i then j else i)) H) : RC c (.builtin "min") [.int i, .int j] H Q := rc_of (fun X h => call_min2 h.calm) ⟨i, j, rfl, q⟩
theorem rc_intI {i : Int} (q : Q (.int i) H) : RC c (.type "int") [.int i] H Q := rc_of (fun X h => call_int1) (.inl ⟨i, rfl, q⟩)
theorem rc_intB {k : Bool} (q : Q (.int (if k then 1 else 0)) H) : RC c (.type "int") [.bl k] H Q := rc_of (fun X h => call_int1) (.inr ⟨k, rfl, q⟩)
theorem rc_lenL {p : Addr} {xs : List V} (h : SqL c.K H p xs) (q : Q (.int xs.length) H) : RC c (.builtin "len") [.ref p] H Q := rc_of (r := fun xs H Q => ∃ p ys, xs = [.ref p] ∧ (SqL c.K H p ys ∨ SqT c.K H p ys) ∧ Q (.int ys.length) H) (fun X h => by rw [← h.K]; exact call_len_seq) ⟨p, xs, rfl, .inl h, q⟩
theorem rc_lenT {ds : List PyData} (h : Dt c.K H x (.tuple ds)) (q : Q (.int ds.length) H) : RC c (.builtin "len") [x] H Q := by
  obtain ⟨a, xs, rfl, ht, ha⟩ := h.tupE
  refine rc_of (r := fun xs H Q => ∃ p ys, xs = [.ref p] ∧ (SqL c.K H p ys ∨ SqT c.K H p ys) ∧ Q (.int ys.length) H) (fun X h => by rw [← h.K]; exact call_len_seq) ⟨a, xs, rfl, .inr ht, ?_⟩
  rw [ha.len]; exact q
end

/-! ### a def -/
section
variable {P : Program} {w : World} {K : PySem.W.Frag} {mg : Str → Option Value} {base : Heap}
theorem is_cx {M : Md} {N : List Str} {qual : Str} {sc : Scope} {f : Addr} {cdv : Value} {A : Around} {outer : List Env} {s : Shared} {H : Hp} {E : XK} {k : Nat} {g : Bool} (hn : N.Nodup) (hg : g = true → A.guards = some []) (hr : Room k (A.deeper (envOfC qual sc s.heap.objs.size f cdv))) :
    Is ⟨M, N, sc, k, true, g, none⟩ (cxOf CX0 M.prog M.w M.K M.mg M.base N qual sc f cdv A outer s H E).nox :=
  ⟨rfl, rfl, rfl, rfl, rfl, rfl, rfl, rfl, hr, fun _ _ => rfl, PassesOwn.never, hn, hg, fun _ _ z => nomatch z⟩
theorem fn_ok {M : Md} {x qual : Str} {st : Stmt} {f : Addr} {fd : FuncData} {N ps : List Str} {k : Nat} {sp : Sp} (F : Fun M.K x qual st f fd) (S : FnScope N ps (defScope st)) (len : ∀ vs H Q E, sp vs H Q E → vs.length = ps.length)
    (body : ∀ (H : Hp) (vs : List V) (Q : VK) (E : XK), sp vs H Q E → RB ⟨M, N, defScope st, k, true, false, none⟩ (defBody st) { nx := fun _ H' => Q .non H', rt := Q } (start N vs) H) : FnG M.prog M.w M.K M.mg M.base CX0 (k + 1) f fd ps sp :=
  F.ok S len fun cdv A outer s H vs Q E hr h => ⟨RB ⟨M, N, defScope st, k, true, false, none⟩ (defBody st), ps_rb (is_cx S.nd (fun z => Bool.noConfusion z) hr), body H vs Q E h⟩
theorem fn_okQ {M : Md} {x qual : Str} {st : Stmt} {f : Addr} {fd : FuncData} {N ps : List Str} {k : Nat} {sp : Sp} (F : Fun M.K x qual st f fd) (S : FnScope N ps (defScope st)) (len : ∀ vs H Q E, sp vs H Q E → vs.length = ps.length)
    (body : ∀ (H : Hp) (vs : List V) (Q : VK) (E : XK), sp vs H Q E → RB ⟨M, N, defScope st, k, true, true, none⟩ (defBody st) { nx := fun _ H' => Q .non H', rt := Q } (start N vs) H) : FnQ M.prog M.w M.K M.mg M.base CX0 (k + 1) f fd ps sp := by
  obtain ⟨oc, od, kV, doc, pm, an, cdv, ct, osl, rfl, at_, cod⟩ := F.ex
  exact fnQ_of at_ cod S len fun A up s H vs Q E hg hr h => ⟨RB ⟨M, N, defScope st, k, true, true, none⟩ (defBody st), (ps_rb (is_cx S.nd (fun _ => hg) hr)).nox, body H vs Q E h⟩
end
end G
namespace G
open PySem PySem.Spec PyProof.Rows L2
theorem ifd {p A B : Prop} [Decidable p] (h1 : p → A) (h2 : ¬ p → B) : if decide p = true then A else B := by
  by_cases h : p
  · rw [if_pos (decide_eq_true h)]; exact h1 h
  · rw [if_neg (by simp [h])]; exact h2 h
theorem ifnd {p A B : Prop} [Decidable p] (h1 : ¬ p → A) (h2 : p → B) : if (!decide p) = true then A else B := by
  by_cases h : p
  · rw [if_neg (by simp [h])]; exact h2 h
  · rw [if_pos (by simp [h])]; exact h1 h
theorem ifT {p A B : Prop} [Decidable p] (h : p) (a : A) : if decide p = true then A else B := by rw [if_pos (decide_eq_true h)]; exact a
theorem ifF {p A B : Prop} [Decidable p] (h : ¬ p) (b : B) : if decide p = true then A else B := by rw [if_neg (by simp [h])]; exact b
theorem ifnT {p A B : Prop} [Decidable p] (h : ¬ p) (a : A) : if (!decide p) = true then A else B := by rw [if_pos (by simp [h])]; exact a
theorem ifnF {p A B : Prop} [Decidable p] (h : p) (b : B) : if (!decide p) = true then A else B := by rw [if_neg (by simp [h])]; exact b
theorem ifb {k : Bool} {A B : Prop} (h1 : k = true → A) (h2 : k = false → B) : if k = true then A else B := by
  cases k with
  | true => exact h1 rfl
  | false => exact h2 rfl
end G
namespace G
open PySem PySem.Spec PyProof.Rows L2
section
variable {c : Cd} {σ : L2.St} {H : Hp} {Q : VK} {pos : Pos} {x y : V}
/-- d[k] with a written text -/
theorem e_dgetS {a : Expr} {s : Str} {j : Nat} {p2 : Pos} (q : RE c a σ H fun x H1 => ∃ p kvs v, x = .ref p ∧ H1 p = some (.dK kvs) ∧ valV kvs (Sum.inr s) = some v ∧ Q v H1) (hs : NoSl (.Constant (.str s) j p2) := by intro _ _; rfl) : RE c (.Subscript a (.Constant (.str s) j p2) pos) σ H Q :=
  e_dget (RE.mono (fun x H1 z => e_str (by
    obtain ⟨p, kvs, v, rfl, h, e, q⟩ := z
    refine ⟨p, v, rfl, ?_, q⟩
    rw [← e]; exact DGet.k (k := Sum.inr s) h)) q) hs
theorem e_dgetK {a b : Expr} (q : RE c a σ H fun x H1 => RE c b σ H1 fun y H2 => ∃ p kvs k v, x = .ref p ∧ H2 p = some (.dK kvs) ∧ y = kV k ∧ valV kvs k = some v ∧ Q v H2) (hs : NoSl b := by intro _ _; rfl) : RE c (.Subscript a b pos) σ H Q :=
  e_dget (RE.mono (fun x H1 z => RE.mono (fun y H2 z => by
    obtain ⟨p, kvs, k, v, rfl, h, rfl, e, q⟩ := z
    refine ⟨p, v, rfl, ?_, q⟩
    rw [← e]; exact DGet.k h) z) q) hs
variable {nx : L2.St → Hp → Prop} {rt : VK} {bk ct : L2.St → Hp → Prop}
theorem s_dputS {a e : Expr} {s : Str} {j : Nat} {p2 p3 : Pos} (q : RE c e σ H fun v H1 => RE c a σ H1 fun x H2 => ∃ p kvs, x = .ref p ∧ H2 p = some (.dK kvs) ∧ kvs.length < 1000 ∧ nx σ (upd H2 p (.dK (putK kvs (Sum.inr s) v))))
    (hs : ∀ env, swapsWith e (some (.Subscript a (.Constant (.str s) j p2) p3)) pos.line env = pure false := by intro _; rfl) : RS c (.Assign [.Subscript a (.Constant (.str s) j p2) p3] e pos) ⟨nx, rt, bk, ct⟩ σ H :=
  s_dput (RE.mono (fun v H1 z => RE.mono (fun x H2 z => e_str (by
    obtain ⟨p, kvs, rfl, h, l, q⟩ := z
    exact ⟨p, _, rfl, DPut.k (k := Sum.inr s) h (Nat.lt_trans l (by decide)), q⟩)) z) q) hs
end

/-! ### the law's source of draws: a dict of four things -/
def fkv (a : V) (b d e : Int) : List (Key × V) := [(Sum.inr "cells", a), (Sum.inr "at", .int b), (Sum.inr "left", .int d), (Sum.inr "count", .int e)]
theorem fkv_len (a : V) (b d e : Int) : (fkv a b d e).length = 4 := rfl
theorem n01 : ¬ (Sum.inr ("cells" : Str) : Key) = Sum.inr ("at" : Str) := by decide +kernel
theorem n02 : ¬ (Sum.inr ("cells" : Str) : Key) = Sum.inr ("left" : Str) := by decide +kernel
theorem n03 : ¬ (Sum.inr ("cells" : Str) : Key) = Sum.inr ("count" : Str) := by decide +kernel
theorem n12 : ¬ (Sum.inr ("at" : Str) : Key) = Sum.inr ("left" : Str) := by decide +kernel
theorem n13 : ¬ (Sum.inr ("at" : Str) : Key) = Sum.inr ("count" : Str) := by decide +kernel
theorem n23 : ¬ (Sum.inr ("left" : Str) : Key) = Sum.inr ("count" : Str) := by decide +kernel
theorem fkv_0 {a : V} {b d e : Int} : valV (fkv a b d e) (Sum.inr "cells") = some a := valV_pos rfl
theorem fkv_1 {a : V} {b d e : Int} : valV (fkv a b d e) (Sum.inr "at") = some (.int b) := by rw [fkv, valV_neg n01]; exact valV_pos rfl
theorem fkv_2 {a : V} {b d e : Int} : valV (fkv a b d e) (Sum.inr "left") = some (.int d) := by rw [fkv, valV_neg n02, valV_neg n12]; exact valV_pos rfl
theorem fkv_3 {a : V} {b d e : Int} : valV (fkv a b d e) (Sum.inr "count") = some (.int e) := by rw [fkv, valV_neg n03, valV_neg n13, valV_neg n23]; exact valV_pos rfl
theorem fput_1 {a : V} {b d e x : Int} : putK (fkv a b d e) (Sum.inr "at") (.int x) = fkv a x d e := by
  unfold putK
  rw [valV_any, fkv_1, Option.isSome_some, if_pos rfl]
  simp only [fkv, List.map_cons, List.map_nil, if_neg n01, if_pos, if_neg (fun h => n12 (Eq.symm h)), if_neg (fun h => n13 (Eq.symm h))]
theorem fput_2 {a : V} {b d e x : Int} : putK (fkv a b d e) (Sum.inr "left") (.int x) = fkv a b x e := by
  unfold putK
  rw [valV_any, fkv_2, Option.isSome_some, if_pos rfl]
  simp only [fkv, List.map_cons, List.map_nil, if_neg n02, if_neg n12, if_pos, if_neg (fun h => n23 (Eq.symm h))]
theorem fput_3 {a : V} {b d e x : Int} : putK (fkv a b d e) (Sum.inr "count") (.int x) = fkv a b d x := by
  unfold putK
  rw [valV_any, fkv_3, Option.isSome_some, if_pos rfl]
  simp only [fkv, List.map_cons, List.map_nil, if_neg n03, if_neg n13, if_neg n23, if_pos]
def Feed (K : PySem.W.Frag) (H : Hp) (fd cl : Addr) : Prop := ∃ (ns : List Int) (b d e : Int), H fd = some (.dK (fkv (.ref cl) b d e)) ∧ H cl = some (.lst (ns.map V.int)) ∧ ns.length ≤ 63
theorem Feed.same {K : PySem.W.Frag} {H H' : Hp} {fd cl : Addr} (h : Feed K H fd cl) (s : Same H H') : Feed K H' fd cl := by
  obtain ⟨ns, b, d, e, h1, h2, h3⟩ := h
  exact ⟨ns, b, d, e, s _ _ h1, s _ _ h2, h3⟩
theorem Feed.upd {K : PySem.W.Frag} {H : Hp} {fd cl l : Addr} {o : HO} (h : Feed K H fd cl) (n1 : l ≠ fd) (n2 : l ≠ cl) : Feed K (upd H l o) fd cl := by
  obtain ⟨ns, b, d, e, h1, h2, h3⟩ := h
  exact ⟨ns, b, d, e, by rw [upd_ne (fun e => n1 e.symm)]; exact h1, by rw [upd_ne (fun e => n2 e.symm)]; exact h2, h3⟩
theorem kp_fd {H : Hp} {p : Addr} {kvs : List (Key × V)} {o' : HO} (h : H p = some (.dK kvs)) : Kp p H (upd H p o') := kp_upd h (fun _ e => nomatch e) fun _ _ e => nomatch e
/-- a def that draws: what it asks of its other arguments, what it may answer -/
def spD (Pre : List PyData → Prop) (R : List PyData → PyData → Prop) (K : PySem.W.Frag) : Sp := fun vs H Q _ => ∃ fd cl rest ds, vs = .ref fd :: rest ∧ Feed K H fd cl ∧ DtAll K H rest ds ∧ Pre ds ∧
  ∀ d v H', R ds d → Kp fd H H' → Feed K H' fd cl → Dt K H' v d → Q v H'
theorem spD_len {Pre : List PyData → Prop} {R : List PyData → PyData → Prop} {K : PySem.W.Frag} {n : Nat} (hp : ∀ ds, Pre ds → ds.length = n) : ∀ vs H Q E, spD Pre R K vs H Q E → vs.length = n + 1 := by
  rintro vs H Q E ⟨fd, cl, rest, ds, rfl, _, h, p, _⟩
  rw [List.length_cons, h.len, hp ds p]
end G

namespace G
open PySem PySem.Spec PyProof.Rows L2
structure Bl (M : Md) : Prop where
  len : M.mg "len" = none
  int : M.mg "int" = none
  max : M.mg "max" = none
  min : M.mg "min" = none
  range : M.mg "range" = none
  tuple : M.mg "tuple" = none
  list : M.mg "list" = none
  isinst : M.mg "isinstance" = none
  str : M.mg "str" = none
  bool : M.mg "bool" = none
  set : M.mg "set" = none
  dict : M.mg "dict" = none
  sorted : M.mg "sorted" = none
theorem dpInts {K : PySem.W.Frag} {H : Hp} : ∀ ns : List Int, DpAll K H (ns.map V.int) (ns.map PyData.int)
  | [] => .nil
  | n :: ns => .cons (.int n) (dpInts ns)
theorem shInts (ns : List Int) : SeqAt.shaped (.list (ns.map PyData.int)) = true := by
  have h : ∀ ns : List Int, PyData.canLayAll0 (ns.map PyData.int) = true ∧ PyData.depthAll (ns.map PyData.int) ≤ 1 := by
    intro ns
    induction ns with
    | nil => exact ⟨by simp [PyData.canLayAll0], by simp [PyData.depthAll]⟩
    | cons n ns ih => exact ⟨by simp [PyData.canLayAll0, PyData.canLay0, ih.1], by simp only [List.map_cons, PyData.depthAll, PyData.depth]; omega⟩
  show (PyData.canLay0 (.list _) && decide (PyData.depth (.list _) ≤ 64)) = true
  rw [Bool.and_eq_true]
  refine ⟨by simp only [PyData.canLay0]; exact (h ns).1, decide_eq_true ?_⟩
  simp only [PyData.depth]
  have := (h ns).2
  omega
theorem pl_at {α : Type} {xs : List α} {z : Int} {j : Nat} {v : α} (e : z = (j : Int)) (h : xs[j]? = some v) : atI xs z = some v := by
  rw [e]
  exact atI_nat h
end G

namespace G
open PySem PySem.Spec PyProof.Rows L2
/-! ### comprehensions -/
abbrev blkCd (c : Cd) (scope : Scope) : Cd := ⟨c.toMd, c.N, relS scope c.sc, c.k, false, c.g, none⟩
theorem is_blk {c : Cd} {X : Cx} (h : Is c X) {scope : Scope} (s : Shared) (H : Hp) (C : Addr) (cl : List (Str × Addr)) (fp : List Addr) : Is (blkCd c scope) (X.blk s H scope (compEnvC scope cl C X.env) fp) := by
  refine ⟨h.prog, h.w, h.K, h.mg, h.base, h.N, ?_, h.calm, h.room, (fun z => Bool.noConfusion z), PassesOwn.never, h.nd, h.gd, fun _ _ z => nomatch z⟩
  show relS scope X.env.scope = relS scope c.sc
  rw [h.sc]
section
variable {c : Cd} {σ : L2.St} {H : Hp} {Q : VK} {pos : Pos} {x y : V}
theorem ts_nil {Q : Bool → Hp → Prop} (q : Q true H) : RTs c [] σ H Q := rts_of (fun _ _ => pts_nil) q
theorem ts_one {Q : Bool → Hp → Prop} {e : Expr} (q : RT c e σ H Q) : RTs c [e] σ H Q := rts_of (fun _ h => pts_one (pt_rt h)) q
/-- what is asked of a comprehension's block -/
structure Blk (c : Cd) (scope : Scope) (own : List (Str × Nat)) : Prop where
  ok : BlkOk c.N c.sc scope own
theorem Blk.of {c : Cd} {scope : Scope} {own : List (Str × Nat)} {N : List Str} {sc : Scope} (h1 : c.N = N) (h2 : c.sc = sc) (h : blkC N sc scope own = true) : Blk c scope own := ⟨by rw [h1, h2]; exact blkOk_by h⟩
theorem e_lc {elt tg iter : Expr} {ifs : List Expr} {scope : Scope} {own : List (Str × Nat)} (ok : Blk c scope own)
    (q : tLc (RI c tg iter) (RG (blkCd c scope) tg) (RTs (blkCd c scope) ifs) (RE (blkCd c scope) elt) (own.map (·.2)) σ H Q) (hs : ∀ env x, foldedSetIterable iter env x = pure x := by intro _ _; rfl) : RE c (.ListComp elt [⟨tg, iter, ifs, 0⟩] scope pos) σ H Q :=
  re_of (fun X h => pe_lc h.calm (by rw [h.N]; exact h.nd) (pi_ri h) (by rw [h.N, h.sc]; exact ok.ok) (fun s H C cl fp => pg_rg (is_blk h s H C cl fp)) (fun s H C cl fp => pts_rts (is_blk h s H C cl fp)) (fun s H C cl fp => pe_re (is_blk h s H C cl fp)) (hs _)) q
theorem s_setLc {nx : L2.St → Hp → Prop} {rt : VK} {bk ct : L2.St → Hp → Prop} {i : Nat} {y : Str} {py : Pos} {elt tg iter : Expr} {ifs : List Expr} {scope : Scope} {own : List (Str × Nat)} {spos : Pos} (hA : At c.N i y) (ok : Blk c scope own)
    (q : tLc (RI c tg iter) (RG (blkCd c scope) tg) (RTs (blkCd c scope) ifs) (RE (blkCd c scope) elt) (own.map (·.2)) σ H fun v H1 => nx (σ.set i (some v)) H1)
    (hy : c.sc.names.lookup y = some .local := by rfl) (hl : (py.line == pos.line) = true := by rfl) (ha : (scope.names.any fun (n, k) => n == y && (k == .local || k == .cell)) = false := by rfl) (hf : c.sc.kind = .function := by rfl) (hs : ∀ env x, foldedSetIterable iter env x = pure x := by intro _ _; rfl) :
    RS c (.Assign [.Name y py] (.ListComp elt [⟨tg, iter, ifs, 0⟩] scope pos) spos) ⟨nx, rt, bk, ct⟩ σ H :=
  rs_of (c := c) (σ := σ) (H := H) (D := ⟨nx, rt, bk, ct⟩) (t := tAsg (tLc (RI c tg iter) (RG (blkCd c scope) tg) (RTs (blkCd c scope) ifs) (RE (blkCd c scope) elt) (own.map (fun p : Str × Nat => p.2))) (gName i)) (fun X h => ps_setLc h.calm (by rw [h.N]; exact h.nd) (by rw [h.N]; exact hA.get) (by rw [h.sc]; exact hy)
    (sw_true (by rw [h.sc]; exact hf) (by rw [h.sc]; exact hy) hl ha) (pi_ri h) (by rw [h.N, h.sc]; exact ok.ok) (fun s H C cl fp => pg_rg (is_blk h s H C cl fp)) (fun s H C cl fp => pts_rts (is_blk h s H C cl fp)) (fun s H C cl fp => pe_re (is_blk h s H C cl fp)) (hs _)) q

/-- a turn of a comprehension, with a word Pv: what the turn, the collected values and the heap are -/
def Turn1 (cB : Cd) (tg : Expr) (ifs : List Expr) (elt : Expr) (vs : List Nat) (σ : L2.St) (D : Addr) (x : V) (H' : Hp) (acc : List V) (Nx : List V → Hp → Prop) : Prop :=
  RG cB tg x (wipe σ vs) H' fun σ2 H2 => wipe σ2 vs = wipe σ vs ∧ RTs cB ifs σ2 H2 fun b H3 => if b = true then RE cB elt σ2 H3 fun y H4 => H4 D = some (.lst acc) ∧ Nx (acc ++ [y]) (upd H4 D (.lst (acc ++ [y]))) else Nx acc H3
section
variable {elt tg iter : Expr} {ifs : List Expr} {scope : Scope} {vs : List Nat}
/-- over a tuple -/
theorem lc_T (q : RE c iter σ H fun x H1 => ∃ a xs, x = .ref a ∧ SqT c.K H1 a xs ∧ xs.length ≤ 1000 ∧ ∀ D, H1 D = none → ∃ Pv : Nat → List V → Hp → Prop, Pv 0 [] (upd H1 D (.lst [])) ∧ (∀ i acc H', i ≤ xs.length → Pv i acc H' → SqT c.K H' a xs ∧ acc.length ≤ i) ∧
      (∀ i x acc H', xs[i]? = some x → Pv i acc H' → Turn1 (blkCd c scope) tg ifs elt vs σ D x H' acc (Pv (i + 1))) ∧ ∀ acc H', Pv xs.length acc H' → Q (.ref D) H') :
    tLc (RI c tg iter) (RG (blkCd c scope) tg) (RTs (blkCd c scope) ifs) (RE (blkCd c scope) elt) vs σ H Q := by
  refine i_tup (RE.mono (fun x H1 z => ?_) q)
  obtain ⟨a, xs, rfl, ht, hl, z⟩ := z
  refine ⟨a, rfl, ⟨xs, ht⟩, fun D hD => ?_⟩
  obtain ⟨Pv, p0, pk, pt, pe⟩ := z D hD
  refine lc_tup (xs := xs) (fun i H' => ∃ acc, Pv i acc H') ⟨_, p0⟩ (fun i H' hi ⟨acc, p⟩ => (pk i acc H' hi p).1) (fun i x H' hx ⟨acc, p⟩ => ?_) fun H' ⟨acc, p⟩ => pe acc H' p
  have hi : i < xs.length := (List.getElem?_eq_some_iff.mp hx).1
  have la := (pk i acc H' (Nat.le_of_lt hi) p).2
  refine RG.mono (fun σ2 H2 z => ?_) (pt i x acc H' hx p)
  refine ⟨z.1, RTs.mono (fun b H3 z => ?_) z.2⟩
  cases b with
  | true => exact RE.mono (fun y H4 z => ⟨acc, z.1, Nat.lt_of_le_of_lt la (Nat.lt_of_lt_of_le hi (Nat.le_trans hl (by decide))), _, z.2⟩) z
  | false => exact ⟨_, z⟩
/-- over a list -/
theorem lc_L (q : RE c iter σ H fun x H1 => ∃ a xs, x = .ref a ∧ SqL c.K H1 a xs ∧ xs.length ≤ 1000 ∧ ∀ D, H1 D = none → ∃ Pv : Nat → List V → Hp → Prop, Pv 0 [] (upd H1 D (.lst [])) ∧ (∀ i acc H', i ≤ xs.length → Pv i acc H' → SqL c.K H' a xs ∧ acc.length ≤ i) ∧
      (∀ i x acc H', xs[i]? = some x → Pv i acc H' → Turn1 (blkCd c scope) tg ifs elt vs σ D x H' acc (Pv (i + 1))) ∧ ∀ acc H', Pv xs.length acc H' → Q (.ref D) H') :
    tLc (RI c tg iter) (RG (blkCd c scope) tg) (RTs (blkCd c scope) ifs) (RE (blkCd c scope) elt) vs σ H Q := by
  refine i_list (RE.mono (fun x H1 z => ?_) q)
  obtain ⟨a, xs, rfl, ht, hl, z⟩ := z
  refine ⟨a, rfl, ⟨xs, ht⟩, fun D hD => ?_⟩
  obtain ⟨Pv, p0, pk, pt, pe⟩ := z D hD
  refine lc_list (xs := xs) (fun i H' => ∃ acc, Pv i acc H') ⟨_, p0⟩ (fun i H' hi ⟨acc, p⟩ => (pk i acc H' hi p).1) (fun i x H' hx ⟨acc, p⟩ => ?_) fun H' ⟨acc, p⟩ => pe acc H' p
  have hi : i < xs.length := (List.getElem?_eq_some_iff.mp hx).1
  have la := (pk i acc H' (Nat.le_of_lt hi) p).2
  refine RG.mono (fun σ2 H2 z => ?_) (pt i x acc H' hx p)
  refine ⟨z.1, RTs.mono (fun b H3 z => ?_) z.2⟩
  cases b with
  | true => exact RE.mono (fun y H4 z => ⟨acc, z.1, Nat.lt_of_le_of_lt la (Nat.lt_of_lt_of_le hi (Nat.le_trans hl (by decide))), _, z.2⟩) z
  | false => exact ⟨_, z⟩
/-- over range(a, b) -/
theorem lc_R2 {a b : Expr} {p ppos : Pos} (hm : c.mg "range" = none) (q : RE c a σ H fun x H1 => RE c b σ H1 fun y H2 => ∃ i j : Int, x = .int i ∧ y = .int j ∧ (-1000 ≤ i ∧ i ≤ 1000) ∧ (-1000 ≤ j ∧ j ≤ 1000) ∧ ∀ D, H2 D = none → ∃ Pv : Nat → List V → Hp → Prop, Pv 0 [] (upd H2 D (.lst [])) ∧ (∀ t acc H', Pv t acc H' → acc.length ≤ t) ∧
      (∀ t acc H', t < (j - i).toNat → Pv t acc H' → Turn1 (blkCd c scope) tg ifs elt vs σ D (.int (i + t)) H' acc (Pv (t + 1))) ∧ ∀ acc H', Pv (j - i).toNat acc H' → Q (.ref D) H')
    (hg : c.sc.names.lookup ("range" : Str) = some .globalImplicit := by rfl) (hs : ∀ env, starEach [a, b] env = [(false, eval a env), (false, eval b env)] := by intro _; rfl) (hs2 : ∀ env, starEach [b] env = [(false, eval b env)] := by intro _; rfl) :
    tLc (RI c tg (.Call (.Name "range" p) [a, b] [] ppos)) (RG (blkCd c scope) tg) (RTs (blkCd c scope) ifs) (RE (blkCd c scope) elt) vs σ H Q := by
  refine i_range2 hm (a_cons (RE.mono (fun x H1 z => a_cons (RE.mono (fun y H2 z => a_nil ?_) z) (fun env => by rw [hs2]; rfl)) q) (fun env => by rw [hs, hs2])) hg hs hs2
  obtain ⟨i, j, rfl, rfl, h1, h2, z⟩ := z
  refine ⟨i, j, rfl, ⟨by omega, by omega, by omega, by omega⟩, fun D hD => ?_⟩
  obtain ⟨Pv, p0, pk, pt, pe⟩ := z D hD
  refine lc_range (lo := i) (n := (j - i).toNat) (fun t H' => ∃ acc, Pv t acc H') ⟨_, p0⟩ (fun t H' ht ⟨acc, p⟩ => ?_) fun H' ⟨acc, p⟩ => pe acc H' p
  have la := pk t acc H' p
  refine RG.mono (fun σ2 H2 z => ?_) (pt t acc H' ht p)
  refine ⟨z.1, RTs.mono (fun b H3 z => ?_) z.2⟩
  cases b with
  | true => exact RE.mono (fun y H4 z => ⟨acc, z.1, Nat.lt_of_le_of_lt la (Nat.lt_of_lt_of_le ht (Nat.le_trans (show (j - i).toNat ≤ 2000 by omega) (by decide))), _, z.2⟩) z
  | false => exact ⟨_, z⟩
/-- over range(n) -/
theorem lc_R1 {a : Expr} {p ppos : Pos} (hm : c.mg "range" = none) (q : RE c a σ H fun y H2 => ∃ j : Int, y = .int j ∧ (-1000 ≤ j ∧ j ≤ 1000) ∧ ∀ D, H2 D = none → ∃ Pv : Nat → List V → Hp → Prop, Pv 0 [] (upd H2 D (.lst [])) ∧ (∀ t acc H', Pv t acc H' → acc.length ≤ t) ∧
      (∀ t acc H', t < j.toNat → Pv t acc H' → Turn1 (blkCd c scope) tg ifs elt vs σ D (.int t) H' acc (Pv (t + 1))) ∧ ∀ acc H', Pv j.toNat acc H' → Q (.ref D) H')
    (hg : c.sc.names.lookup ("range" : Str) = some .globalImplicit := by rfl) (hs : ∀ env, starEach [a] env = [(false, eval a env)] := by intro _; rfl) :
    tLc (RI c tg (.Call (.Name "range" p) [a] [] ppos)) (RG (blkCd c scope) tg) (RTs (blkCd c scope) ifs) (RE (blkCd c scope) elt) vs σ H Q := by
  refine i_range1 hm (a_cons (RE.mono (fun x H1 z => a_nil ?_) q) (fun env => by rw [hs]; rfl)) hg hs
  obtain ⟨j, rfl, h2, z⟩ := z
  refine ⟨j, rfl, by omega, by omega, fun D hD => ?_⟩
  obtain ⟨Pv, p0, pk, pt, pe⟩ := z D hD
  refine lc_range (lo := 0) (n := j.toNat) (fun t H' => ∃ acc, Pv t acc H') ⟨_, p0⟩ (fun t H' ht ⟨acc, p⟩ => ?_) fun H' ⟨acc, p⟩ => pe acc H' p
  have la := pk t acc H' p
  rw [Int.zero_add]
  refine RG.mono (fun σ2 H2 z => ?_) (pt t acc H' ht p)
  refine ⟨z.1, RTs.mono (fun b H3 z => ?_) z.2⟩
  cases b with
  | true => exact RE.mono (fun y H4 z => ⟨acc, z.1, Nat.lt_of_le_of_lt la (Nat.lt_of_lt_of_le ht (Nat.le_trans (show j.toNat ≤ 1000 by omega) (by decide))), _, z.2⟩) z
  | false => exact ⟨_, z⟩
/-- over a text's signs -/
theorem lc_S (q : RE c iter σ H fun x H1 => ∃ z : Str, x = .str z ∧ z.cps.size ≤ 1000 ∧ ∀ D, H1 D = none → ∃ Pv : Nat → List V → Hp → Prop, Pv 0 [] (upd H1 D (.lst [])) ∧ (∀ i acc H', Pv i acc H' → acc.length ≤ i) ∧
      (∀ i ch acc H', i < z.cps.size → Pv i acc H' → Turn1 (blkCd c scope) tg ifs elt vs σ D (.str ⟨#[ch]⟩) H' acc (Pv (i + 1))) ∧ ∀ acc H', Pv z.cps.size acc H' → Q (.ref D) H') :
    tLc (RI c tg iter) (RG (blkCd c scope) tg) (RTs (blkCd c scope) ifs) (RE (blkCd c scope) elt) vs σ H Q := by
  refine ri_of (t := iStr (RE c iter)) (fun X h => pi_str (pe_re h)) (RE.mono (fun x H1 z => ?_) q)
  obtain ⟨z, rfl, hl, w⟩ := z
  refine ⟨z, rfl, fun D hD => ?_⟩
  obtain ⟨Pv, p0, pk, pt, pe⟩ := w D hD
  refine ⟨fun i m H' => m = z.cps.size - i ∧ i ≤ z.cps.size ∧ ∃ acc, Pv i acc H', ⟨z.cps.size, by simp, Nat.zero_le _, _, p0⟩, ?_⟩
  rintro i m H' ⟨rfl, hi, acc, p⟩
  by_cases hlt : i < z.cps.size
  · refine .inr ⟨hlt, fun H' => ∃ acc, Pv (i + 1) acc H', fun H' p' => ⟨z.cps.size - (i + 1), by omega, rfl, hlt, p'⟩, fun x H2 yy => ?_⟩
    obtain ⟨e, ch, hc, rfl⟩ := yy
    subst e
    have la := pk i acc _ p
    refine RG.mono (fun σ2 H2 z => ?_) (pt i ch acc _ hlt p)
    refine ⟨z.1, RTs.mono (fun b H3 z => ?_) z.2⟩
    cases b with
    | true => exact RE.mono (fun y H4 z => ⟨acc, z.1, Nat.lt_of_le_of_lt la (Nat.lt_of_lt_of_le hlt (Nat.le_trans hl (by decide))), _, z.2⟩) z
    | false => exact ⟨_, z⟩
  · have e : i = z.cps.size := by omega
    subst e
    exact .inl ⟨Nat.le_refl _, pe acc H' p⟩
end
end

/-! ### comprehensions that change nothing: a function on data -/
section
variable {c : Cd} {σ : L2.St} {H : Hp} {Q : VK} {pos : Pos} {x y : V} {elt tg iter : Expr} {ifs : List Expr} {scope : Scope} {vs : List Nat}
/-- the pure turn -/
def TurnF (cB : Cd) (tg : Expr) (ifs : List Expr) (elt : Expr) (vs : List Nat) (σ : L2.St) (K : PySem.W.Frag) (x : V) (H' : Hp) (o : Option PyData) : Prop :=
  RG cB tg x (wipe σ vs) H' fun σ2 H2 => H2 = H' ∧ wipe σ2 vs = wipe σ vs ∧ RTs cB ifs σ2 H2 fun b H3 => Same H' H3 ∧ if b = true then RE cB elt σ2 H3 fun y H4 => Same H3 H4 ∧ ∃ e, o = some e ∧ Dt K H4 y e else o = none
theorem TurnF.one {cB : Cd} {σ : L2.St} {K : PySem.W.Frag} {x : V} {H1 H' : Hp} {o : Option PyData} {D : Addr} {acc : List V} {es : List PyData} (hD : H1 D = none) (s : Same H1 H') (ha : H' D = some (.lst acc)) (hd : DtAll K H' acc es) (t : TurnF cB tg ifs elt vs σ K x H' o) :
    Turn1 cB tg ifs elt vs σ D x H' acc fun acc' H2 => H2 D = some (.lst acc') ∧ Same H1 H2 ∧ DtAll K H2 acc' (es ++ o.toList) := by
  refine RG.mono (fun σ2 H2 z => ?_) t
  obtain ⟨rfl, z1, z2⟩ := z
  refine ⟨z1, RTs.mono (fun b H3 z => ?_) z2⟩
  obtain ⟨s3, z⟩ := z
  cases b with
  | true =>
    refine RE.mono (fun y H4 z => ?_) z
    obtain ⟨s4, e, rfl, he⟩ := z
    have aD := s4 _ _ (s3 _ _ ha)
    have k := kp_upd (o' := .lst (acc ++ [y])) aD (fun _ e => nomatch e) (fun _ _ e => nomatch e)
    exact ⟨aD, upd_same, same_mut (s.trans (s3.trans s4)) hD, ((hd.mono (tp_same (s3.trans s4))).mono k.t).app (.cons (he.mono k.t) .nil)⟩
  | false =>
    have z : o = none := z
    subst z
    exact ⟨s3 _ _ ha, s.trans s3, by rw [Option.toList_none, List.append_nil]; exact hd.mono (tp_same s3)⟩
theorem outs_step {g : PyData → Option PyData} {ds : List PyData} {i : Nat} {d : PyData} (h : ds[i]? = some d) : (ds.take i).filterMap g ++ (g d).toList = (ds.take (i + 1)).filterMap g := by
  obtain ⟨h1, rfl⟩ := List.getElem?_eq_some_iff.mp h
  rw [List.take_succ_eq_append_getElem h1, List.filterMap_append]
  congr 1
theorem lcT_F (g : PyData → Option PyData) (q : RE c iter σ H fun x H1 => ∃ ds, Dt c.K H1 x (.tuple ds) ∧ ds.length ≤ 1000 ∧ (∀ d x H', d ∈ ds → Same H1 H' → Dt c.K H' x d → TurnF (blkCd c scope) tg ifs elt vs σ c.K x H' (g d)) ∧
      ∀ p us H2, Same H1 H2 → H1 p = none → H2 p = some (.lst us) → DtAll c.K H2 us (ds.filterMap g) → Q (.ref p) H2) :
    tLc (RI c tg iter) (RG (blkCd c scope) tg) (RTs (blkCd c scope) ifs) (RE (blkCd c scope) elt) vs σ H Q := by
  refine lc_T (RE.mono (fun x H1 z => ?_) q)
  obtain ⟨ds, hx, hl, t, k⟩ := z
  obtain ⟨a, xs, rfl, ht, ha⟩ := hx.tupE
  have hle := ha.len
  refine ⟨a, xs, rfl, ht, by omega, fun D hD => ⟨fun i acc H' => acc.length ≤ i ∧ H' D = some (.lst acc) ∧ Same H1 H' ∧ DtAll c.K H' acc ((ds.take i).filterMap g), ⟨Nat.le_refl _, upd_same, same_new hD, .nil⟩, ?_, ?_, ?_⟩⟩
  · rintro i acc H' _ ⟨l, _, s, _⟩
    exact ⟨(tp_same s).sqt ht, l⟩
  · rintro i x acc H' hx ⟨l, h1, s, h2⟩
    obtain ⟨d, hd, hx'⟩ := ha.getV hx
    have T := TurnF.one hD s h1 h2 (t d x H' (List.mem_of_getElem? hd) s (hx'.mono (tp_same s)))
    refine RG.mono (fun σ2 H2 z => ⟨z.1, RTs.mono (fun b H3 z => ?_) z.2⟩) T
    cases b with
    | true => exact RE.mono (fun y H4 z => ⟨z.1, by rw [List.length_append, List.length_singleton]; omega, z.2.1, z.2.2.1, by rw [← outs_step hd]; exact z.2.2.2⟩) z
    | false => exact ⟨by omega, z.1, z.2.1, by rw [← outs_step hd]; exact z.2.2⟩
  · rintro acc H' ⟨l, h1, s, h2⟩
    refine k D acc H' s hD h1 ?_
    rw [hle, List.take_length] at h2
    exact h2
theorem lcL_F (g : PyData → Option PyData) (q : RE c iter σ H fun x H1 => ∃ a xs ds, x = .ref a ∧ SqL c.K H1 a xs ∧ DtAll c.K H1 xs ds ∧ ds.length ≤ 1000 ∧ (∀ d x H', d ∈ ds → Same H1 H' → Dt c.K H' x d → TurnF (blkCd c scope) tg ifs elt vs σ c.K x H' (g d)) ∧
      ∀ p us H2, Same H1 H2 → H1 p = none → H2 p = some (.lst us) → DtAll c.K H2 us (ds.filterMap g) → Q (.ref p) H2) :
    tLc (RI c tg iter) (RG (blkCd c scope) tg) (RTs (blkCd c scope) ifs) (RE (blkCd c scope) elt) vs σ H Q := by
  refine lc_L (RE.mono (fun x H1 z => ?_) q)
  obtain ⟨a, xs, ds, rfl, ht, ha, hl, t, k⟩ := z
  have hle := ha.len
  refine ⟨a, xs, rfl, ht, by omega, fun D hD => ⟨fun i acc H' => acc.length ≤ i ∧ H' D = some (.lst acc) ∧ Same H1 H' ∧ DtAll c.K H' acc ((ds.take i).filterMap g), ⟨Nat.le_refl _, upd_same, same_new hD, .nil⟩, ?_, ?_, ?_⟩⟩
  · rintro i acc H' _ ⟨l, _, s, _⟩
    exact ⟨s.seq ht, l⟩
  · rintro i x acc H' hx ⟨l, h1, s, h2⟩
    obtain ⟨d, hd, hx'⟩ := ha.getV hx
    have T := TurnF.one hD s h1 h2 (t d x H' (List.mem_of_getElem? hd) s (hx'.mono (tp_same s)))
    refine RG.mono (fun σ2 H2 z => ⟨z.1, RTs.mono (fun b H3 z => ?_) z.2⟩) T
    cases b with
    | true => exact RE.mono (fun y H4 z => ⟨z.1, by rw [List.length_append, List.length_singleton]; omega, z.2.1, z.2.2.1, by rw [← outs_step hd]; exact z.2.2.2⟩) z
    | false => exact ⟨by omega, z.1, z.2.1, by rw [← outs_step hd]; exact z.2.2⟩
  · rintro acc H' ⟨l, h1, s, h2⟩
    refine k D acc H' s hD h1 ?_
    rw [hle, List.take_length] at h2
    exact h2

/-! ### lists that grow -/
theorem e_app {o e : Expr} {apos : Pos} (q : RE c o σ H fun x H1 => ∃ l zs, x = .ref l ∧ H1 l = some (.lst zs) ∧ RE c e σ H1 fun y H2 => ∃ ys, H2 l = some (.lst ys) ∧ ys.length < 100000 ∧ Q .non (upd H2 l (.lst (ys ++ [y]))))
    (hbase : ∀ env, attributeBase o "append" env (eval o env) = eval o env := by intro _; rfl)
    (hfew : ∀ env, ((backTo pos (starEach [e] env)).all (fun x => !x.1) && (backToKw pos (keywordEach [] env)).all (fun x => x.1.isSome)
      && decide (([e] : List Expr).length + ([] : List Keyword).length + (if ([] : List Keyword).isEmpty then 0 else 1) < 30)) = true := by intro _; rfl)
    (hline : (apos.endLine == pos.line) = true := by rfl) (hs : ∀ env, starEach [e] env = (false, eval e env) :: starEach [] env := by intro _; rfl) (hplain : ∀ env, (backTo pos (starEach [] env)).any (·.1) = false := by intro _; rfl) :
    RE c (.Call (.Attribute o "append" apos) [e] [] pos) σ H Q := by
  refine e_bm PySem.F.plainAttrs_list PySem.F.slot_list_append PySem.F.type_list_append (RE.mono (fun x H1 z => ?_) q) hbase hfew hline hs hplain
  obtain ⟨l, zs, rfl, hl, z⟩ := z
  refine ⟨Or.inl ⟨rfl, _, Or.inl (Or.inl hl)⟩, a_cons (RE.mono (fun y H2 z => a_nil ?_) z) hs⟩
  obtain ⟨ys, hl, hz, z⟩ := z
  exact rm_of (fun X h => mt_append) ⟨l, ys, y, rfl, rfl, hl, Nat.lt_of_lt_of_le hz (by decide), z⟩
theorem e_ext {o e : Expr} {apos : Pos} (q : RE c o σ H fun x H1 => ∃ l zs, x = .ref l ∧ H1 l = some (.lst zs) ∧ RE c e σ H1 fun y H2 => ∃ b ys ws, y = .ref b ∧ H2 l = some (.lst ys) ∧ H2 b = some (.lst ws) ∧ ys.length + ws.length ≤ 100000 ∧ Q .non (upd H2 l (.lst (ys ++ ws))))
    (hbase : ∀ env, attributeBase o "extend" env (eval o env) = eval o env := by intro _; rfl)
    (hfew : ∀ env, ((backTo pos (starEach [e] env)).all (fun x => !x.1) && (backToKw pos (keywordEach [] env)).all (fun x => x.1.isSome)
      && decide (([e] : List Expr).length + ([] : List Keyword).length + (if ([] : List Keyword).isEmpty then 0 else 1) < 30)) = true := by intro _; rfl)
    (hline : (apos.endLine == pos.line) = true := by rfl) (hs : ∀ env, starEach [e] env = (false, eval e env) :: starEach [] env := by intro _; rfl) (hplain : ∀ env, (backTo pos (starEach [] env)).any (·.1) = false := by intro _; rfl) :
    RE c (.Call (.Attribute o "extend" apos) [e] [] pos) σ H Q := by
  refine e_bm PySem.F.plainAttrs_list PySem.F.slot_list_extend PySem.F.type_list_extend (RE.mono (fun x H1 z => ?_) q) hbase hfew hline hs hplain
  obtain ⟨l, zs, rfl, hl, z⟩ := z
  refine ⟨Or.inl ⟨rfl, _, Or.inl (Or.inl hl)⟩, a_cons (RE.mono (fun y H2 z => a_nil ?_) z) hs⟩
  obtain ⟨b, ys, ws, rfl, hl, hb, hz, z⟩ := z
  exact rm_of (fun X h => mt_extend) ⟨l, b, ys, ws, rfl, rfl, hl, hb, Nat.le_trans hz (by decide), z⟩
theorem tupend {K : PySem.W.Frag} {H1 : Hp} {xs : List V} {ds : List PyData} {Q : VK} (h : DtAll K H1 xs ds) (hl : xs.length ≤ 1000) (q : ∀ v H2, Same H1 H2 → Dt K H2 v (.tuple ds) → Q v H2) : ∃ ds, DtAll K H1 xs ds ∧ xs.length ≤ 1000 ∧ ∀ v H2, Same H1 H2 → Dt K H2 v (.tuple ds) → Q v H2 := ⟨ds, h, hl, q⟩
/-- [a, b, ..] -/
theorem e_lstD {es : List Expr} (q : RA c es σ H fun xs H1 => xs.length ≤ 1000 ∧ ∀ p H2, Same H1 H2 → H1 p = none → H2 p = some (.lst xs) → Q (.ref p) H2) : RE c (.List es pos) σ H Q :=
  e_lst (RA.mono (fun xs H1 z => ⟨Nat.le_trans z.1 (by decide), fun p hp => z.2 p _ (same_new hp) hp upd_same⟩) q)
/-- tuple(xs) of a list -/
theorem rc_tupL {p : Addr} {ys : List V} {ds : List PyData} (hl : SqL c.K H p ys) (hd : DtAll c.K H ys ds) (q : ∀ v H2, Same H H2 → Dt c.K H2 v (.tuple ds) → Q v H2) : RC c (.type "tuple") [.ref p] H Q :=
  rc_of (r := fun xs H Q => ∃ p ys, xs = [.ref p] ∧ ((SqL c.K H p ys ∧ ∀ l, H l = none → Q (.ref l) (upd H l (.tup ys))) ∨ (SqT c.K H p ys ∧ Q (.ref p) H))) (fun X h => by rw [← h.K]; exact call_tuple_of) ⟨p, ys, rfl, .inl ⟨hl, fun l hn => q _ _ (same_new hn) (.tup (.of upd_same) (hd.mono (tp_same (same_new hn))))⟩⟩
/-- list(xs) -/
theorem rc_lstL {p : Addr} {ys : List V} (hl : SqL c.K H p ys) (q : ∀ l H2, Same H H2 → H l = none → H2 l = some (.lst ys) → Q (.ref l) H2) : RC c (.type "list") [.ref p] H Q :=
  rc_of (r := fun xs H Q => ∃ p ys, xs = [.ref p] ∧ (SqL c.K H p ys ∨ SqT c.K H p ys) ∧ ∀ l, H l = none → Q (.ref l) (upd H l (.lst ys))) (fun X h => by rw [← h.K]; exact call_list_of) ⟨p, ys, rfl, .inl hl, fun l hn => q _ _ (same_new hn) hn upd_same⟩
theorem rc_lstT {ds : List PyData} (hx : Dt c.K H x (.tuple ds)) (q : ∀ l ys H2, Same H H2 → H l = none → H2 l = some (.lst ys) → DtAll c.K H2 ys ds → Q (.ref l) H2) : RC c (.type "list") [x] H Q := by
  obtain ⟨a, ys, rfl, ht, hd⟩ := hx.tupE
  exact rc_of (r := fun xs H Q => ∃ p ys, xs = [.ref p] ∧ (SqL c.K H p ys ∨ SqT c.K H p ys) ∧ ∀ l, H l = none → Q (.ref l) (upd H l (.lst ys))) (fun X h => by rw [← h.K]; exact call_list_of) ⟨a, ys, rfl, .inr ht, fun l hn => q _ _ _ (same_new hn) hn upd_same (hd.mono (tp_same (same_new hn)))⟩
end
end G
namespace G
open PySem PySem.Spec PyProof.Rows L2
/-! ### xs[lo:hi:step] of a list: some of its items -/
theorem picked_vals {xs : List V} {its : List Value} (r : Vals xs its) : ∀ ix : List Nat, ∃ ys : List V, Vals ys (ix.filterMap (its.toArray[·]?)) ∧ ∀ y ∈ ys, y ∈ xs
  | [] => ⟨[], .nil, fun _ h => nomatch h⟩
  | i :: ix => by
    obtain ⟨ys, h1, h2⟩ := picked_vals r ix
    cases e : its.toArray[i]? with
    | none => exact ⟨ys, by rw [List.filterMap_cons, e]; exact h1, h2⟩
    | some u =>
      have e' : its[i]? = some u := by simpa using e
      cases ex : xs[i]? with
      | none =>
        have := r.none_of ex
        rw [e'] at this
        cases this
      | some x =>
        obtain ⟨u', hu, ru⟩ := r.get ex
        rw [e'] at hu
        cases hu
        refine ⟨x :: ys, by rw [List.filterMap_cons, e]; exact .cons ru h1, fun y hy => ?_⟩
        rcases List.mem_cons.mp hy with rfl | hy
        · exact List.mem_of_getElem? ex
        · exact h2 y hy
def tSlS (K : PySem.W.Frag) (te : TE) (tl th ts : TO) : TE := fun σ H Q => te σ H fun x H1 => tl σ H1 fun l H2 => th σ H2 fun u H3 => ts σ H3 fun st H4 => ∃ a xs, x = .ref a ∧ SqL K H4 a xs ∧ st ≠ some 0 ∧
  ∀ p ys, H4 p = none → (∀ y ∈ ys, y ∈ xs) → ys.length ≤ xs.length → Q (.ref p) (upd H4 p (.lst ys))
theorem pe_sliceS {X : Cx} {e st : Expr} {lo hi : Option Expr} {p2 pos : Pos} {te : TE} {tl th ts : TO} (he : PE X e te) (hl : PO X lo tl) (hu : PO X hi th) (hst : PO X (some st) ts) : PE X (.Subscript e (.Slice lo hi (some st) p2) pos) (tSlS X.K te tl th ts) := by
  constructor
  intro pins s σ H Q I h
  apply Subscript_ (thn (he.run pins s σ H _ I h) _)
  rintro v s1 ⟨x, H1, I1, r1, q1⟩
  refine wpAny_Slice (thn (hl.run pins s1 σ H1 _ I1 q1) fun vl s2 ⟨l, H2, I2, pl, q2⟩ => thn (hu.run pins s2 σ H2 _ I2 q2) fun vu s3 ⟨u, H3, I3, pu, q3⟩ => thn (hst.run pins s3 σ H3 _ I3 q3) fun vs s4 ⟨sv, H4, I4, ps, q4⟩ => ?_)
  obtain ⟨a, xs, rfl, hx, h0, q⟩ := q4
  cases r1
  have J5 : Inv X pins σ H4 { s4 with heap := s4.heap.push { cls := .type "slice", data := .fields #[vl, vu, vs] } } := I4.kept (t' := s4.toks) fun b ob q => Heap.get?_push_of_some _ q
  obtain ⟨its, r, ht, hz⟩ := (J5.list hx)
  have hlen := r.length
  show wpAny (model X.prog X.w) X.A (subscriptTail e (.Slice lo hi (some st) p2) (.ref a) (.ref s4.heap.objs.size)) (EP X pins σ Q) X.xe { s4 with heap := s4.heap.push { cls := .type "slice", data := .fields #[vl, vu, vs] } }
  refine tail_any (ops := [.ref a, .ref s4.heap.objs.size]) (id := "list.__getitem__") ht.isList.typeIs slot_list_getitem.lookup ?_ (by with_unfolding_all rfl)
  refine wpAny_getItem_list_slice ht.isList (Heap.IsSliceOf.new ..) pl pu ps h0 ?_ (by rw [List.size_toArray] <;> omega)
  obtain ⟨ys, y1, y2⟩ := picked_vals r (sliceRange (sliceBounds l u sv its.toArray.size).1 (sliceBounds l u sv its.toArray.size).2.1 (sliceBounds l u sv its.toArray.size).2.2)
  have y3 : ys.length ≤ xs.length := by
    rw [y1.length, hlen]
    have := slicePick_size_le its.toArray l u sv
    unfold slicePick at this
    rw [List.size_toArray, List.size_toArray] at this
    exact this
  refine ⟨.ref _, _, J5.laid (t' := s4.toks) (o := .lst ys) (fun b ob q => Heap.get?_push_of_some _ q) (Nat.le_refl _) ?_, rfl, q _ ys (J5.hok.fresh (Nat.le_refl _)) y2 y3⟩
  exact ⟨Nat.le_trans y3 hz, _, 0, y1, Heap.get?_push_size _ rfl⟩
section
variable {c : Cd} {σ : L2.St} {H : Hp} {Q : VK} {pos : Pos} {x y : V}
theorem e_sliceS {e st : Expr} {lo hi : Option Expr} {p2 : Pos} (q : RE c e σ H fun x H1 => RPo c lo σ H1 fun l H2 => RPo c hi σ H2 fun u H3 => RPo c (some st) σ H3 fun sv H4 => ∃ a xs, x = .ref a ∧ SqL c.K H4 a xs ∧ sv ≠ some 0 ∧
    ∀ p ys H5, Same H4 H5 → H4 p = none → H5 p = some (.lst ys) → (∀ y ∈ ys, y ∈ xs) → ys.length ≤ xs.length → Q (.ref p) H5) : RE c (.Subscript e (.Slice lo hi (some st) p2) pos) σ H Q := by
  refine re_of (t := tSlS c.K (RE c e) (RPo c lo) (RPo c hi) (RPo c (some st))) (fun X h => by rw [← h.K]; exact pe_sliceS (pe_re h) (po_rp h) (po_rp h) (po_rp h)) ?_
  refine RE.mono (fun x H1 z => ?_) q
  obtain ⟨⟨t1, Q1, h1, q1, w1⟩⟩ := z
  refine ⟨⟨t1, Q1, h1, q1, fun l H2 z => ?_⟩⟩
  obtain ⟨⟨t2, Q2, h2, q2, w2⟩⟩ := w1 _ _ z
  refine ⟨⟨t2, Q2, h2, q2, fun u H3 z => ?_⟩⟩
  obtain ⟨⟨t3, Q3, h3, q3, w3⟩⟩ := w2 _ _ z
  refine ⟨⟨t3, Q3, h3, q3, fun sv H4 z => ?_⟩⟩
  obtain ⟨a, xs, e1, e2, e3, k⟩ := w3 _ _ z
  exact ⟨a, xs, e1, e2, e3, fun p ys hp m l => k p ys _ (same_new hp) hp upd_same m l⟩
theorem rsl_list {a : Addr} {xs : List V} {lo hi : Option Int} (hx : SqL c.K H a xs) (q : ∀ p H2, Same H H2 → H p = none → H2 p = some (.lst (cutV xs lo hi)) → Q (.ref p) H2) : RSl c (.ref a) lo hi H Q :=
  rsl_of (r := rSlL c.K) (fun X h => by rw [← h.K]; exact sl_list) ⟨a, xs, rfl, hx, fun p hp => q _ _ (same_new hp) hp upd_same⟩
/-- xs + ys of lists -/
theorem ro_cat {a b : Addr} {xs ys : List V} (h1 : H a = some (.lst xs)) (h2 : H b = some (.lst ys)) (hl : xs.length + ys.length ≤ 100000) (q : ∀ p H2, Same H H2 → H p = none → H2 p = some (.lst (xs ++ ys)) → Q (.ref p) H2) : RO c .Add (.ref a) (.ref b) H Q :=
  ro_of (fun X h => op_cat) ⟨a, b, xs, ys, rfl, rfl, h1, h2, Nat.le_trans hl (by decide), fun p hp => q _ _ (same_new hp) hp upd_same⟩
/-- xs * n of a list -/
theorem ro_rep {a : Addr} {xs : List V} {k : Int} (h1 : H a = some (.lst xs)) (h2 : -1000 ≤ k ∧ k ≤ 1000) (hl : xs.length ≤ 1000) (q : ∀ p H2, Same H H2 → H p = none → H2 p = some (.lst (List.replicate k.toNat xs).flatten) → Q (.ref p) H2) : RO c .Mult (.ref a) (.int k) H Q := by
  refine ro_of (fun X h => op_rep) ⟨a, k, xs, rfl, rfl, h1, by omega, by omega, ?_, fun p hp => q _ _ (same_new hp) hp upd_same⟩
  have : xs.length * k.toNat ≤ 1000 * 1000 := Nat.mul_le_mul hl (by omega)
  exact Nat.le_trans this (by decide)
end
end G

namespace G
open PySem PySem.Spec PyProof.Rows L2
theorem same_none {H H1 : Hp} (s : Same H H1) {l : Addr} (h : H1 l = none) : H l = none := by
  cases e : H l with
  | none => rfl
  | some o => rw [s _ _ e] at h; cases h
theorem ift {A B : Prop} (a : A) : if true = true then A else B := a
theorem ne_feed {K : PySem.W.Frag} {H H1 : Hp} {fd cl l : Addr} (h : Feed K H fd cl) (g : Same H H1) (n : H1 l = none) : l ≠ fd := by
  rintro rfl
  obtain ⟨ns, b, d, e, h1, _⟩ := h
  rw [g _ _ h1] at n
  cases n
theorem ne_cl {K : PySem.W.Frag} {H H1 : Hp} {fd cl l : Addr} (h : Feed K H fd cl) (g : Same H H1) (n : H1 l = none) : l ≠ cl := by
  rintro rfl
  obtain ⟨ns, b, d, e, _, h1, _⟩ := h
  rw [g _ _ h1] at n
  cases n
theorem fresh_ne {H H1 : Hp} {a l : Addr} {o : HO} (h : H a = some o) (g : Same H H1) (n : H1 l = none) : l ≠ a := by
  rintro rfl
  rw [g _ _ h] at n
  cases n
section
variable {c : Cd} {σ : L2.St} {H : Hp} {Q : VK} {pos : Pos} {x y : V}
/-- t + u of data -/
theorem ro_catT {ds es : List PyData} (h1 : Dt c.K H x (.tuple ds)) (h2 : Dt c.K H y (.tuple es)) (hl : ds.length + es.length ≤ 100000) (q : ∀ v H2, Same H H2 → Dt c.K H2 v (.tuple (ds ++ es)) → Q v H2) : RO c .Add x y H Q := by
  obtain ⟨a, xs, rfl, t1, d1⟩ := h1.tupE
  obtain ⟨b, ys, rfl, t2, d2⟩ := h2.tupE
  have l1 := d1.len
  have l2 := d2.len
  refine ro_of (r := rCatA c.K) (fun X h => by rw [← h.K]; exact op_catA) ⟨a, b, xs, ys, rfl, rfl, t1, t2, Nat.le_trans (by omega : xs.length + ys.length ≤ 100000) (by decide), ?_, ?_, ?_⟩
  · rintro rfl
    cases d1
    exact q _ _ (Same.refl _) h2
  · rintro _ rfl
    cases d2
    rw [List.append_nil] at q
    exact q _ _ (Same.refl _) h1
  · intro _ _ p hp
    exact q _ _ (same_new hp) (.tup (.of upd_same) ((d1.app d2).mono (tp_same (same_new hp))))
/-- a def that answers with a new list of data -/
def spL (R : List PyData → List PyData → Prop) (K : PySem.W.Frag) : Sp := fun vs H Q _ => ∃ ds es, DtAll K H vs ds ∧ R ds es ∧ ∀ l us H', Same H H' → H l = none → H' l = some (.lst us) → DtAll K H' us es → Q (.ref l) H'
theorem e_callL {x : Str} {p : Pos} {e : Expr} {es : List Expr} {ps : List Str} {k : Nat} {R : List PyData → List PyData → Prop} (D : Dc c.toMd x ps k (spL R c.K)) (q : RA c (e :: es) σ H fun vs H1 => ∃ ds es, DtAll c.K H1 vs ds ∧ R ds es ∧ ∀ l us H', Same H1 H' → H1 l = none → H' l = some (.lst us) → DtAll c.K H' us es → Q (.ref l) H') (hk : k ≤ c.k := by exact Nat.le_of_ble_eq_true rfl) (hg : c.sc.names.lookup x = some .globalImplicit := by rfl)
    (hdb : (x == ("__debug__" : Str)) = false := by decide) (he : ∀ env, starEach (e :: es) env = (false, eval e env) :: starEach es env := by intro _; rfl) (hpl : ∀ env, (backTo pos (starEach es env)).any (·.1) = false := by intro _; rfl) :
    RE c (.Call (.Name x p) (e :: es) [] pos) σ H Q := e_call D q hk hg hdb he hpl
/-- a def that is given a list of data (and data behind it) and answers with a new list of data -/
def spLL (R : List PyData → List PyData → List PyData → Prop) (K : PySem.W.Frag) : Sp := fun vs H Q _ => ∃ a xs rest ds cs es, vs = .ref a :: rest ∧ SqL K H a xs ∧ DtAll K H xs ds ∧ DtAll K H rest cs ∧ R ds cs es ∧ ∀ l us H', Same H H' → H l = none → H' l = some (.lst us) → DtAll K H' us es → Q (.ref l) H'
theorem rx_pick {p : Addr} {xs : List V} {ds : List PyData} {i : Int} (hx : SqL c.K H p xs) (hd : DtAll c.K H xs ds) (h0 : 0 ≤ i) (h1 : i < ds.length) (q : ∀ v d, ds[i.toNat]? = some d → Dt c.K H v d → Q v H) : RX c (.ref p) (.int i) H Q := by
  have hlt : i.toNat < ds.length := by omega
  obtain ⟨v, hv, h⟩ := hd.get (List.getElem?_eq_getElem hlt)
  exact rx_list hx (pl_at (j := i.toNat) (by omega) hv) (q v _ (List.getElem?_eq_getElem hlt) h)
theorem rx_pickT {ds : List PyData} {i : Int} (hx : Dt c.K H x (.tuple ds)) (h0 : 0 ≤ i) (h1 : i < ds.length) (q : ∀ v d, ds[i.toNat]? = some d → Dt c.K H v d → Q v H) : RX c x (.int i) H Q := by
  have hlt : i.toNat < ds.length := by omega
  exact rx_tup hx (pl_at (j := i.toNat) (by omega) (List.getElem?_eq_getElem hlt)) fun v h => q v _ (List.getElem?_eq_getElem hlt) h
/-- a drawing call -/
theorem e_callD {x : Str} {p : Pos} {e : Expr} {es : List Expr} {ps : List Str} {k : Nat} {Pre : List PyData → Prop} {R : List PyData → PyData → Prop} (D : Dc c.toMd x ps k (spD Pre R c.K)) (q : RA c (e :: es) σ H fun vs H1 => ∃ fd cl rest ds, vs = .ref fd :: rest ∧ Feed c.K H1 fd cl ∧ DtAll c.K H1 rest ds ∧ Pre ds ∧ ∀ d v H', R ds d → Kp fd H1 H' → Feed c.K H' fd cl → Dt c.K H' v d → Q v H') (hk : k ≤ c.k := by exact Nat.le_of_ble_eq_true rfl) (hg : c.sc.names.lookup x = some .globalImplicit := by rfl)
    (hdb : (x == ("__debug__" : Str)) = false := by decide) (he : ∀ env, starEach (e :: es) env = (false, eval e env) :: starEach es env := by intro _; rfl) (hpl : ∀ env, (backTo pos (starEach es env)).any (·.1) = false := by intro _; rfl) :
    RE c (.Call (.Name x p) (e :: es) [] pos) σ H Q := e_call D q hk hg hdb he hpl

section
variable {elt tg iter : Expr} {ifs : List Expr} {scope : Scope} {vs : List Nat}
theorem rng_step {g : Int → Option PyData} {i : Int} (t : Nat) : (List.range t).filterMap (fun t : Nat => g (i + (t : Int))) ++ (g (i + (t : Int))).toList = (List.range (t + 1)).filterMap (fun t : Nat => g (i + (t : Int))) := by
  rw [List.range_succ, List.filterMap_append]
  congr 1
theorem lcR2_F (g : Int → Option PyData) {a b : Expr} {p ppos : Pos} (hm : c.mg "range" = none) (q : RE c a σ H fun x H1 => RE c b σ H1 fun y H2 => ∃ i j : Int, x = .int i ∧ y = .int j ∧ (-1000 ≤ i ∧ i ≤ 1000) ∧ (-1000 ≤ j ∧ j ≤ 1000) ∧ (∀ (t : Nat) H', t < (j - i).toNat → Same H2 H' → TurnF (blkCd c scope) tg ifs elt vs σ c.K (.int (i + t)) H' (g (i + t))) ∧
      ∀ p us H3, Same H2 H3 → H2 p = none → H3 p = some (.lst us) → DtAll c.K H3 us ((List.range (j - i).toNat).filterMap fun t : Nat => g (i + (t : Int))) → Q (.ref p) H3)
    (hg : c.sc.names.lookup ("range" : Str) = some .globalImplicit := by rfl) (hs : ∀ env, starEach [a, b] env = [(false, eval a env), (false, eval b env)] := by intro _; rfl) (hs2 : ∀ env, starEach [b] env = [(false, eval b env)] := by intro _; rfl) :
    tLc (RI c tg (.Call (.Name "range" p) [a, b] [] ppos)) (RG (blkCd c scope) tg) (RTs (blkCd c scope) ifs) (RE (blkCd c scope) elt) vs σ H Q := by
  refine lc_R2 hm (RE.mono (fun x H1 z => RE.mono (fun y H2 z => ?_) z) q) hg hs hs2
  obtain ⟨i, j, rfl, rfl, h1, h2, tn, k⟩ := z
  refine ⟨i, j, rfl, rfl, h1, h2, fun D hD => ⟨fun t acc H' => acc.length ≤ t ∧ H' D = some (.lst acc) ∧ Same H2 H' ∧ DtAll c.K H' acc ((List.range t).filterMap fun t : Nat => g (i + (t : Int))), ⟨Nat.le_refl _, upd_same, same_new hD, .nil⟩, fun _ _ _ h => h.1, ?_, ?_⟩⟩
  · rintro t acc H' ht ⟨l, h1, s, h2⟩
    have T := TurnF.one hD s h1 h2 (tn t H' ht s)
    refine RG.mono (fun σ2 H2 z => ⟨z.1, RTs.mono (fun b H3 z => ?_) z.2⟩) T
    cases b with
    | true => exact RE.mono (fun y H4 z => ⟨z.1, by rw [List.length_append, List.length_singleton]; omega, z.2.1, z.2.2.1, by rw [← rng_step]; exact z.2.2.2⟩) z
    | false => exact ⟨by omega, z.1, z.2.1, by rw [← rng_step]; exact z.2.2⟩
  · rintro acc H' ⟨l, h1, s, h2⟩
    exact k D acc H' s hD h1 h2
theorem lcR1_F (g : Int → Option PyData) {a : Expr} {p ppos : Pos} (hm : c.mg "range" = none) (q : RE c a σ H fun y H2 => ∃ j : Int, y = .int j ∧ (-1000 ≤ j ∧ j ≤ 1000) ∧ (∀ (t : Nat) H', t < j.toNat → Same H2 H' → TurnF (blkCd c scope) tg ifs elt vs σ c.K (.int t) H' (g t)) ∧
      ∀ p us H3, Same H2 H3 → H2 p = none → H3 p = some (.lst us) → DtAll c.K H3 us ((List.range j.toNat).filterMap fun t : Nat => g (t : Int)) → Q (.ref p) H3)
    (hg : c.sc.names.lookup ("range" : Str) = some .globalImplicit := by rfl) (hs : ∀ env, starEach [a] env = [(false, eval a env)] := by intro _; rfl) :
    tLc (RI c tg (.Call (.Name "range" p) [a] [] ppos)) (RG (blkCd c scope) tg) (RTs (blkCd c scope) ifs) (RE (blkCd c scope) elt) vs σ H Q := by
  refine lc_R1 hm (RE.mono (fun y H2 z => ?_) q) hg hs
  obtain ⟨j, rfl, h2, tn, k⟩ := z
  refine ⟨j, rfl, h2, fun D hD => ⟨fun t acc H' => acc.length ≤ t ∧ H' D = some (.lst acc) ∧ Same H2 H' ∧ DtAll c.K H' acc ((List.range t).filterMap fun t : Nat => g (t : Int)), ⟨Nat.le_refl _, upd_same, same_new hD, .nil⟩, fun _ _ _ h => h.1, ?_, ?_⟩⟩
  · rintro t acc H' ht ⟨l, h1, s, h2⟩
    have T := TurnF.one hD s h1 h2 (tn t H' ht s)
    have e := rng_step (g := g) (i := 0) t
    simp only [Int.zero_add] at e
    refine RG.mono (fun σ2 H2 z => ⟨z.1, RTs.mono (fun b H3 z => ?_) z.2⟩) T
    cases b with
    | true => exact RE.mono (fun y H4 z => ⟨z.1, by rw [List.length_append, List.length_singleton]; omega, z.2.1, z.2.2.1, by rw [← e]; exact z.2.2.2⟩) z
    | false => exact ⟨by omega, z.1, z.2.1, by rw [← e]; exact z.2.2⟩
  · rintro acc H' ⟨l, h1, s, h2⟩
    exact k D acc H' s hD h1 h2
end
end
end G

namespace G
open PySem PySem.Spec PyProof.Rows L2
def isStar : Expr → Bool
  | .Starred .. => true
  | _ => false
theorem any_star (vs : List Expr) : (vs.any fun | .Starred .. => true | _ => false) = vs.any isStar := by
  congr 1
theorem sw2 {x y : Str} {px py pt : Pos} {kt k2 pt2} {a b : Expr} {env : Env} (hk : env.scope.kind = .function) (hx : env.scope.names.lookup x = some .local) (hy : env.scope.names.lookup y = some .local) (hxy : [x, y].eraseDups.length = 2) (hl : (py.line == px.line) = true)
    (h1 : [a, b].any isStar = false) (h2 : [a, b].all (foldedForSure 8) = false) (h3 : [a, b].all (constantsAlone 8) = false) :
    swappedStores [.Tuple [.Name x px, .Name y py] kt pt] (.Tuple [a, b] k2 pt2) env = pure (some [x, y]) := by
  have kx : env.kindOf x = some .local := hx
  have ky : env.kindOf y = some .local := hy
  have hb : env.blockKind = .function := by unfold Env.blockKind; rw [hk]; rfl
  have hn : ([Expr.Name x px, Expr.Name y py].filterMap fun
    | .Name id pos => if env.kindOf id == some .local && pos.line == px.line then some id else none
    | _ => none) = [x, y] := by
    simp only [List.filterMap_cons, List.filterMap_nil, kx, ky, hl, beq_self_eq_true, Bool.and_self, if_true]
  unfold swappedStores
  simp only [hb]
  show (if _ = true then _ else if ([a, b].any fun | .Starred .. => true | _ => false) = true then _ else _) = _
  rw [any_star, h1]
  generalize hz : List.filterMap _ [Expr.Name x px, Expr.Name y py] = z
  have hz' : z = [x, y] := by rw [← hz]; exact hn
  subst hz'
  rw [if_neg (by show ¬ (false = true); decide), if_neg (by decide), if_neg (by rw [hxy]; show ¬ (false = true); decide), h2, if_neg (by decide), h3, if_neg (by decide)]
theorem sw3 {x y z : Str} {px py pz pt : Pos} {kt k2 pt2} {a b d : Expr} {env : Env} (hk : env.scope.kind = .function) (hx : env.scope.names.lookup x = some .local) (hy : env.scope.names.lookup y = some .local) (hz0 : env.scope.names.lookup z = some .local) (hxy : [x, y, z].eraseDups.length = 3) (hl : (py.line == px.line) = true) (hl2 : (pz.line == px.line) = true)
    (h1 : [a, b, d].any isStar = false) (h2 : [a, b, d].all (foldedForSure 8) = false) (h3 : [a, b, d].all (constantsAlone 8) = false) :
    swappedStores [.Tuple [.Name x px, .Name y py, .Name z pz] kt pt] (.Tuple [a, b, d] k2 pt2) env = pure (some [x, y, z]) := by
  have kx : env.kindOf x = some .local := hx
  have ky : env.kindOf y = some .local := hy
  have kz : env.kindOf z = some .local := hz0
  have hb : env.blockKind = .function := by unfold Env.blockKind; rw [hk]; rfl
  have hn : ([Expr.Name x px, Expr.Name y py, Expr.Name z pz].filterMap fun
    | .Name id pos => if env.kindOf id == some .local && pos.line == px.line then some id else none
    | _ => none) = [x, y, z] := by
    simp only [List.filterMap_cons, List.filterMap_nil, kx, ky, kz, hl, hl2, beq_self_eq_true, Bool.and_self, if_true]
  unfold swappedStores
  simp only [hb]
  show (if _ = true then _ else if ([a, b, d].any fun | .Starred .. => true | _ => false) = true then _ else _) = _
  rw [any_star, h1]
  generalize hz : List.filterMap _ [Expr.Name x px, Expr.Name y py, Expr.Name z pz] = w
  have hz' : w = [x, y, z] := by rw [← hz]; exact hn
  subst hz'
  rw [if_neg (by show ¬ (false = true); decide), if_neg (by decide), if_neg (by rw [hxy]; show ¬ (false = true); decide), h2, if_neg (by decide), h3, if_neg (by decide)]
section
variable {c : Cd} {σ : L2.St} {H : Hp} {D : Ends} {pos : Pos}
theorem s_par2 {i j : Nat} {x y : Str} {a b : Expr} {px py pt : Pos} {kt k2 pt2} (hi : At c.N i x) (hj : At c.N j y) (q : RE c a σ H fun v H1 => RE c b σ H1 fun w H2 => D.nx ((σ.set i (some v)).set j (some w)) H2) (hij : i ≠ j := by decide)
    (hx : c.sc.names.lookup x = some .local := by rfl) (hy : c.sc.names.lookup y = some .local := by rfl) (hk : c.sc.kind = .function := by rfl) (hxy : [x, y].eraseDups.length = 2 := by decide +kernel) (hl : (py.line == px.line) = true := by rfl)
    (e1 : [a, b].any isStar = false := by rfl) (e2 : [a, b].all (foldedForSure 8) = false := by rfl) (e3 : [a, b].all (constantsAlone 8) = false := by rfl)
    (hs : ∀ env, swapsWithSole [.Tuple [.Name x px, .Name y py] kt pt] (.Tuple [a, b] k2 pt2) pos.line env = pure false := by intro _; rfl)
    (h1 : ∀ env, starEach [a, b] env = (false, eval a env) :: starEach [b] env := by intro _; rfl) (h2 : ∀ env, starEach [b] env = (false, eval b env) :: starEach [] env := by intro _; rfl) :
    RS c (.Assign [.Tuple [.Name x px, .Name y py] kt pt] (.Tuple [a, b] k2 pt2) pos) D σ H :=
  s_par hi hj q hij hx hy (fun env he => sw2 (by rw [he]; exact hk) (by rw [he]; exact hx) (by rw [he]; exact hy) hxy hl e1 e2 e3) hs h1 h2
theorem s_par3 {i j l : Nat} {x y z : Str} {a b d : Expr} {px py pz pt : Pos} {kt k2 pt2} (hi : At c.N i x) (hj : At c.N j y) (hl0 : At c.N l z) (q : RE c a σ H fun v H1 => RE c b σ H1 fun w H2 => RE c d σ H2 fun u H3 => D.nx (((σ.set i (some v)).set j (some w)).set l (some u)) H3) (hij : i ≠ j := by decide) (hil : i ≠ l := by decide) (hjl : j ≠ l := by decide)
    (hx : c.sc.names.lookup x = some .local := by rfl) (hy : c.sc.names.lookup y = some .local := by rfl) (hz : c.sc.names.lookup z = some .local := by rfl) (hk : c.sc.kind = .function := by rfl) (hxy : [x, y, z].eraseDups.length = 3 := by decide +kernel) (hl : (py.line == px.line) = true := by rfl) (hl2 : (pz.line == px.line) = true := by rfl)
    (e1 : [a, b, d].any isStar = false := by rfl) (e2 : [a, b, d].all (foldedForSure 8) = false := by rfl) (e3 : [a, b, d].all (constantsAlone 8) = false := by rfl)
    (hs : ∀ env, swapsWithSole [.Tuple [.Name x px, .Name y py, .Name z pz] kt pt] (.Tuple [a, b, d] k2 pt2) pos.line env = pure false := by intro _; rfl)
    (h0 : ∀ env, starEach [a, b, d] env = (false, eval a env) :: starEach [b, d] env := by intro _; rfl) (h1 : ∀ env, starEach [b, d] env = (false, eval b env) :: starEach [d] env := by intro _; rfl) (h2 : ∀ env, starEach [d] env = (false, eval d env) :: starEach [] env := by intro _; rfl) :
    RS c (.Assign [.Tuple [.Name x px, .Name y py, .Name z pz] kt pt] (.Tuple [a, b, d] k2 pt2) pos) D σ H := by
  refine rs_of (t := tPar3 i j l (RA c [a, b, d])) (fun X h => ps_par3 h.calm (by rw [h.N]; exact h.nd) (by rw [h.N]; exact hi.get) (by rw [h.N]; exact hj.get) (by rw [h.N]; exact hl0.get) hij hil hjl (by rw [h.sc]; exact hx) (by rw [h.sc]; exact hy) (by rw [h.sc]; exact hz) (pa_ra h) (sw3 (by rw [h.sc]; exact hk) (by rw [h.sc]; exact hx) (by rw [h.sc]; exact hy) (by rw [h.sc]; exact hz) hxy hl hl2 e1 e2 e3) (hs _)) ?_
  exact a_cons (RE.mono (fun v H1 z => a_cons (RE.mono (fun w H2 z => a_cons (RE.mono (fun u H3 z => a_nil ⟨v, w, u, rfl, z⟩) z) h2) z) h1) q) h0
theorem e_bo1 {Q : VK} {op : BoolOp} {a : Expr} (q : RE c a σ H Q) : RE c (.BoolOp op [a] pos) σ H Q := re_of (fun X h => pe_one (pe_re h)) q
theorem e_disp {Q : VK} {keys : List (Option Expr)} {values : List Expr} {trs : List (TE × TE)} (hp : ∀ X, Is c X → PPs X pos keys values trs) (hall : keys.all (·.isSome) = true) (hl : keys.length = values.length) (h0 : keys ≠ []) (h15 : keys.length ≤ 15) (q : tDisp trs σ H Q) : RE c (.Dict keys values pos) σ H Q :=
  re_of (fun X h => pe_disp (hp X h) hall hl h0 h15) q
theorem e_dnew {Q : VK} (q : ∀ p, H p = none → Q (.ref p) (upd H p (.dK []))) : RE c (.Dict [] [] pos) σ H Q := re_of (fun X h => pe_dnewK) q
theorem kp_none {fp l : Addr} {H H1 : Hp} (k : Kp fp H H1) (h : H1 l = none) (n : l ≠ fp) : H l = none := by
  cases e : H l with
  | none => rfl
  | some o => rw [k.k _ _ n e] at h; cases h
theorem ty_tup {K : PySem.W.Frag} {a : Addr} {xs : List V} (h : SqT K H a xs) : TyX K H (.ref a) (.type "tuple") := by
  rcases h with (h | ⟨o, h⟩) | ⟨o, its, n, h1, h2, _⟩
  · exact .base (.tup h)
  · exact .fTuple h
  · exact .kTuple h1 h2
theorem rc_isi {Q : VK} {x : V} {t T : String} {b : Bool} (ty : TyX c.K H x (.type t)) (e : PySem.W.kitOne c.K (.type t) (.type T) = some b) (q : Q (.bl b) H) : RC c (.builtin "isinstance") [x, .ty T] H Q :=
  rc_of (r := rIsi c.K) (fun X h => by rw [← h.K]; exact call_isi) ⟨x, _, _, _, b, rfl, .ty T, ty, e, q⟩
/-- a def with defaults -/
structure DcV (c : Md) (x : Str) (ps : List Str) (dvs : List V) (k : Nat) (sp : Sp) : Prop where
  ex : ∃ (f : Addr) (fd : FuncData) (ds : List Value), FnG c.prog c.w c.K c.mg c.base noX k f fd ps sp ∧ c.mg x = some (.ref f) ∧ PySem.W.keepIn c.K (.ref f) = true ∧ Binds c.K fd ps ds ∧ Vals dvs ds
theorem e_callV {Q : VK} {x : Str} {p : Pos} {e : Expr} {es : List Expr} {ps : List Str} {dvs : List V} {k : Nat} {sp : Sp} (D : DcV c.toMd x ps dvs k sp) (q : RA c (e :: es) σ H fun vs H1 => sp (vs ++ dvs) H1 Q fun _ _ _ => False) (hk : k ≤ c.k := by exact Nat.le_of_ble_eq_true rfl) (hg : c.sc.names.lookup x = some .globalImplicit := by rfl)
    (hdb : (x == ("__debug__" : Str)) = false := by decide) (he : ∀ env, starEach (e :: es) env = (false, eval e env) :: starEach es env := by intro _; rfl) (hpl : ∀ env, (backTo pos (starEach es env)).any (·.1) = false := by intro _; rfl) :
    RE c (.Call (.Name x p) (e :: es) [] pos) σ H Q := by
  obtain ⟨f, fd, ds, F, hm, hkp, hb, hv⟩ := D.ex
  refine re_of (t := tCall sp dvs (fun _ _ _ => False) (RA c (e :: es))) (fun X h => ?_) q
  refine pe_call (CX := fun _ _ _ _ _ _ => False) (k := k) (f := f) (fd := fd) (ps := ps) (ds := ds) ?_ (h.room.mono hk) (gl_of h hg) (by rw [h.mg]; exact hm) (by rw [h.K]; exact hkp) (by rw [h.K]; exact hb) hv (fun _ _ _ _ _ _ _ z => z.elim) (pa_ra h) hdb (he _) (hpl _)
  rw [h.prog, h.w, h.K, h.mg, h.base]; exact F
/-- x, y = e with a pair of data -/
theorem g_unp2 {R : L2.St → Hp → Prop} {i j : Nat} {x y : Str} {px py pt : Pos} {kt : Nat} {v : V} {d1 d2 : PyData} (hi : At c.N i x) (hj : At c.N j y) (hv : Dt c.K H v (.tuple [d1, d2])) (q : ∀ v1 v2, Dt c.K H v1 d1 → Dt c.K H v2 d2 → R ((σ.set i (some v1)).set j (some v2)) H)
    (hx : c.sc.names.lookup x = some .local ∨ (c.sc.names.lookup x = some .cell ∧ c.top = true) := by first | exact Or.inl rfl | exact Or.inr ⟨rfl, rfl⟩) (hy : c.sc.names.lookup y = some .local ∨ (c.sc.names.lookup y = some .cell ∧ c.top = true) := by first | exact Or.inl rfl | exact Or.inr ⟨rfl, rfl⟩)
    (hst : ∀ env, (assignEach [.Name x px, .Name y py] env).findIdx? (·.1) = none := by intro _; rfl) : RG c (.Tuple [.Name x px, .Name y py] kt pt) v σ H R := by
  obtain ⟨a, xs, rfl, ht, hd⟩ := hv.tupE
  obtain _ | ⟨h1, hd⟩ := hd
  obtain _ | ⟨h2, hd⟩ := hd
  cases hd
  exact g_tup ht (gs_cons (g_name hi (gs_cons (g_name hj (gs_nil (q _ _ h1 h2)) hy)) hx)) rfl (fun _ => rfl) hst
theorem g_unp3 {R : L2.St → Hp → Prop} {i j l : Nat} {x y z : Str} {px py pz pt : Pos} {kt : Nat} {v : V} {d1 d2 d3 : PyData} (hi : At c.N i x) (hj : At c.N j y) (hl : At c.N l z) (hv : Dt c.K H v (.tuple [d1, d2, d3])) (q : ∀ v1 v2 v3, Dt c.K H v1 d1 → Dt c.K H v2 d2 → Dt c.K H v3 d3 → R (((σ.set i (some v1)).set j (some v2)).set l (some v3)) H)
    (hx : c.sc.names.lookup x = some .local ∨ (c.sc.names.lookup x = some .cell ∧ c.top = true) := by first | exact Or.inl rfl | exact Or.inr ⟨rfl, rfl⟩) (hy : c.sc.names.lookup y = some .local ∨ (c.sc.names.lookup y = some .cell ∧ c.top = true) := by first | exact Or.inl rfl | exact Or.inr ⟨rfl, rfl⟩) (hz : c.sc.names.lookup z = some .local ∨ (c.sc.names.lookup z = some .cell ∧ c.top = true) := by first | exact Or.inl rfl | exact Or.inr ⟨rfl, rfl⟩)
    (hst : ∀ env, (assignEach [.Name x px, .Name y py, .Name z pz] env).findIdx? (·.1) = none := by intro _; rfl) : RG c (.Tuple [.Name x px, .Name y py, .Name z pz] kt pt) v σ H R := by
  obtain ⟨a, xs, rfl, ht, hd⟩ := hv.tupE
  obtain _ | ⟨h1, hd⟩ := hd
  obtain _ | ⟨h2, hd⟩ := hd
  obtain _ | ⟨h3, hd⟩ := hd
  cases hd
  exact g_tup ht (gs_cons (g_name hi (gs_cons (g_name hj (gs_cons (g_name hl (gs_nil (q _ _ _ h1 h2 h3)) hz)) hy)) hx)) rfl (fun _ => rfl) hst
end
end G

namespace G
open PySem PySem.Spec PyProof.Rows L2
/-- a tuple's object as the built-in makes it -/
def BareT (ob : Obj) : Prop := ob.cls = .type "tuple" ∧ ob.dict = none
/-- none, or a tuple of data whose object is known to be bare -/
def Fz (K : PySem.W.Frag) (H : Hp) (v : V) (d : PyData) : Prop := (v = .non ∧ d = .none) ∨ ∃ a ob us ds, v = .ref a ∧ d = .tuple ds ∧ H a = some (.frz ob (.tup us)) ∧ BareT ob ∧ DtAll K H us ds
theorem Fz.mono {K : PySem.W.Frag} {H H' : Hp} {v : V} {d : PyData} (e : Tp H H') (h : Fz K H v d) : Fz K H' v d := by
  rcases h with h | ⟨a, ob, us, ds, h1, h2, h3, h4, h5⟩
  · exact .inl h
  · exact .inr ⟨a, ob, us, ds, h1, h2, e.f _ _ _ h3, h4, h5.mono e⟩
theorem Fz.dt {K : PySem.W.Frag} {H : Hp} {v : V} {d : PyData} (h : Fz K H v d) : Dt K H v d := by
  rcases h with ⟨rfl, rfl⟩ | ⟨a, ob, us, ds, rfl, rfl, h3, h4, h5⟩
  · exact .non
  · exact .tup (.inl (.inr ⟨ob, h3⟩)) h5
theorem Fz.tup {K : PySem.W.Frag} {H : Hp} {v : V} {ds : List PyData} (h : Fz K H v (.tuple ds)) : ∃ a ob us, v = .ref a ∧ H a = some (.frz ob (.tup us)) ∧ BareT ob ∧ DtAll K H us ds := by
  rcases h with ⟨_, h⟩ | ⟨a, ob, us, es, h1, h2, h3⟩
  · cases h
  · cases h2
    exact ⟨a, ob, us, h1, h3⟩
section
variable {X : Cx}
theorem cr_tupF : CallR X (.type "tuple") (fun vs H Q => ∃ l zs, vs = [.ref l] ∧ SqL X.K H l zs ∧ ∀ t ob, H t = none → BareT ob → Q (.ref t) (upd H t (.frz ob (.tup zs)))) := by
  rintro pins s σ H vs us Q I rv ⟨l, zs, rfl, hl, k⟩
  obtain ⟨w, rfl, rw0⟩ := vals1 rv
  cases rw0
  obtain ⟨ws, rz, plain, short⟩ := I.list hl
  have same := rz.length
  refine call_tuple_list plain.isList (fun hp kept => ?_) (by rw [List.size_toArray] <;> omega)
  have J : Inv X pins σ H { s with heap := hp } := I.kept (t' := s.toks) kept
  refine ⟨.ref hp.objs.size, _, J.laid (o := .frz { cls := .type "tuple", data := .seq ws.toArray } (.tup zs)) (t' := s.toks) (h' := hp.push { cls := .type "tuple", data := .seq ws.toArray }) (fun b o e => Heap.get?_push_of_some _ e) (Nat.le_refl _) ?_, rfl, k _ _ (J.hok.fresh (Nat.le_refl _)) ⟨rfl, rfl⟩⟩
  exact ⟨Heap.get?_push_size _ rfl, short, ws, rz, IsTup.new _ _⟩
end
section
variable {c : Cd} {σ : L2.St} {H : Hp} {Q : VK} {pos : Pos}
theorem rc_tupF {l : Addr} {ys : List V} {ds : List PyData} (hl : SqL c.K H l ys) (hd : DtAll c.K H ys ds) (q : ∀ v H2, Same H H2 → Dt c.K H2 v (.tuple ds) → Fz c.K H2 v (.tuple ds) → Q v H2) : RC c (.type "tuple") [.ref l] H Q :=
  rc_of (r := fun vs H Q => ∃ l zs, vs = [.ref l] ∧ SqL c.K H l zs ∧ ∀ t ob, H t = none → BareT ob → Q (.ref t) (upd H t (.frz ob (.tup zs)))) (fun X h => by rw [← h.K]; exact cr_tupF) ⟨l, ys, rfl, hl, fun t ob hn hb => q _ _ (same_new hn) (.tup (.inl (.inr ⟨ob, upd_same⟩)) (hd.mono (tp_same (same_new hn)))) (.inr ⟨t, ob, ys, ds, rfl, rfl, upd_same, hb, hd.mono (tp_same (same_new hn))⟩)⟩
/-- a def that changes nothing and answers with none or a bare tuple -/
def spZ (R : List PyData → PyData → Prop) (K : PySem.W.Frag) : Sp := fun vs H Q _ => ∃ ds d, DtAll K H vs ds ∧ R ds d ∧ ∀ v H', Same H H' → Dt K H' v d → Fz K H' v d → Q v H'
theorem e_callZ {x : Str} {p : Pos} {e : Expr} {es : List Expr} {ps : List Str} {k : Nat} {R : List PyData → PyData → Prop} (D : Dc c.toMd x ps k (spZ R c.K)) (q : RA c (e :: es) σ H fun vs H1 => ∃ ds d, DtAll c.K H1 vs ds ∧ R ds d ∧ ∀ v H', Same H1 H' → Dt c.K H' v d → Fz c.K H' v d → Q v H') (hk : k ≤ c.k := by exact Nat.le_of_ble_eq_true rfl) (hg : c.sc.names.lookup x = some .globalImplicit := by rfl)
    (hdb : (x == ("__debug__" : Str)) = false := by decide) (he : ∀ env, starEach (e :: es) env = (false, eval e env) :: starEach es env := by intro _; rfl) (hpl : ∀ env, (backTo pos (starEach es env)).any (·.1) = false := by intro _; rfl) :
    RE c (.Call (.Name x p) (e :: es) [] pos) σ H Q := e_call D q hk hg hdb he hpl
end
end G

open PySem L2 G
local macro_rules | `(tactic| tm_at "at") => `(tactic| (first | with_reducible exact At.z | (with_reducible apply At.s; tm_at "at")))
local macro_rules | `(tactic| tm_at "tp") => `(tactic| (first
  | exact Tp.refl _
  | assumption
  | exact tp_same (by assumption)
  | exact Kp.t (by assumption)
  | (refine Tp.trans ?_ (tp_same (by assumption)); tm_at "tp")
  | (refine Tp.trans ?_ (Kp.t (by assumption)); tm_at "tp")
  | (refine Tp.trans ?_ (tp_same (same_new (by assumption))); tm_at "tp")))
local macro_rules | `(tactic| tm_at "same") => `(tactic| (first
  | exact Same.refl _
  | assumption
  | (refine Same.trans ?_ (by assumption); tm_at "same")
  | (refine Same.trans ?_ (same_new (by assumption)); tm_at "same")))
local macro_rules | `(tactic| tm_at "dt") => `(tactic| (first
  | assumption
  | exact Dt.int _ | exact Dt.str _ | exact Dt.bl _ | exact Dt.non
  | (refine Dt.mono ?_ (by assumption); tm_at "tp")))
local macro_rules | `(tactic| tm_at "dts") => `(tactic| (first
  | exact DtAll.nil
  | (with_reducible apply DtAll.cons; tm_at "dt"; tm_at "dts")))
local macro_rules | `(tactic| tm_at "s") => `(tactic| first
  | (refine gRE ?_; first | refine e_var (by tm_at "at") ?_ | refine e_int ?_ | refine e_str ?_ | refine e_non ?_ | refine e_bl ?_ | refine e_bin ?_ | refine e_cmp ?_ | refine e_chain ?_ | refine e_dgetS ?_ | refine e_sliceS ?_ | refine e_slice ?_ | refine e_ix ?_ | refine e_not ?_ | refine e_bo1 ?_ | refine e_or ?_ | refine e_and ?_ | refine e_un ?_ | refine e_if ?_ | refine e_callB (id := "isinstance") (by with_reducible exact Bl.isinst (by assumption)) (by decide +kernel) ?_ | refine e_bltn (v := .ty "int") (u := .type "int") (by with_reducible exact Bl.int (by assumption)) (by decide +kernel) rfl ?_ | refine e_bltn (v := .ty "str") (u := .type "str") (by with_reducible exact Bl.str (by assumption)) (by decide +kernel) rfl ?_ | refine e_bltn (v := .ty "bool") (u := .type "bool") (by with_reducible exact Bl.bool (by assumption)) (by decide +kernel) rfl ?_ | refine e_callT (T := "int") (by with_reducible exact Bl.int (by assumption)) (by decide +kernel) ?_ | refine e_callB (id := "len") (by with_reducible exact Bl.len (by assumption)) (by decide +kernel) ?_ | refine e_callB (id := "max") (by with_reducible exact Bl.max (by assumption)) (by decide +kernel) ?_ | refine e_callB (id := "min") (by with_reducible exact Bl.min (by assumption)) (by decide +kernel) ?_ | refine e_callT (T := "tuple") (by with_reducible exact Bl.tuple (by assumption)) (by decide +kernel) ?_ | refine e_callT (T := "dict") (by with_reducible exact Bl.dict (by assumption)) (by decide +kernel) ?_ | refine e_callB (id := "sorted") (by with_reducible exact Bl.sorted (by assumption)) (by decide +kernel) ?_ | refine e_callT (T := "list") (by with_reducible exact Bl.list (by assumption)) (by decide +kernel) ?_)
  | (refine gRA ?_; first | refine a_cons ?_ | refine a_nil ?_)
  | (refine gRX ?_; first | refine rx_int (by tm_at "dt") (by rfl) ?_ | refine rx_str (by tm_at "dt") (by rfl) ?_ | refine rx_bl (by tm_at "dt") (by rfl) ?_)
  | (refine gRQ ?_; first | refine ro_eqI ?_ | refine ro_eqS ?_ | refine ro_eqB ?_ | refine ro_neI ?_ | refine ro_lt ?_ | refine ro_le ?_ | refine ro_gt ?_ | refine ro_ge ?_ | refine ro_isN ?_ | refine ro_notN ?_)
  | (refine gRS ?_; first | refine s_ret ?_ | refine s_if ?_ | refine s_retN ?_ | refine s_dputS ?_ | refine s_par2 (by tm_at "at") (by tm_at "at") ?_ | refine s_par3 (by tm_at "at") (by tm_at "at") (by tm_at "at") ?_ | refine s_set (by tm_at "at") ?_)
  | (refine gRT ?_; first | refine t_cmp ?_ | refine t_chain ?_ | refine t_not ?_ | refine t_w (e := .BoolOp _ _ _) ?_)
  | (refine gRW ?_; first | refine w_and ?_ | refine w_or ?_ | refine w_and1 ?_ | refine w_or1 ?_)
  | (refine gRO ?_; first | refine ro_add ?_ | refine ro_sub ?_)
  | (refine gRC ?_; first | refine rc_max2 ?_ | refine rc_min2 ?_ | refine rc_intI ?_ | refine rc_intB ?_)
  | (refine gRG ?_; first | refine g_name (by tm_at "at") ?_)
  | (refine gRPo ?_; first | refine p_none ?_ | refine p_some ?_)
  | (refine gRU ?_; first | refine ru_neg ?_)
  | with_reducible refine ⟨_, rfl, ?_⟩
  | with_reducible refine ifT rfl ?_)
local macro_rules | `(tactic| tm_at "run") => `(tactic| repeat tm_at "s")
local macro_rules | `(tactic| tm_at "go") => `(tactic| repeat (first | tm_at "s" | (refine gRB ?_; first | refine b_one ?_ | refine b_cons ?_ | refine b_nil ?_)))

namespace K
open PySem L2 G
variable {M : Md}
def preDraw : List PyData → Prop := fun ds => ∃ m : Int, ds = [.int m] ∧ 0 < m ∧ m < 1000
def rDraw : List PyData → PyData → Prop := fun ds d => ∃ m r : Int, ds = [.int m] ∧ d = .int r ∧ 0 ≤ r ∧ r < m
theorem ok_draw {f fd} (F : Fun M.K "_law_draw" "_law_draw" s__law_draw f fd) (b : Bl M) : FnG M.prog M.w M.K M.mg M.base CX0 1 f fd ["_law_feed_here", "_law_many"] (spD preDraw rDraw M.K) := by
  refine fn_ok F sc__law_draw (spD_len (n := 1) (by rintro ds ⟨m, rfl, _⟩; rfl)) (fun H vs Q E h => ?_)
  obtain ⟨fp, cl, rest, ds, rfl, ⟨ns, at0, left, count, h1, h2, h3⟩, hds, ⟨m, rfl, m0, m1⟩, k⟩ := h
  obtain _ | ⟨hm, hds⟩ := hds
  cases hds
  cases hm
  have ncl : cl ≠ fp := fun e => by rw [e, h1] at h2; cases h2
  tm_at "go"
  refine ⟨_, _, _, rfl, h1, fkv_3, ?_⟩
  tm_at "run"
  refine ⟨_, _, rfl, h1, by rw [fkv_len]; decide, ?_⟩
  rw [fput_3]
  have k1 : Kp fp H (upd H fp (.dK (fkv (.ref cl) at0 left (count + 1)))) := kp_fd h1
  have g1 : (upd H fp (.dK (fkv (.ref cl) at0 left (count + 1)))) fp = _ := upd_same
  generalize upd H fp (.dK (fkv (.ref cl) at0 left (count + 1))) = H1 at *
  tm_at "go"
  refine ⟨_, _, _, rfl, g1, fkv_2, ?_⟩
  tm_at "run"
  refine ifd (fun c1 => ?_) (fun c1 => ?_)
  · tm_at "go"
    refine ⟨_, _, _, rfl, g1, fkv_2, ?_⟩
    tm_at "run"
    refine ro_mod m0 ?_
    tm_at "go"
    refine ⟨_, _, _, rfl, g1, fkv_2, ?_⟩
    tm_at "run"
    refine ro_div m0 (by omega) ?_
    tm_at "run"
    refine ⟨_, _, rfl, g1, by rw [fkv_len]; decide, ?_⟩
    rw [fput_2]
    have k2 := k1.trans (kp_fd (o' := .dK (fkv (.ref cl) at0 (left / m) (count + 1))) g1)
    have n2 := k2.k cl _ ncl h2
    tm_at "go"
    refine k (.int (left % m)) _ _ ⟨m, _, rfl, rfl, Int.emod_nonneg _ (by omega), Int.emod_lt_of_pos _ m0⟩ k2 ⟨ns, _, _, _, upd_same, n2, h3⟩ (.int _)
  tm_at "go"
  refine ⟨_, _, _, rfl, g1, fkv_1, ?_⟩
  tm_at "go"
  refine ⟨_, _, rfl, g1, by rw [fkv_len]; decide, ?_⟩
  rw [fput_1]
  have k2 : Kp fp H (upd H1 fp (.dK (fkv (.ref cl) (at0 + 1) left (count + 1)))) := k1.trans (kp_fd g1)
  have g2 : (upd H1 fp (.dK (fkv (.ref cl) (at0 + 1) left (count + 1)))) fp = _ := upd_same
  generalize upd H1 fp (.dK (fkv (.ref cl) (at0 + 1) left (count + 1))) = H2 at *
  have n2 := k2.k cl _ ncl h2
  refine b_cut (fun σ1 H3 => Same H2 H3 ∧ ∃ cell : Int, σ1 = [some (.ref fp), some (.int m), none, some (.int at0), some (.int cell), none]) ?_ ?_
  · tm_at "run"
    refine ⟨_, _, _, rfl, g2, fkv_0, ?_⟩
    refine e_lst ?_
    tm_at "run"
    refine ⟨by decide, fun pe hpe => ?_⟩
    have s3 : Same H2 (upd H2 pe (.lst [])) := same_new hpe
    have g3 : (upd H2 pe (.lst [])) pe = some (.lst []) := upd_same
    generalize upd H2 pe (.lst []) = H3 at *
    refine ro_neD (.lst (SqL.of (s3 _ _ n2)) (dpInts ns)) (.lst (SqL.of g3) .nil) (shInts ns) (by decide) ?_
    refine ⟨_, rfl, ifb (fun e => ?_) (fun e => ?_)⟩
    · have hn : 0 < ns.length := by
        cases ns with
        | nil => exact absurd e (by decide)
        | cons => exact Nat.succ_pos _
      tm_at "run"
      refine ⟨_, _, _, rfl, s3 _ _ g2, fkv_0, ?_⟩
      tm_at "run"
      refine ⟨_, _, _, rfl, s3 _ _ g2, fkv_0, ?_⟩
      tm_at "run"
      refine rc_lenL (SqL.of (s3 _ _ n2)) ?_
      rw [List.length_map]
      refine ro_mod (by omega) ?_
      have lt : (at0 % (ns.length : Int)).toNat < ns.length := by
        have h1 := Int.emod_nonneg at0 (show (ns.length : Int) ≠ 0 by omega)
        have h2 := Int.emod_lt_of_pos at0 (show (0 : Int) < ns.length by omega)
        omega
      refine rx_list (SqL.of (s3 _ _ n2)) (v := .int ns[(at0 % (ns.length : Int)).toNat]) ?_ ?_
      · have h1 := Int.emod_nonneg at0 (show (ns.length : Int) ≠ 0 by omega)
        refine pl_at (j := (at0 % (ns.length : Int)).toNat) (by omega) ?_
        rw [List.getElem?_map, List.getElem?_eq_getElem lt]; rfl
      · exact ⟨s3, _, rfl⟩
    · tm_at "run"
      exact ⟨s3, _, rfl⟩
  rintro _ H3 ⟨s3, cell, rfl⟩
  have k3 : Kp fp H H3 := k2.trans (kp_same s3)
  have g3 := s3 _ _ g2
  have n3 := s3 _ _ n2
  refine b_cut (fun σ1 H4 => H4 = H3 ∧ σ1 = [some (.ref fp), some (.int m), none, some (.int at0), some (.int cell), none]) ?_ ?_
  · tm_at "run"
    refine ro_pow ⟨by decide, by decide, by decide⟩ ?_
    tm_at "run"
    refine ifd (fun c2 => ?_) (fun c2 => ?_)
    · tm_at "run"
      refine ⟨_, _, _, rfl, g3, fkv_0, ?_⟩
      tm_at "run"
      refine rc_lenL (SqL.of n3) ?_
      tm_at "run"
      refine ifd (fun c3 => ?_) (fun c3 => ?_)
      · tm_at "go"
        refine ro_div m0 (by omega) ?_
        tm_at "run"
        refine ⟨_, _, rfl, g3, by rw [fkv_len]; decide, ?_⟩
        rw [fput_2]
        tm_at "go"
        refine ro_mod m0 ?_
        have k4 := k3.trans (kp_fd (o' := .dK (fkv (.ref cl) (at0 + 1) (cell / m) (count + 1))) g3)
        refine k (.int (cell % m)) _ _ ⟨m, _, rfl, rfl, Int.emod_nonneg _ (by omega), Int.emod_lt_of_pos _ m0⟩ k4 ⟨ns, _, _, _, upd_same, k4.k cl _ ncl h2, h3⟩ (.int _)
      · tm_at "go"
        exact ⟨rfl, rfl⟩
    · tm_at "go"
      exact ⟨rfl, rfl⟩
  rintro _ _ ⟨rfl, rfl⟩
  tm_at "go"
  refine ro_mod (by decide) ?_
  tm_at "go"
  refine ⟨_, _, _, rfl, g3, fkv_3, ?_⟩
  refine ro_mul (.inl ⟨by decide, by decide⟩) ?_
  tm_at "go"
  refine ro_mod (by decide) ?_
  generalize hmx : (cell % 1000000531 + 170003 * (count + 1) + 97) % 2147483353 = mx
  have b1 : 0 ≤ mx ∧ mx < 2147483353 := by rw [← hmx]; exact ⟨Int.emod_nonneg _ (by decide), Int.emod_lt_of_pos _ (by decide)⟩
  tm_at "go"
  refine ro_mul (.inl ⟨by omega, by omega⟩) ?_
  tm_at "go"
  refine ⟨_, _, _, rfl, g3, fkv_3, ?_⟩
  refine ro_mul (.inl ⟨by decide, by decide⟩) ?_
  tm_at "go"
  refine ro_mod (by decide) ?_
  generalize hmy : (mx * mx + 3700177 * (count + 1) + 61) % 2147483323 = my
  have b2 : 0 ≤ my ∧ my < 2147483323 := by rw [← hmy]; exact ⟨Int.emod_nonneg _ (by decide), Int.emod_lt_of_pos _ (by decide)⟩
  tm_at "go"
  refine ro_mul (.inl ⟨by omega, by omega⟩) ?_
  tm_at "go"
  refine ro_mul (.inl ⟨by decide, by decide⟩) ?_
  tm_at "go"
  refine ro_mod (by decide) ?_
  tm_at "go"
  refine ro_div (by decide) (by decide) ?_
  tm_at "go"
  refine ro_mod m0 ?_
  exact k (.int _) _ _ ⟨m, _, rfl, rfl, Int.emod_nonneg _ (by omega), Int.emod_lt_of_pos _ m0⟩ k3 ⟨ns, _, _, _, g3, n3, h3⟩ (.int _)
end K

namespace K
open PySem L2 G
def rowD (r : Str × Nat × Int × Int × Bool × Bool × Int) : PyData := .tuple [.str r.1, .int r.2.1, .int r.2.2.1, .int r.2.2.2.1, .bool r.2.2.2.2.1, .bool r.2.2.2.2.2.1, .int r.2.2.2.2.2.2]
abbrev Row := Str × Nat × Int × Int × Bool × Bool × Int
def width (r : Row) : Nat := max 1 r.2.1
def rWidth : List PyData → PyData → Prop := fun ds d => ∃ r : Row, ds = [rowD r] ∧ d = .int (width r)
variable {M : Md}
theorem ok_width {f fd} (F : Fun M.K "row_width" "row_width" s_row_width f fd) (b : Bl M) : FnG M.prog M.w M.K M.mg M.base CX0 1 f fd ["row"] (spF rWidth M.K) := by
  refine fn_ok F sc_row_width (fun vs H Q E h => ?_) (fun H vs Q E h => ?_)
  · obtain ⟨ds, d, h, ⟨r, rfl, _⟩, _⟩ := h
    exact h.len
  obtain ⟨ds, d, h, ⟨r, rfl, rfl⟩, k⟩ := h
  cases h with
  | cons h1 h2 =>
  cases h2
  tm_at "go"
  have e : (if ((r.2.1 : Nat) : Int) > 1 then ((r.2.1 : Nat) : Int) else 1) = ((width r : Nat) : Int) := by unfold width; split <;> omega
  rw [e]
  exact k _ _ (Same.refl _) (.int _)

def hit (r : Row) : Option Int → Int → Option Int
  | none, b => if (r.2.1 : Int) = 0 then some b else none
  | some k, b => if 0 ≤ k ∧ k < r.2.1 then some (b + k) else none
def fIdx : List Row → Str → Option Int → Int → Option Int
  | [], _, _, _ => none
  | r :: rs, nm, key, b => if r.1 = nm then hit r key b else fIdx rs nm key (b + width r)
def optD : Option Int → PyData
  | none => .none
  | some k => .int k
def cellsD (rs : List Row) : PyData := .tuple (rs.map rowD)
def rFound : List PyData → PyData → Prop := fun ds d => ∃ (rs : List Row) (nm : Str) (key : Option Int), ds = [cellsD rs, .str nm, optD key] ∧ d = optD (fIdx rs nm key 0)
theorem ok_found {f fd} (F : Fun M.K "found_index" "found_index" s_found_index f fd) (dw : Dc M "row_width" ["row"] 1 (spF rWidth M.K)) : FnG M.prog M.w M.K M.mg M.base CX0 2 f fd ["cells", "name", "key"] (spF rFound M.K) := by
  refine fn_ok F sc_found_index (fun vs H Q E h => ?_) (fun H vs Q E h => ?_)
  · obtain ⟨ds, d, h, ⟨rs, nm, key, rfl, _⟩, _⟩ := h
    exact h.len
  obtain ⟨ds, d, h, ⟨rs, nm, key, rfl, rfl⟩, k⟩ := h
  obtain _ | ⟨hc, h⟩ := h
  obtain _ | ⟨hn, h⟩ := h
  obtain _ | ⟨hk, h⟩ := h
  cases h
  cases hn
  obtain ⟨a, xs, rfl, hxs, hrs⟩ := hc.tupE
  rename_i vk
  tm_at "go"
  refine s_forT ?_
  tm_at "s"
  refine ⟨a, xs, rfl, hxs, fun i σ1 H1 => ∃ (b : Int) (v : Option V), σ1 = [some (.ref a), some (.str nm), some vk, some (.int b), v] ∧ Same H H1 ∧ fIdx rs nm key 0 = fIdx (rs.drop i) nm key b, ⟨0, _, rfl, Same.refl _, rfl⟩, ?_, ?_, ?_⟩
  · rintro i σ' H' _ ⟨b, v, rfl, s, _⟩
    exact (tp_same s).sqt hxs
  · rintro i x σ' H' hx ⟨b, v, rfl, s, e⟩
    obtain ⟨d, hd, hx'⟩ := hrs.getV hx
    rw [List.getElem?_map] at hd
    obtain ⟨r, hr, rfl⟩ := Option.map_eq_some_iff.mp hd
    have ed : rs.drop i = r :: rs.drop (i + 1) := by
      obtain ⟨h1, h2⟩ := List.getElem?_eq_some_iff.mp hr
      rw [← h2]; exact List.drop_eq_getElem_cons h1
    rw [ed] at e
    refine g_name (by tm_at "at") ?_
    tm_at "go"
    refine ifd (fun c1 => ?_) (fun c1 => ?_)
    · cases key with
      | none =>
        cases hk
        tm_at "go"
        refine ifd (fun c2 => ?_) (fun c2 => ?_)
        · tm_at "go"
          refine k _ _ s ?_
          rw [e, fIdx, if_pos c1, hit, if_pos c2]; exact .int _
        · tm_at "go"
          refine k _ _ s ?_
          rw [e, fIdx, if_pos c1, hit, if_neg c2]; exact .non
      | some kk =>
        cases hk
        tm_at "go"
        refine ifd (fun c2 => ?_) (fun c2 => ?_)
        · tm_at "go"
          refine ifd (fun c3 => ?_) (fun c3 => ?_)
          · tm_at "go"
            refine k _ _ s ?_
            rw [e, fIdx, if_pos c1, hit, if_pos ⟨c2, c3⟩]; exact .int _
          · tm_at "go"
            refine k _ _ s ?_
            rw [e, fIdx, if_pos c1, hit, if_neg fun z => c3 z.2]; exact .non
        · tm_at "go"
          refine k _ _ s ?_
          rw [e, fIdx, if_pos c1, hit, if_neg fun z => c2 z.1]; exact .non
    · tm_at "go"
      refine e_callF dw ?_
      tm_at "go"
      refine ⟨_, _, by tm_at "dts", ⟨r, rfl, rfl⟩, fun v' H2 s2 hv => ?_⟩
      cases hv
      tm_at "go"
      refine ⟨_, _, rfl, s.trans s2, ?_⟩
      rw [e, fIdx, if_neg c1]
  · rintro σ' H' ⟨b, v, rfl, s, e⟩
    tm_at "go"
    refine k _ _ s ?_
    rw [e, List.drop_eq_nil_of_le (by have := hrs.len; rw [List.length_map] at this; omega)]
    exact .non

def total (rs : List Row) : Nat := (rs.map width).sum
def pairD (r : Row) : PyData := .tuple [.int r.2.2.1, .int r.2.2.2.1]
def rngs (rs : List Row) : List PyData := rs.flatMap fun r => List.replicate (width r) (pairD r)
theorem rngs_len : ∀ rs : List Row, (rngs rs).length = total rs
  | [] => rfl
  | r :: rs => by
    have := rngs_len rs
    simp only [rngs, total, List.flatMap_cons, List.length_append, List.length_replicate, List.map_cons, List.sum_cons] at *
    omega
theorem rngs_snoc {rs : List Row} {i : Nat} {r : Row} (h : rs[i]? = some r) : rngs (rs.take (i + 1)) = rngs (rs.take i) ++ List.replicate (width r) (pairD r) := by
  obtain ⟨h1, rfl⟩ := List.getElem?_eq_some_iff.mp h
  rw [List.take_succ_eq_append_getElem h1, rngs, List.flatMap_append]
  simp [rngs]
theorem total_take (rs : List Row) (i : Nat) : total (rs.take i) ≤ total rs := by
  induction rs generalizing i with
  | nil => simp
  | cons r rs ih =>
    cases i with
    | zero => simp [total]
    | succ i =>
      have := ih i
      simp only [total, List.take_succ_cons, List.map_cons, List.sum_cons] at *
      omega
theorem width_le {rs : List Row} {i : Nat} {r : Row} (h : rs[i]? = some r) : total (rs.take i) + width r ≤ total rs := by
  have h1 := total_take rs (i + 1)
  have h2 := congrArg List.length (rngs_snoc h)
  rw [rngs_len, List.length_append, rngs_len, List.length_replicate] at h2
  omega
theorem dt_rep {K : PySem.W.Frag} {H : Hp} {v : V} {d : PyData} (h : Dt K H v d) : ∀ n : Nat, DtAll K H (List.replicate n v) (List.replicate n d)
  | 0 => .nil
  | n + 1 => .cons h (dt_rep h n)
def rRanges : List PyData → PyData → Prop := fun ds d => ∃ rs : List Row, ds = [cellsD rs] ∧ total rs ≤ 500 ∧ d = .tuple (rngs rs)
theorem ok_ranges {f fd} (F : Fun M.K "cell_ranges" "cell_ranges" s_cell_ranges f fd) (b : Bl M) (dw : Dc M "row_width" ["row"] 1 (spF rWidth M.K)) : FnG M.prog M.w M.K M.mg M.base CX0 2 f fd ["cells"] (spF rRanges M.K) := by
  refine fn_ok F sc_cell_ranges (fun vs H Q E h => ?_) (fun H vs Q E h => ?_)
  · obtain ⟨ds, d, h, ⟨rs, rfl, _⟩, _⟩ := h
    exact h.len
  obtain ⟨ds, d, h, ⟨rs, rfl, hl, rfl⟩, k⟩ := h
  obtain _ | ⟨hc, h⟩ := h
  cases h
  obtain ⟨a, xs, rfl, hxs, hrs⟩ := hc.tupE
  have hle := hrs.len
  rw [List.length_map] at hle
  tm_at "go"
  refine e_lstD ?_
  tm_at "go"
  refine ⟨by decide, fun l0 H0 s0 n0 g0 => ?_⟩
  tm_at "go"
  refine s_forT ?_
  tm_at "s"
  refine ⟨a, xs, rfl, (tp_same s0).sqt hxs, fun i σ1 H1 => ∃ (l : Addr) (us : List V) (v : Option V), σ1 = [some (.ref a), some (.ref l), v] ∧ Same H H1 ∧ H1 l = some (.lst us) ∧ DtAll M.K H1 us (rngs (rs.take i)), ⟨l0, [], _, rfl, s0, g0, .nil⟩, ?_, ?_, ?_⟩
  · rintro i σ' H' _ ⟨l, us, v, rfl, s, _⟩
    exact (tp_same s).sqt hxs
  · rintro i x σ' H' hx ⟨l, us, v, rfl, s, hl1, hu⟩
    obtain ⟨d, hd, hx'⟩ := hrs.getV hx
    rw [List.getElem?_map] at hd
    obtain ⟨r, hr, rfl⟩ := Option.map_eq_some_iff.mp hd
    have hw := width_le hr
    have hul := hu.len
    rw [rngs_len] at hul
    tm_at "go"
    refine e_lstD ?_
    tm_at "go"
    refine e_tupD ?_
    tm_at "go"
    refine tupend (by tm_at "dts") (Nat.le_of_ble_eq_true rfl) fun vp H2 s2 hp => ?_
    tm_at "go"
    refine ⟨(Nat.le_of_ble_eq_true rfl), fun l2 H3 s3 n3 g3 => ?_⟩
    tm_at "go"
    refine e_callF dw ?_
    tm_at "go"
    refine ⟨_, _, by tm_at "dts", ⟨r, rfl, rfl⟩, fun v' H4 s4 hv => ?_⟩
    cases hv
    refine ro_rep (s4 _ _ g3) (by omega) (Nat.le_of_ble_eq_true rfl) fun l5 H5 s5 n5 g5 => ?_
    have e5 : (List.replicate (((width r : Nat) : Int)).toNat [vp]).flatten = List.replicate (width r) vp := by
      rw [Int.toNat_natCast]
      induction width r with
      | zero => rfl
      | succ n ih => rw [List.replicate_succ, List.replicate_succ, List.flatten_cons, ih]; rfl
    rw [e5] at g5
    have s25 := s2.trans (s3.trans (s4.trans s5))
    refine ro_cat (s25 _ _ hl1) g5 (by rw [List.length_replicate]; omega) fun l6 H6 s6 n6 g6 => ?_
    refine ⟨l6, _, _, rfl, s.trans (s25.trans s6), g6, ?_⟩
    rw [rngs_snoc hr]
    exact (hu.mono (tp_same (s25.trans s6))).app (dt_rep (hp.mono (tp_same (s3.trans (s4.trans (s5.trans s6))))) _)
  · rintro σ' H' ⟨l, us, v, rfl, s, hl1, hu⟩
    rw [hle, List.take_length] at hu
    tm_at "go"
    refine rc_tupL (.of hl1) hu fun v2 H2 s2 h2 => ?_
    exact k _ _ (s.trans s2) h2
end K

namespace K
open PySem L2 G
variable {M : Md}
def rLRanges : List PyData → List PyData → Prop := fun ds es => ∃ rs : List Row, ds = [cellsD rs] ∧ total rs ≤ 500 ∧ es = rngs rs
theorem ok_lranges {f fd} (F : Fun M.K "_law_ranges" "_law_ranges" s__law_ranges f fd) (b : Bl M) : FnG M.prog M.w M.K M.mg M.base CX0 1 f fd ["_law_rows_here"] (spL rLRanges M.K) := by
  refine fn_ok F sc__law_ranges (fun vs H Q E h => ?_) (fun H vs Q E h => ?_)
  · obtain ⟨ds, d, h, ⟨rs, rfl, _⟩, _⟩ := h
    exact h.len
  obtain ⟨ds, d, h, ⟨rs, rfl, hl, rfl⟩, k⟩ := h
  obtain _ | ⟨hc, h⟩ := h
  cases h
  obtain ⟨a, xs, rfl, hxs, hrs⟩ := hc.tupE
  have hle := hrs.len
  rw [List.length_map] at hle
  tm_at "go"
  refine e_lstD ?_
  tm_at "go"
  refine ⟨by decide, fun l H0 s0 n0 g0 => ?_⟩
  tm_at "go"
  refine s_forT ?_
  tm_at "s"
  refine ⟨a, xs, rfl, (tp_same s0).sqt hxs, fun i σ1 H1 => ∃ (us : List V) (v : Option V), σ1 = [some (.ref a), some (.ref l), v] ∧ Same H H1 ∧ H1 l = some (.lst us) ∧ DtAll M.K H1 us (rngs (rs.take i)), ⟨[], _, rfl, s0, g0, .nil⟩, ?_, ?_, ?_⟩
  · rintro i σ' H' _ ⟨us, v, rfl, s, _⟩
    exact (tp_same s).sqt hxs
  · rintro i x σ' H' hx ⟨us, v, rfl, s, hl1, hu⟩
    obtain ⟨d, hd, hx'⟩ := hrs.getV hx
    rw [List.getElem?_map] at hd
    obtain ⟨r, hr, rfl⟩ := Option.map_eq_some_iff.mp hd
    have hw := width_le hr
    have hul := hu.len
    rw [rngs_len] at hul
    tm_at "go"
    refine s_expr ?_
    refine e_ext ?_
    tm_at "go"
    refine ⟨l, _, rfl, hl1, ?_⟩
    tm_at "go"
    refine e_lstD ?_
    tm_at "go"
    refine e_tupD ?_
    tm_at "go"
    refine tupend (by tm_at "dts") (Nat.le_of_ble_eq_true rfl) fun vp H2 s2 hp => ?_
    tm_at "go"
    refine ⟨(Nat.le_of_ble_eq_true rfl), fun l2 H3 s3 n3 g3 => ?_⟩
    tm_at "go"
    have e : (if ((r.2.1 : Nat) : Int) > 1 then ((r.2.1 : Nat) : Int) else 1) = ((width r : Nat) : Int) := by unfold width; split <;> omega
    rw [e]
    refine ro_rep g3 (by omega) (Nat.le_of_ble_eq_true rfl) fun l5 H5 s5 n5 g5 => ?_
    have e5 : (List.replicate (((width r : Nat) : Int)).toNat [vp]).flatten = List.replicate (width r) vp := by
      rw [Int.toNat_natCast]
      induction width r with
      | zero => rfl
      | succ n ih => rw [List.replicate_succ, List.replicate_succ, List.flatten_cons, ih]; rfl
    rw [e5] at g5
    have s25 := s2.trans (s3.trans s5)
    have k6 := kp_upd (o' := .lst (us ++ List.replicate (width r) vp)) (s25 _ _ hl1) (fun _ e => nomatch e) (fun _ _ e => nomatch e)
    refine ⟨l5, _, _, rfl, s25 _ _ hl1, g5, by rw [List.length_replicate]; omega, ?_⟩
    refine ⟨_, _, rfl, same_mut (s.trans s25) n0, upd_same, ?_⟩
    rw [rngs_snoc hr]
    exact (hu.mono ((tp_same s25).trans k6.t)).app (dt_rep (hp.mono ((tp_same (s3.trans s5)).trans k6.t)) _)
  · rintro σ' H' ⟨us, v, rfl, s, hl1, hu⟩
    rw [hle, List.take_length] at hu
    tm_at "go"
    exact k _ _ _ s n0 hl1 hu

def preMenu : List PyData → Prop := fun ds => ds = []
def menus : List (List Str) := [["a", "at", "i", "x"], ["big", "if", "t", "when"], ["c", "rule", "set", "y"], ["b", "not", "s", "zzzzzzzz"]]
def rMenu : List PyData → PyData → Prop := fun ds d => ∃ m ∈ menus, d = .tuple (m.map .str)
theorem ok_menu {f fd} (F : Fun M.K "_law_menu" "_law_menu" s__law_menu f fd) (b : Bl M) (dd : Dc M "_law_draw" ["_law_feed_here", "_law_many"] 1 (spD preDraw rDraw M.K)) : FnG M.prog M.w M.K M.mg M.base CX0 2 f fd ["_law_feed_here"] (spD preMenu rMenu M.K) := by
  refine fn_ok F sc__law_menu (spD_len (n := 0) (by rintro ds rfl; rfl)) (fun H vs Q E h => ?_)
  obtain ⟨fp, cl, rest, ds, rfl, hf, hds, rfl, k⟩ := h
  cases hds
  tm_at "go"
  refine e_lstD ?_
  tm_at "go"
  refine e_tupD ?_
  tm_at "go"
  refine tupend (by tm_at "dts") (Nat.le_of_ble_eq_true rfl) fun v1 H1 s1 h1 => ?_
  tm_at "go"
  refine e_tupD ?_
  tm_at "go"
  refine tupend (by tm_at "dts") (Nat.le_of_ble_eq_true rfl) fun v2 H2 s2 h2 => ?_
  tm_at "go"
  refine e_tupD ?_
  tm_at "go"
  refine tupend (by tm_at "dts") (Nat.le_of_ble_eq_true rfl) fun v3 H3 s3 h3 => ?_
  tm_at "go"
  refine ⟨(Nat.le_of_ble_eq_true rfl), fun l H4 s4 n4 g4 => ?_⟩
  tm_at "go"
  refine s_expr ?_
  refine e_ext ?_
  tm_at "go"
  refine ⟨l, _, rfl, g4, ?_⟩
  refine e_lstD ?_
  tm_at "go"
  refine e_tupD ?_
  tm_at "go"
  refine tupend (by tm_at "dts") (Nat.le_of_ble_eq_true rfl) fun v5 H5 s5 h5 => ?_
  tm_at "go"
  refine ⟨(Nat.le_of_ble_eq_true rfl), fun l6 H6 s6 n6 g6 => ?_⟩
  have s06 := s1.trans (s2.trans (s3.trans (s4.trans (s5.trans s6))))
  have k7 := kp_upd (o' := .lst ([v1, v2, v3] ++ [v5])) ((s5.trans s6) _ _ g4) (fun _ e => nomatch e) (fun _ _ e => nomatch e)
  refine ⟨l6, _, _, rfl, (s5.trans s6) _ _ g4, g6, (Nat.le_of_ble_eq_true rfl), ?_⟩
  have f7 := hf.same (same_mut (o := .lst ([v1, v2, v3] ++ [v5])) s06 (same_none (s1.trans (s2.trans s3)) n4))
  tm_at "go"
  refine e_callD dd ?_
  tm_at "go"
  refine ⟨fp, cl, _, _, rfl, f7, by tm_at "dts", ⟨4, rfl, by decide, by decide⟩, ?_⟩
  rintro d v H8 ⟨m, r, hm, rfl, r0, r1⟩ k8 f8 hv
  cases hm
  cases hv
  have nl : l ≠ fp := ne_feed hf (s1.trans (s2.trans s3)) n4
  have g8 := k8.k l _ nl (upd_same (o := .lst ([v1, v2, v3] ++ [v5])))
  have t8 := k7.t.trans k8.t
  refine rx_pick (ds := menus.map fun m => .tuple (m.map .str)) (.of g8) (.cons (h1.mono ((tp_same (s2.trans (s3.trans (s4.trans (s5.trans s6))))).trans t8)) (.cons (h2.mono ((tp_same (s3.trans (s4.trans (s5.trans s6)))).trans t8)) (.cons (h3.mono ((tp_same (s4.trans (s5.trans s6))).trans t8)) (.cons (h5.mono ((tp_same s6).trans t8)) .nil)))) r0 (by show r < 4; omega) fun v d hd hv => ?_
  rw [List.getElem?_map] at hd
  obtain ⟨m, hm, rfl⟩ := Option.map_eq_some_iff.mp hd
  exact k _ _ _ ⟨m, List.mem_of_getElem? hm, rfl⟩ ((kp_mut (kp_same s06) (same_none (s1.trans (s2.trans s3)) n4)).trans k8) f8 hv

def rPower : List PyData → PyData → Prop := fun ds d => ∃ (b : Int) (n : Nat), ds = [.int b, .int n] ∧ (0 ≤ b ∧ b ≤ 4) ∧ n ≤ 9 ∧ d = .int (b ^ n)
theorem ok_power {f fd} (F : Fun M.K "_law_power" "_law_power" s__law_power f fd) (b : Bl M) : FnG M.prog M.w M.K M.mg M.base CX0 1 f fd ["_law_base", "_law_many"] (spF rPower M.K) := by
  refine fn_ok F sc__law_power (fun vs H Q E h => ?_) (fun H vs Q E h => ?_)
  · obtain ⟨ds, d, h, ⟨b, n, rfl, _⟩, _⟩ := h
    exact h.len
  obtain ⟨ds, d, h, ⟨bb, n, rfl, hb, hn, rfl⟩, k⟩ := h
  obtain _ | ⟨hc, h⟩ := h
  obtain _ | ⟨hd, h⟩ := h
  cases h
  cases hc
  cases hd
  tm_at "go"
  refine s_forR1 b.range ?_
  tm_at "go"
  refine ⟨by omega, by omega, fun i σ1 H1 => H1 = H ∧ ∃ v, σ1 = [some (.int bb), some (.int n), some (.int (bb ^ i)), v], ⟨rfl, _, by rw [Int.pow_zero]; rfl⟩, ?_, ?_⟩
  · rintro i σ' _ hi ⟨rfl, v, rfl⟩
    tm_at "go"
    refine ro_mul (.inr ⟨by omega, by omega⟩) ?_
    exact ⟨rfl, some (.int i), by rw [Int.pow_succ]; rfl⟩
  · rintro σ' _ ⟨rfl, v, rfl⟩
    rw [Int.toNat_natCast]
    tm_at "go"
    exact k _ _ (Same.refl _) (.int _)

/-! states -/
abbrev Rng := Int × Int
def rngD (p : Rng) : PyData := .tuple [.int p.1, .int p.2]
def rg (rs : List Row) : List Rng := rs.flatMap fun r => List.replicate (width r) (r.2.2.1, r.2.2.2.1)
theorem rngs_eq (rs : List Row) : rngs rs = (rg rs).map rngD := by
  unfold rngs rg
  induction rs with
  | nil => rfl
  | cons r rs ih =>
    rw [List.flatMap_cons, List.flatMap_cons, List.map_append, ih, List.map_replicate]
    rfl
abbrev St1 := List Int
def stD (s : St1) : PyData := .tuple (s.map .int)
def span (p : Rng) : Nat := (p.2 + 1 - p.1).toNat
def widen (acc : List St1) (p : Rng) : List St1 := acc.flatMap fun o => (List.range (span p)).map fun t : Nat => (o ++ [p.1 + (t : Int)] : St1)
def statesOf (ps : List Rng) : List St1 := ps.foldl widen [[]]
def many (ps : List Rng) : Nat := (ps.map span).foldl (· * ·) 1
theorem flat_len {α : Type} (n : Nat) (f : α → List St1) (h : ∀ a, (f a).length = n) : ∀ l : List α, (l.flatMap f).length = l.length * n
  | [] => by simp
  | a :: l => by rw [List.flatMap_cons, List.length_append, h, flat_len n f h l, List.length_cons, Nat.succ_mul, Nat.add_comm]
theorem widen_len (acc : List St1) (p : Rng) : (widen acc p).length = acc.length * span p := flat_len _ _ (fun _ => by simp) _
theorem foldl_len (ps : List Rng) : ∀ acc : List St1, (ps.foldl widen acc).length = (ps.map span).foldl (· * ·) acc.length := by
  induction ps with
  | nil => intro acc; rfl
  | cons p ps ih => intro acc; rw [List.foldl_cons, ih, widen_len, List.map_cons, List.foldl_cons]
theorem states_len (ps : List Rng) : (statesOf ps).length = many ps := foldl_len ps [[]]
theorem states_snoc {ps : List Rng} {i : Nat} {p : Rng} (h : ps[i]? = some p) : statesOf (ps.take (i + 1)) = widen (statesOf (ps.take i)) p := by
  obtain ⟨h1, rfl⟩ := List.getElem?_eq_some_iff.mp h
  rw [List.take_succ_eq_append_getElem h1, statesOf, List.foldl_append]
  rfl
theorem foldl_le (ns : List Nat) (h : ∀ n ∈ ns, 1 ≤ n) : ∀ m, m ≤ ns.foldl (· * ·) m := by
  induction ns with
  | nil => intro m; exact Nat.le_refl _
  | cons n ns ih =>
    intro m
    have h1 := h n (List.mem_cons_self ..)
    exact Nat.le_trans (Nat.le_mul_of_pos_right m h1) (ih (fun k hk => h k (List.mem_cons_of_mem _ hk)) _)
theorem many_take {ps : List Rng} (h : ∀ p ∈ ps, 1 ≤ span p) (i : Nat) : many (ps.take i) ≤ many ps := by
  have e : ps.map span = (ps.take i).map span ++ (ps.drop i).map span := by rw [← List.map_append, List.take_append_drop]
  unfold many
  rw [e, List.foldl_append]
  refine foldl_le _ (fun n hn => ?_) _
  obtain ⟨p, hp, rfl⟩ := List.mem_map.mp hn
  exact h p (List.mem_of_mem_drop hp)
theorem fold_mem (ps : List Rng) : ∀ (acc : List St1) (n : Nat), (∀ o ∈ acc, o.length = n) → ∀ o ∈ ps.foldl widen acc, o.length = n + ps.length := by
  induction ps with
  | nil => intro acc n h o ho; exact h o ho
  | cons p ps ih =>
    intro acc n h o ho
    have := ih (widen acc p) (n + 1) (fun o' ho' => by
      obtain ⟨o2, h2, h3⟩ := List.mem_flatMap.mp ho'
      obtain ⟨t, _, rfl⟩ := List.mem_map.mp h3
      rw [List.length_append, h o2 h2]; rfl) o ho
    rw [List.length_cons]; omega
theorem states_mem {ps : List Rng} {o : St1} (h : o ∈ statesOf ps) : o.length = ps.length := by
  have := fold_mem ps [[]] 0 (fun o h => by rw [List.mem_singleton.mp h]; rfl) o h
  omega
theorem widen_snoc {acc : List St1} {j : Nat} {o : St1} {p : Rng} (h : acc[j]? = some o) : widen (acc.take (j + 1)) p = widen (acc.take j) p ++ (List.range (span p)).map fun t : Nat => (o ++ [p.1 + (t : Int)] : St1) := by
  obtain ⟨h1, rfl⟩ := List.getElem?_eq_some_iff.mp h
  rw [List.take_succ_eq_append_getElem h1, widen, List.flatMap_append]
  simp [widen]
theorem rg_len (rs : List Row) : (rg rs).length = total rs := by rw [← rngs_len, rngs_eq, List.length_map]
/-- what is asked of the rows of a law's cells -/
structure Small (rs : List Row) : Prop where
  tot : total rs ≤ 10
  sp : ∀ p ∈ rg rs, 1 ≤ span p ∧ -10 ≤ p.1 ∧ p.2 ≤ 10
  many : many (rg rs) ≤ 256
def rStates : List PyData → List PyData → Prop := fun ds es => ∃ rs : List Row, ds = [cellsD rs] ∧ Small rs ∧ es = (statesOf (rg rs)).map stD
theorem ok_states {f fd} (F : Fun M.K "_law_states" "_law_states" s__law_states f fd) (b : Bl M) (dr : Dc M "_law_ranges" ["_law_rows_here"] 1 (spL rLRanges M.K)) : FnG M.prog M.w M.K M.mg M.base CX0 2 f fd ["_law_rows_here"] (spL rStates M.K) := by
  refine fn_ok F sc__law_states (fun vs H Q E h => ?_) (fun H vs Q E h => ?_)
  · obtain ⟨ds, d, h, ⟨rs, rfl, _⟩, _⟩ := h
    exact h.len
  obtain ⟨ds, d, h, ⟨rs, rfl, sm, rfl⟩, k⟩ := h
  obtain _ | ⟨hc, h⟩ := h
  cases h
  tm_at "go"
  refine e_lstD ?_
  tm_at "go"
  refine e_tupD ?_
  tm_at "go"
  refine tupend .nil (Nat.le_of_ble_eq_true rfl) fun v0 H0 s0 h0 => ?_
  tm_at "go"
  refine ⟨(Nat.le_of_ble_eq_true rfl), fun l1 H1 s1 n1 g1 => ?_⟩
  tm_at "go"
  refine s_forL ?_
  refine e_callL dr ?_
  tm_at "go"
  refine ⟨_, _, by tm_at "dts", ⟨rs, rfl, Nat.le_trans sm.tot (by decide), rfl⟩, fun l2 us H2 s2 n2 g2 hu => ?_⟩
  have s02 := s0.trans (s1.trans s2)
  refine ⟨l2, us, rfl, .of g2, fun i σ1 H' => ∃ (lf : Addr) (fs : List V) (v2 v3 v4 v5 : Option V), σ1 = [_, some (.ref lf), v2, v3, v4, v5, none] ∧ H lf = none ∧ Same H2 H' ∧ H' lf = some (.lst fs) ∧ DtAll M.K H' fs ((statesOf ((rg rs).take i)).map stD), ⟨l1, _, _, _, _, _, rfl, same_none s0 n1, Same.refl _, s2 _ _ g1, .cons (h0.mono (tp_same (s1.trans s2))) .nil⟩, ?_, ?_, ?_⟩
  · rintro i σ' H' _ ⟨lf, fs, v2, v3, v4, v5, rfl, nf, s, _⟩
    exact .of (s _ _ g2)
  · rintro i x σ' H3 hx ⟨lf, fs, v2, v3, v4, v5, rfl, nf, s3, g3, h3⟩
    rw [rngs_eq] at hu
    obtain ⟨d, hd, hx'⟩ := hu.getV hx
    rw [List.getElem?_map] at hd
    obtain ⟨pr, hp, rfl⟩ := Option.map_eq_some_iff.mp hd
    obtain ⟨ap, xp, rfl, htp, hdp⟩ := (hx'.mono (tp_same s3)).tupE
    obtain _ | ⟨e1, hdp⟩ := hdp
    obtain _ | ⟨e2, hdp⟩ := hdp
    cases hdp
    cases e1
    cases e2
    refine g_tup htp (gs_cons (g_name (by tm_at "at") (gs_cons (g_name (by tm_at "at") (gs_nil ?_))))) 
    tm_at "go"
    refine e_lstD ?_
    tm_at "go"
    refine ⟨(Nat.le_of_ble_eq_true rfl), fun l4 H4 s4 n4 g4 => ?_⟩
    tm_at "go"
    refine s_forL ?_
    tm_at "go"
    have ws := widen_len (statesOf ((rg rs).take i)) pr
    refine ⟨lf, fs, rfl, .of (s4 _ _ g3), fun j σ1 H' => ∃ (ws : List V) (v5 : Option V), σ1 = [_, some (.ref lf), some (.int pr.1), some (.int pr.2), some (.ref l4), v5, none] ∧ Same H3 H' ∧ H' l4 = some (.lst ws) ∧ DtAll M.K H' ws ((widen ((statesOf ((rg rs).take i)).take j) pr).map stD), ⟨[], _, rfl, s4, g4, .nil⟩, ?_, ?_, ?_⟩
    · rintro j σ' H' _ ⟨ws, v5, rfl, s, _⟩
      exact .of (s _ _ g3)
    · rintro j y σ' H5 hy ⟨ws, v5, rfl, s5, g5, h5⟩
      obtain ⟨d, hd, hy'⟩ := h3.getV hy
      rw [List.getElem?_map] at hd
      obtain ⟨o, ho, rfl⟩ := Option.map_eq_some_iff.mp hd
      have spn := sm.sp pr (List.mem_of_getElem? hp)
      refine g_name (by tm_at "at") ?_
      tm_at "go"
      refine s_expr ?_
      refine e_ext ?_
      tm_at "go"
      refine ⟨l4, ws, rfl, g5, ?_⟩
      refine e_lc (own := [("_law_value_here", 6)]) (Blk.of (N := N__law_states) (sc := defScope s__law_states) rfl rfl (by decide +kernel)) ?_
      refine lcR2_F (fun t => some (stD (o ++ [t]))) b.range ?_
      tm_at "go"
      refine ⟨pr.1, pr.2 + 1, rfl, rfl, by unfold span at spn; omega, by unfold span at spn; omega, fun t H' ht sH => ?_, fun p us6 H6 s6 n6 g6 h6 => ?_⟩
      · refine g_name (by tm_at "at") ⟨rfl, rfl, ts_nil ⟨Same.refl _, ift ?_⟩⟩
        tm_at "go"
        refine e_tupD ?_
        tm_at "go"
        refine tupend (by tm_at "dts") (Nat.le_of_ble_eq_true rfl) fun vp H2 s2 hp => ?_
        have ol : o.length ≤ 100 := by
          have h1 := states_mem (List.mem_of_getElem? ho)
          have h2 : ((rg rs).take i).length ≤ (rg rs).length := by rw [List.length_take]; omega
          have h3 := sm.tot
          rw [rg_len] at h2
          omega
        refine ro_catT (hy'.mono (tp_same (s5.trans (sH.trans s2)))) hp (by simp; omega) fun v9 H9 s9 h9 => ?_
        refine ⟨s2.trans s9, _, rfl, ?_⟩
        rw [stD, List.map_append]
        exact h9
      · have k6 := kp_upd (o' := .lst (ws ++ us6)) (s6 _ _ g5) (fun _ e => nomatch e) (fun _ _ e => nomatch e)
        have lw := h5.len
        have lu := h6.len
        refine ⟨p, _, _, rfl, s6 _ _ g5, g6, ?_, ?_⟩
        · have b1 : (widen ((statesOf ((rg rs).take i)).take j) pr).length ≤ 256 := by
            rw [widen_len, List.length_take]
            refine Nat.le_trans (Nat.mul_le_mul_right _ (Nat.min_le_right _ _)) ?_
            rw [← widen_len, ← states_snoc hp, states_len]
            exact Nat.le_trans (many_take (fun p hp => (sm.sp p hp).1) _) sm.many
          have b2 := List.length_filterMap_le (fun t : Nat => some (stD (o ++ [pr.1 + (t : Int)]))) (List.range (pr.2 + 1 - pr.1).toNat)
          rw [List.length_range] at b2
          rw [List.length_map] at lw
          omega
        · refine ⟨_, _, rfl, same_mut (s5.trans s6) n4, upd_same, ?_⟩
          rw [widen_snoc ho, List.map_append]
          refine (h5.mono ((tp_same s6).trans k6.t)).app ?_
          have h6' := h6.mono k6.t
          rw [List.filterMap_eq_map'] at h6'
          rw [List.map_map]
          exact h6'
    · rintro σ' H5 ⟨ws, v5, rfl, s5, g5, h5⟩
      tm_at "go"
      have l3 := h3.len
      rw [l3, List.length_map, List.take_length, ← states_snoc hp] at h5
      exact ⟨l4, ws, _, _, _, _, rfl, same_none s02 (same_none s3 n4), s3.trans s5, g5, h5⟩
  · rintro σ' H3 ⟨lf, fs, v2, v3, v4, v5, rfl, nf, s3, g3, h3⟩
    tm_at "go"
    have l2 := hu.len
    rw [l2, rngs_len, ← rg_len, List.take_length] at h3
    exact k _ _ _ (s02.trans s3) nf g3 h3
end K

namespace K
open PySem L2 G
variable {M : Md}
theorem dtAll_mem {K : PySem.W.Frag} {H : Hp} {xs : List V} {ds : List PyData} (h : DtAll K H xs ds) {y : V} (hy : y ∈ xs) : ∃ d ∈ ds, Dt K H y d := by
  obtain ⟨i, hi⟩ := List.mem_iff_getElem?.mp hy
  obtain ⟨d, h1, h2⟩ := h.getV hi
  exact ⟨d, List.mem_of_getElem? h1, h2⟩
theorem dtAll_pick {K : PySem.W.Frag} {H : Hp} {xs : List V} {ds : List PyData} (h : DtAll K H xs ds) : ∀ ys : List V, (∀ y ∈ ys, y ∈ xs) → ∃ es, DtAll K H ys es ∧ ∀ e ∈ es, e ∈ ds
  | [], _ => ⟨[], .nil, fun _ h => nomatch h⟩
  | y :: ys, hy => by
    obtain ⟨d, hd, h1⟩ := dtAll_mem h (hy y (List.mem_cons_self ..))
    obtain ⟨es, h2, h3⟩ := dtAll_pick h ys fun z hz => hy z (List.mem_cons_of_mem _ hz)
    refine ⟨d :: es, .cons h1 h2, fun e he => ?_⟩
    rcases List.mem_cons.mp he with rfl | he
    · exact hd
    · exact h3 e he
/-- some of the states -/
def spSome (K : PySem.W.Frag) : Sp := fun vs H Q _ => ∃ a xs ds m, vs = [.ref a, .int m] ∧ (1 ≤ m ∧ m ≤ 1000) ∧ H a = some (.lst xs) ∧ DtAll K H xs ds ∧ ds.length ≤ 1000 ∧
  ∀ l us es H', Same H H' → H l = none → H' l = some (.lst us) → DtAll K H' us es → (∀ e ∈ es, e ∈ ds) → es.length ≤ 2 * ds.length → Q (.ref l) H'
def mea (s : Int) : Nat := if s % 6 = 0 then 1 else if s % 6 = 2 then 3 else if s % 6 = 3 then 2 else if s % 6 = 4 then 1 else 0
theorem mea_lt {s : Int} (h : s % 2 = 0 ∨ s % 3 = 0) : mea (s + 1) < mea s := by
  unfold mea
  have h1 : s % 6 = 0 ∨ s % 6 = 2 ∨ s % 6 = 3 ∨ s % 6 = 4 := by omega
  rcases h1 with e | e | e | e
  · rw [if_neg (by omega), if_neg (by omega), if_neg (by omega), if_neg (by omega), if_pos e]; decide
  · rw [if_neg (by omega), if_neg (by omega), if_pos (by omega), if_neg (by omega), if_pos e]; decide
  · rw [if_neg (by omega), if_neg (by omega), if_neg (by omega), if_pos (by omega), if_neg (by omega), if_neg (by omega), if_pos e]; decide
  · rw [if_neg (by omega), if_neg (by omega), if_neg (by omega), if_neg (by omega), if_neg (by omega), if_neg (by omega), if_neg (by omega), if_pos e]; decide
theorem ok_some {f fd} (F : Fun M.K "_law_some" "_law_some" s__law_some f fd) (b : Bl M) : FnG M.prog M.w M.K M.mg M.base CX0 1 f fd ["_law_states_now", "_law_most"] (spSome M.K) := by
  refine fn_ok F sc__law_some (fun vs H Q E h => ?_) (fun H vs Q E h => ?_)
  · obtain ⟨a, xs, ds, m, rfl, _⟩ := h
    rfl
  obtain ⟨a, xs, ds, m, rfl, hm, ha, hd, hl, k⟩ := h
  have hle := hd.len
  tm_at "go"
  refine rc_lenL (.of ha) ?_
  tm_at "go"
  refine ro_div (by omega) (by omega) ?_
  tm_at "go"
  have q0 : 0 ≤ (xs.length : Int) / m := Int.ediv_nonneg (by omega) (by omega)
  refine s_while (fun n σ1 H1 => H1 = H ∧ ∃ s : Int, 1 ≤ s ∧ n = mea s ∧ σ1 = [some (.ref a), some (.int m), some (.int s)]) (mea (1 + (xs.length : Int) / m)) ⟨rfl, _, by omega, rfl, rfl⟩ ?_
  · rintro n σ1 _ ⟨rfl, s, s1, rfl, rfl⟩
    tm_at "go"
    refine ro_mod (by decide) ?_
    tm_at "go"
    refine ifd (fun c1 => ?_) (fun c1 => ?_)
    · refine ift ?_
      tm_at "go"
      exact ⟨_, mea_lt (.inl c1), rfl, _, by omega, rfl, rfl⟩
    · tm_at "go"
      refine ro_mod (by decide) ?_
      tm_at "go"
      refine ifd (fun c2 => ?_) (fun c2 => ?_)
      · tm_at "go"
        exact ⟨_, mea_lt (.inr c2), rfl, _, by omega, rfl, rfl⟩
      · tm_at "go"
        refine ⟨a, xs, rfl, .of ha, fun e => ?_, fun p ys H5 s5 n5 g5 m5 l5 => ?_⟩
        · cases e; omega
        tm_at "go"
        refine rsl_list (.of (s5 _ _ ha)) fun p6 H6 s6 n6 g6 => ?_
        have l6 := cutV_length xs (some (-1)) none
        refine ro_cat (s6 _ _ g5) g6 (by omega) fun p7 H7 s7 n7 g7 => ?_
        obtain ⟨es, h7, m7⟩ := dtAll_pick (hd.mono (tp_same (s5.trans (s6.trans s7)))) (ys ++ cutV xs (some (-1)) none) (fun y hy => by
          rcases List.mem_append.mp hy with hy | hy
          · exact m5 y hy
          · exact List.mem_of_mem_drop (List.mem_of_mem_take hy))
        have l7 := h7.len
        rw [List.length_append] at l7
        exact k _ _ es _ (s5.trans (s6.trans s7)) (same_none (s5.trans s6) n7) g7 h7 m7 (by omega)
end K

namespace G
open PySem PySem.Spec PyProof.Rows L2
theorem iff0 {A B : Prop} (b : B) : if false = true then A else B := b
section
variable {c : Cd} {σ : L2.St} {H : Hp} {Q : VK} {pos : Pos} {x y : V}
def cutD {α : Type} (xs : List α) (lo hi : Option Int) : List α := (xs.drop (HT.sIx xs.length 0 lo)).take (HT.sIx xs.length xs.length hi - HT.sIx xs.length 0 lo)
theorem rsl_tup {ds : List PyData} {lo hi : Option Int} (hx : Dt c.K H x (.tuple ds)) (q : ∀ v H2, Same H H2 → Dt c.K H2 v (.tuple (cutD ds lo hi)) → Q v H2) : RSl c x lo hi H Q := by
  obtain ⟨a, xs, rfl, ht, hd⟩ := hx.tupE
  have hl := hd.len
  have hc : DtAll c.K H (cutV xs lo hi) (cutD ds lo hi) := by
    unfold cutV cutD
    rw [hl]
    exact DtAll.take _ (DtAll.drop _ hd)
  refine rsl_of (r := rSlA c.K) (fun X h => by rw [← h.K]; exact sl_tupA) ⟨a, xs, rfl, ht, fun e => ?_, fun _ p hp => q _ _ (same_new hp) (.tup (.of upd_same) (hc.mono (tp_same (same_new hp))))⟩
  refine q _ _ (Same.refl _) ?_
  have e2 : cutD ds lo hi = ds := by
    unfold cutD
    rw [← hl, e.1, e.2]
    simp [hl]
  rw [e2]
  exact hx
end
end G
namespace K
open PySem L2 G
variable {M : Md}
section
variable {c : Cd} {σ : L2.St} {H : Hp} {Q : VK} {pos : Pos}
theorem e_draw (D : Dc c.toMd "_law_draw" ["_law_feed_here", "_law_many"] 1 (spD preDraw rDraw c.K)) {e1 e2 : Expr} {p : Pos} (q : RE c e1 σ H fun x H1 => RE c e2 σ H1 fun y H2 => ∃ (fp cl : Addr) (m : Int), x = .ref fp ∧ y = .int m ∧ (0 < m ∧ m < 1000) ∧ Feed c.K H2 fp cl ∧ ∀ r H3, 0 ≤ r → r < m → Kp fp H2 H3 → Feed c.K H3 fp cl → Q (.int r) H3)
    (hk : 1 ≤ c.k := by exact Nat.le_of_ble_eq_true rfl) (hg : c.sc.names.lookup ("_law_draw" : Str) = some .globalImplicit := by rfl) (h1 : ∀ env, starEach [e1, e2] env = (false, eval e1 env) :: starEach [e2] env := by intro _; rfl) (h2 : ∀ env, starEach [e2] env = (false, eval e2 env) :: starEach [] env := by intro _; rfl) (hpl : ∀ env, (backTo pos (starEach [e2] env)).any (·.1) = false := by intro _; rfl) :
    RE c (.Call (.Name "_law_draw" p) [e1, e2] [] pos) σ H Q := by
  refine e_callD D (a_cons (RE.mono (fun x H1 z => a_cons (RE.mono (fun y H2 z => a_nil ?_) z) h2) q) h1) hk hg (by decide) h1 hpl
  obtain ⟨fp, cl, m, rfl, rfl, hm, hf, k⟩ := z
  refine ⟨fp, cl, _, _, rfl, hf, .cons (.int m) .nil, ⟨m, rfl, hm⟩, ?_⟩
  rintro d v H3 ⟨m', r, hm', rfl, r0, r1⟩ k3 f3 hv
  cases hm'
  cases hv
  exact k r H3 r0 r1 k3 f3
end
def nameOf (r : Row) : Str := r.1
structure RowOk (r : Row) : Prop where
  size : r.2.1 ≤ 3
  lo : -2 ≤ r.2.2.1
  lh : r.2.2.1 ≤ r.2.2.2.1
  hi : r.2.2.2.1 ≤ r.2.2.1 + 3
  lo1 : r.2.2.1 ≤ 1
  fst : r.2.2.1 ≤ r.2.2.2.2.2.2 ∧ r.2.2.2.2.2.2 ≤ r.2.2.2.1
  giv : r.2.2.2.2.1 = true → r.2.2.2.2.2.2 = r.2.2.1
structure Rows3 (most : Nat) (rs : List Row) : Prop where
  ok : ∀ r ∈ rs, RowOk r
  nm : ∃ m ∈ menus, (rs.map nameOf).Sublist m
  len : rs.length = 3
  many : many (rg rs) ≤ most
def preRows : List PyData → Prop := fun ds => ∃ most : Nat, ds = [.int most] ∧ 1 ≤ most ∧ most ≤ 100
def rRows : List PyData → PyData → Prop := fun ds d => ∃ (most : Nat) (rs : List Row), ds = [.int most] ∧ d = cellsD rs ∧ Rows3 most rs
/-- within: the feed goes on, the list stays -/
structure In (K : PySem.W.Frag) (fp cl l : Addr) (us : List V) (H H' : Hp) : Prop where
  kp : Kp fp H H'
  fd : Feed K H' fp cl
  nc : l ≠ cl
  g : H' l = some (.lst us)
  n : H l = none
  ne : l ≠ fp
theorem In.draw {K : PySem.W.Frag} {fp cl l : Addr} {us : List V} {H H1 H2 : Hp} (i : In K fp cl l us H H1) (k : Kp fp H1 H2) (f : Feed K H2 fp cl) : In K fp cl l us H H2 := ⟨i.kp.trans k, f, i.nc, k.k _ _ i.ne i.g, i.n, i.ne⟩
theorem In.same {K : PySem.W.Frag} {fp cl l : Addr} {us : List V} {H H1 H2 : Hp} (i : In K fp cl l us H H1) (s : Same H1 H2) : In K fp cl l us H H2 := ⟨i.kp.trans (kp_same s), i.fd.same s, i.nc, s _ _ i.g, i.n, i.ne⟩
theorem many_app (ps qs : List Rng) : many (ps ++ qs) = many ps * many qs := by
  unfold many
  rw [List.map_append, List.foldl_append]
  have h : ∀ (ns : List Nat) (a : Nat), ns.foldl (· * ·) a = a * ns.foldl (· * ·) 1 := by
    intro ns
    induction ns with
    | nil => intro a; simp
    | cons n ns ih => intro a; rw [List.foldl_cons, List.foldl_cons, ih (a * n), ih (1 * n), Nat.one_mul, Nat.mul_assoc]
  exact h _ _
theorem many_rep (n : Nat) (p : Rng) : many (List.replicate n p) = span p ^ n := by
  induction n with
  | zero => rfl
  | succ n ih =>
    rw [List.replicate_succ, show p :: List.replicate n p = [p] ++ List.replicate n p from rfl, many_app, ih, Nat.pow_succ, Nat.mul_comm]
    congr 1
    exact Nat.one_mul _
theorem many_row (rs : List Row) (r : Row) : many (rg (rs ++ [r])) = many (rg rs) * span (r.2.2.1, r.2.2.2.1) ^ width r := by
  have : rg (rs ++ [r]) = rg rs ++ List.replicate (width r) (r.2.2.1, r.2.2.2.1) := by simp [rg, List.flatMap_append]
  rw [this, many_app, many_rep]
theorem dtInts {K : PySem.W.Frag} {H : Hp} : ∀ ns : List Int, DtAll K H (ns.map V.int) (ns.map PyData.int)
  | [] => .nil
  | n :: ns => .cons (.int n) (dtInts ns)
theorem dtStrs {K : PySem.W.Frag} {H : Hp} : ∀ ns : List Str, DtAll K H (ns.map V.str) (ns.map PyData.str)
  | [] => .nil
  | n :: ns => .cons (.str n) (dtStrs ns)
theorem cutD_sub {α : Type} (xs : List α) (lo hi : Option Int) : (cutD xs lo hi).Sublist xs := (List.take_sublist _ _).trans (List.drop_sublist _ _)
theorem cutD_map {α β : Type} (g : α → β) (xs : List α) (lo hi : Option Int) : cutD (xs.map g) lo hi = (cutD xs lo hi).map g := by
  unfold cutD
  rw [List.length_map, List.map_take, List.map_drop]
set_option maxHeartbeats 1000000 in
theorem ok_rows {f fd} (F : Fun M.K "_law_rows" "_law_rows" s__law_rows f fd) (b : Bl M) (dd : Dc M "_law_draw" ["_law_feed_here", "_law_many"] 1 (spD preDraw rDraw M.K)) (dm : Dc M "_law_menu" ["_law_feed_here"] 2 (spD preMenu rMenu M.K)) (dp : Dc M "_law_power" ["_law_base", "_law_many"] 1 (spF rPower M.K)) :
    FnG M.prog M.w M.K M.mg M.base CX0 3 f fd ["_law_feed_here", "_law_most"] (spD preRows rRows M.K) := by
  refine fn_ok F sc__law_rows (spD_len (n := 1) (by rintro ds ⟨_, rfl, _⟩; rfl)) (fun H vs Q E h => ?_)
  obtain ⟨fp, cl, rest, ds, rfl, hf, hds, ⟨most, rfl, m1, m2⟩, k⟩ := h
  obtain _ | ⟨hm, hds⟩ := hds
  cases hds
  cases hm
  tm_at "go"
  refine e_lstD ?_
  tm_at "go"
  refine ⟨by decide, fun l H1 s1 n1 g1 => ?_⟩
  tm_at "go"
  have i1 : In M.K fp cl l [] H H1 := ⟨kp_same s1, hf.same s1, ne_cl hf (Same.refl _) n1, g1, n1, ne_feed hf (Same.refl _) n1⟩
  refine s_forT ?_
  tm_at "go"
  refine e_callD dm ?_
  tm_at "go"
  refine ⟨fp, cl, _, _, rfl, i1.fd, .nil, rfl, ?_⟩
  rintro d vm H2 ⟨mn, hmn, rfl⟩ k2 f2 hvm
  tm_at "go"
  have i2 := i1.draw k2 f2
  refine e_draw dd ?_
  tm_at "go"
  refine ⟨fp, cl, _, rfl, rfl, by decide, i2.fd, fun r H3 r0 r1 k3 f3 => ?_⟩
  have i3 := i2.draw k3 f3
  tm_at "go"
  refine rsl_tup (hvm.mono k3.t) fun vn H4 s4 hvn => ?_
  have i4 := i3.same s4
  rw [cutD_map] at hvn
  have sub : (cutD mn (some r) none).Sublist mn := cutD_sub _ _ _
  have long : 3 ≤ (cutD mn (some r) none).length := by
    have h : ∀ m ∈ menus, 3 ≤ (cutD m (some 0) none).length ∧ 3 ≤ (cutD m (some 1) none).length := by decide +kernel
    have hr : r = 0 ∨ r = 1 := by omega
    rcases hr with rfl | rfl
    · exact (h mn hmn).1
    · exact (h mn hmn).2
  generalize cutD mn (some r) none = nms at *
  obtain ⟨a, xs, rfl, hxs, hns⟩ := hvn.tupE
  have hle := hns.len
  rw [List.length_map] at hle
  refine ⟨a, xs, rfl, hxs, fun i σ1 H' => ∃ (rs : List Row) (us : List V) (had : Bool) (v5 v6 v7 v8 v9 v10 v11 : Option V), σ1 = [some (.ref fp), some (.int most), some (.ref l), some (.int (many (rg rs))), some (.bl had), v5, v6, v7, v8, v9, v10, v11] ∧ Tp H4 H' ∧ In M.K fp cl l us H H' ∧ DtAll M.K H' us (rs.map rowD) ∧
    (∀ r ∈ rs, RowOk r) ∧ (rs.map nameOf).Sublist (nms.take i) ∧ rs.length = min i 3 ∧ many (rg rs) ≤ most, ⟨[], [], false, _, _, _, _, _, _, _, rfl, Tp.refl _, i4, .nil, (fun _ h => nomatch h), .slnil, rfl, m1⟩, ?_, ?_, ?_⟩
  · rintro i σ' H' _ ⟨rs, us, had, v5, v6, v7, v8, v9, v10, v11, rfl, t, _⟩
    exact t.sqt hxs
  · rintro i x σ' H5 hx ⟨rs, us, had, v5, v6, v7, v8, v9, v10, v11, rfl, t5, i5, h5, ok5, sub5, len5, many5⟩
    obtain ⟨d, hd, hx'⟩ := hns.getV hx
    rw [List.getElem?_map] at hd
    obtain ⟨nm, hnm, rfl⟩ := Option.map_eq_some_iff.mp hd
    cases hx'
    refine g_name (by tm_at "at") ?_
    refine b_cut (fun σ1 H' => ∃ sz : Nat, sz ≤ 3 ∧ σ1 = [some (.ref fp), some (.int most), some (.ref l), some (.int (many (rg rs))), some (.bl had), some (.str nm), some (.int sz), v7, v8, v9, v10, v11] ∧ Kp fp H5 H' ∧ In M.K fp cl l us H H') ?_ ?_
    · tm_at "go"
      refine t_val ?_
      tm_at "go"
      cases had with
      | true =>
        refine iff0 ?_
        refine iff0 ?_
        tm_at "go"
        exact ⟨0, by decide, rfl, Kp.refl _ _, i5⟩
      | false =>
        refine ift ?_
        tm_at "go"
        refine e_draw dd ?_
        tm_at "go"
        refine ⟨fp, cl, _, rfl, rfl, by decide, i5.fd, fun r6 H6 r60 r61 k6 f6 => ?_⟩
        have i6 := i5.draw k6 f6
        tm_at "go"
        refine ifd (fun c1 => ?_) (fun c1 => ?_)
        · tm_at "go"
          refine e_draw dd ?_
          tm_at "go"
          refine ⟨fp, cl, _, rfl, rfl, by decide, i6.fd, fun r7 H7 r70 r71 k7 f7 => ?_⟩
          have i7 := i6.draw k7 f7
          tm_at "go"
          exact ⟨(1 + r7).toNat, by omega, by rw [show (((1 + r7).toNat : Nat) : Int) = 1 + r7 by omega]; rfl, k6.trans k7, i7⟩
        · tm_at "go"
          exact ⟨0, by decide, rfl, k6, i6⟩
    rintro _ H6 ⟨sz, sz3, rfl, k6, i6⟩
    refine b_cut (fun σ1 H' => ∃ wd : Nat, (1 ≤ wd ∧ wd ≤ 4) ∧ σ1 = [some (.ref fp), some (.int most), some (.ref l), some (.int (many (rg rs))), some (.bl had), some (.str nm), some (.int sz), some (.int wd), v8, v9, v10, v11] ∧ Kp fp H5 H' ∧ In M.K fp cl l us H H') ?_ ?_
    · tm_at "go"
      refine e_lstD ?_
      tm_at "go"
      refine ⟨(Nat.le_of_ble_eq_true rfl), fun lw H7 s7 n7 g7 => ?_⟩
      have i7 := i6.same s7
      tm_at "go"
      refine e_draw dd ?_
      tm_at "go"
      refine ⟨fp, cl, _, rfl, rfl, by decide, i7.fd, fun r8 H8 r80 r81 k8 f8 => ?_⟩
      have i8 := i7.draw k8 f8
      have nw : lw ≠ fp := ne_feed i6.fd (Same.refl _) n7
      refine rx_pick (ds := ([2, 3, 4, 2, 1] : List Int).map .int) (.of (k8.k _ _ nw g7)) (dtInts [2, 3, 4, 2, 1]) r80 r81 fun v d hd hv => ?_
      rw [List.getElem?_map] at hd
      obtain ⟨wd, hw, rfl⟩ := Option.map_eq_some_iff.mp hd
      have hw' : wd ∈ ([2, 3, 4, 2, 1] : List Int) := List.mem_of_getElem? hw
      have hb : 1 ≤ wd ∧ wd ≤ 4 := by
        rcases List.mem_cons.mp hw' with rfl | hw'
        · decide
        rcases List.mem_cons.mp hw' with rfl | hw'
        · decide
        rcases List.mem_cons.mp hw' with rfl | hw'
        · decide
        rcases List.mem_cons.mp hw' with rfl | hw'
        · decide
        rcases List.mem_cons.mp hw' with rfl | hw'
        · decide
        cases hw'
      cases hv
      exact ⟨wd.toNat, by omega, by rw [show ((wd.toNat : Nat) : Int) = wd by omega]; rfl, k6.trans ((kp_same s7).trans k8), i8⟩
    rintro _ H7 ⟨wd, hwd, rfl, k7, i7⟩
    refine b_cut (fun σ1 H' => ∃ sz wd : Nat, sz ≤ 3 ∧ (1 ≤ wd ∧ wd ≤ 4) ∧ many (rg rs) * wd ^ max 1 sz ≤ most ∧ σ1 = [some (.ref fp), some (.int most), some (.ref l), some (.int (many (rg rs))), some (.bl had), some (.str nm), some (.int sz), some (.int wd), v8, v9, v10, v11] ∧ Kp fp H5 H' ∧ In M.K fp cl l us H H') ?_ ?_
    · tm_at "go"
      refine e_callF dp ?_
      tm_at "go"
      have e1 : (if ((sz : Nat) : Int) > 1 then ((sz : Nat) : Int) else 1) = ((max 1 sz : Nat) : Int) := by split <;> omega
      rw [e1]
      refine ⟨_, _, by tm_at "dts", ⟨wd, max 1 sz, rfl, by omega, by omega, rfl⟩, fun v H8 s8 hv => ?_⟩
      cases hv
      have i8 := i7.same s8
      refine ro_mul (.inl ⟨by omega, by omega⟩) ?_
      tm_at "go"
      have e2 : ((many (rg rs) : Nat) : Int) * ((wd : Nat) : Int) ^ max 1 sz = ((many (rg rs) * wd ^ max 1 sz : Nat) : Int) := by rw [Int.natCast_mul, Int.natCast_pow]
      rw [e2]
      refine ifd (fun c1 => ?_) (fun c1 => ?_)
      · tm_at "go"
        refine ro_mul (.inr ⟨by decide, by decide⟩) ?_
        tm_at "go"
        refine ifd (fun c2 => ?_) (fun c2 => ?_)
        · tm_at "go"
          exact ⟨0, 2, by decide, by decide, by rw [show max 1 0 = 1 from rfl, Nat.pow_one]; omega, rfl, k7.trans (kp_same s8), i8⟩
        · tm_at "go"
          exact ⟨0, 1, by decide, by decide, by rw [show max 1 0 = 1 from rfl, Nat.pow_one]; omega, rfl, k7.trans (kp_same s8), i8⟩
      · tm_at "go"
        exact ⟨sz, wd, sz3, hwd, by omega, rfl, k7.trans (kp_same s8), i8⟩
    clear sz3 hwd k6 i6 k7 i7
    clear wd sz
    rintro _ H8 ⟨sz, wd, sz3, hwd, hmany, rfl, k8, i8⟩
    refine b_cut (fun σ1 H' => ∃ (lo : Int) (gv sh : Bool), (-2 ≤ lo ∧ lo ≤ 1) ∧ σ1 = [some (.ref fp), some (.int most), some (.ref l), some (.int (many (rg rs))), some (.bl had), some (.str nm), some (.int sz), some (.int wd), some (.int lo), some (.bl gv), some (.bl sh), v11] ∧ Kp fp H5 H' ∧ In M.K fp cl l us H H') ?_ ?_
    · tm_at "go"
      refine e_draw dd ?_
      tm_at "go"
      refine ⟨fp, cl, _, rfl, rfl, by decide, i8.fd, fun r9 H9 r90 r91 k9 f9 => ?_⟩
      have i9 := i8.draw k9 f9
      tm_at "go"
      refine e_draw dd ?_
      tm_at "go"
      refine ⟨fp, cl, _, rfl, rfl, by decide, i9.fd, fun ra Ha ra0 ra1 ka fa => ?_⟩
      have ia := i9.draw ka fa
      tm_at "go"
      refine e_draw dd ?_
      tm_at "go"
      refine ⟨fp, cl, _, rfl, rfl, by decide, ia.fd, fun rb Hb rb0 rb1 kb fb => ?_⟩
      have ib := ia.draw kb fb
      tm_at "go"
      exact ⟨r9 - 2, _, _, by omega, rfl, k8.trans (k9.trans (ka.trans kb)), ib⟩
    clear k8 i8
    rintro _ H9 ⟨lo, gv, sh, hlo, rfl, k9, i9⟩
    refine b_cut (fun σ1 H' => ∃ fs : Int, (lo ≤ fs ∧ fs ≤ lo + wd - 1 ∧ (gv = true → fs = lo)) ∧ σ1 = [some (.ref fp), some (.int most), some (.ref l), some (.int (many (rg rs))), some (.bl had), some (.str nm), some (.int sz), some (.int wd), some (.int lo), some (.bl gv), some (.bl sh), some (.int fs)] ∧ Kp fp H5 H' ∧ In M.K fp cl l us H H') ?_ ?_
    · tm_at "go"
      refine t_val ?_
      tm_at "go"
      cases gv with
      | true =>
        refine ift ?_
        tm_at "go"
        exact ⟨lo, ⟨Int.le_refl _, by omega, fun _ => rfl⟩, rfl, k9, i9⟩
      | false =>
        refine iff0 ?_
        tm_at "go"
        refine e_draw dd ?_
        tm_at "go"
        refine ⟨fp, cl, _, rfl, rfl, by omega, i9.fd, fun ra Ha ra0 ra1 ka fa => ?_⟩
        tm_at "go"
        exact ⟨lo + ra, ⟨by omega, by omega, fun e => nomatch e⟩, rfl, k9.trans ka, i9.draw ka fa⟩
    clear k9 i9
    rintro _ H9 ⟨fs, hfs, rfl, k9, i9⟩
    have hul := h5.len
    rw [List.length_map] at hul
    tm_at "go"
    refine rc_lenL (.of i9.g) ?_
    tm_at "go"
    refine ifd (fun c1 => ?_) (fun c1 => ?_)
    · refine b_cut (fun σ1 H' => ∃ us', σ1 = [some (.ref fp), some (.int most), some (.ref l), some (.int (many (rg rs))), some (.bl had), some (.str nm), some (.int sz), some (.int wd), some (.int lo), some (.bl gv), some (.bl sh), some (.int fs)] ∧ Tp H4 H' ∧ In M.K fp cl l us' H H' ∧ DtAll M.K H' us' ((rs ++ [(nm, sz, lo, lo + wd - 1, gv, sh, fs)]).map rowD)) ?_ ?_
      · refine s_expr ?_
        refine e_app ?_
        tm_at "go"
        refine ⟨l, _, rfl, i9.g, ?_⟩
        refine e_tupD ?_
        tm_at "go"
        refine tupend (ds := [.str nm, .int sz, .int lo, .int (lo + wd - 1), .bool gv, .bool sh, .int fs]) (by tm_at "dts") (Nat.le_of_ble_eq_true rfl) fun v H10 s10 hv => ?_
        have i10 := i9.same s10
        have ku := kp_upd (o' := .lst (us ++ [v])) i10.g (fun _ e => nomatch e) (fun _ _ e => nomatch e)
        refine ⟨us, i10.g, by omega, us ++ [v], rfl, t5.trans (k9.t.trans ((tp_same s10).trans ku.t)), ⟨kp_mut i10.kp i10.n, i10.fd.upd i10.ne i10.nc, i10.nc, upd_same, i10.n, i10.ne⟩, ?_⟩
        · rw [List.map_append]
          exact (h5.mono (k9.t.trans ((tp_same s10).trans ku.t))).app (.cons (hv.mono ku.t) .nil)
      rintro _ Ha ⟨us', rfl, ta, ia, ha⟩
      tm_at "go"
      refine e_callF dp ?_
      tm_at "go"
      have e1 : (if ((sz : Nat) : Int) > 1 then ((sz : Nat) : Int) else 1) = ((max 1 sz : Nat) : Int) := by split <;> omega
      rw [e1]
      refine ⟨_, _, by tm_at "dts", ⟨wd, max 1 sz, rfl, by omega, by omega, rfl⟩, fun v Hb sb hv => ?_⟩
      cases hv
      have ib := ia.same sb
      refine ro_mul (.inl ⟨by omega, by omega⟩) ?_
      have e2 : ((many (rg rs) : Nat) : Int) * ((wd : Nat) : Int) ^ max 1 sz = ((many (rg rs) * wd ^ max 1 sz : Nat) : Int) := by rw [Int.natCast_mul, Int.natCast_pow]
      have e3 : many (rg (rs ++ [(nm, sz, lo, lo + wd - 1, gv, sh, fs)])) = many (rg rs) * wd ^ max 1 sz := by
        rw [many_row]
        congr 1
        show (lo + wd - 1 + 1 - lo).toNat ^ max 1 sz = _
        congr 1
        omega
      rw [e2, ← e3]
      have sub' : ((rs ++ [((nm, sz, lo, lo + wd - 1, gv, sh, fs) : Row)]).map nameOf).Sublist (nms.take (i + 1)) := by
        obtain ⟨z1, z2⟩ := List.getElem?_eq_some_iff.mp hnm
        rw [List.take_succ_eq_append_getElem z1, z2, List.map_append]
        exact sub5.append (List.Sublist.refl _)
      have ok' : ∀ r ∈ rs ++ [((nm, sz, lo, lo + wd - 1, gv, sh, fs) : Row)], RowOk r := by
        intro r hr
        rcases List.mem_append.mp hr with hr | hr
        · exact ok5 r hr
        · rw [List.mem_singleton.mp hr]
          exact ⟨sz3, hlo.1, by show lo ≤ lo + wd - 1; omega, by show lo + wd - 1 ≤ lo + 3; omega, hlo.2, ⟨hfs.1, hfs.2.1⟩, hfs.2.2⟩
      have len' : (rs ++ [((nm, sz, lo, lo + wd - 1, gv, sh, fs) : Row)]).length = min (i + 1) 3 := by rw [List.length_append, List.length_singleton]; omega
      tm_at "go"
      refine ifb (fun e => ?_) (fun e => ?_)
      · exact ⟨_, us', true, _, _, _, _, _, _, _, rfl, ta.trans (tp_same sb), ib, ha.mono (tp_same sb), ok', sub', len', by rw [e3]; exact hmany⟩
      · tm_at "go"
        exact ⟨_, us', _, _, _, _, _, _, _, _, rfl, ta.trans (tp_same sb), ib, ha.mono (tp_same sb), ok', sub', len', by rw [e3]; exact hmany⟩
    · tm_at "go"
      exact ⟨rs, us, had, _, _, _, _, _, _, _, rfl, t5.trans k9.t, i9, h5.mono k9.t, ok5, sub5.trans (List.take_sublist_take_left (Nat.le_succ i)), by omega, many5⟩
  · rintro σ' H5 ⟨rs, us, had, v5, v6, v7, v8, v9, v10, v11, rfl, t5, i5, h5, ok5, sub5, len5, many5⟩
    tm_at "go"
    refine rc_tupL (.of i5.g) h5 fun v2 H6 s6 h6 => ?_
    have i6 := i5.same s6
    refine k _ _ _ ⟨most, rs, rfl, rfl, ok5, ⟨mn, hmn, (sub5.trans (List.take_sublist _ _)).trans sub⟩, by omega, many5⟩ i6.kp i6.fd h6
end K

namespace G
open PySem PySem.Spec PyProof.Rows L2
structure Shp (n : Nat) (d : PyData) : Prop where
  lay : PyData.canLay0 d = true
  dep : PyData.depth d ≤ n
theorem shp_all {n : Nat} : ∀ {ds : List PyData}, (∀ d ∈ ds, Shp n d) → PyData.canLayAll0 ds = true ∧ PyData.depthAll ds ≤ n
  | [], _ => ⟨by simp [PyData.canLayAll0], by simp [PyData.depthAll]⟩
  | d :: ds, h => by
    have h1 := h d (List.mem_cons_self ..)
    have h2 := shp_all fun e he => h e (List.mem_cons_of_mem _ he)
    refine ⟨by simp [PyData.canLayAll0, h1.lay, h2.1], ?_⟩
    simp only [PyData.depthAll]
    have := h1.dep
    have := h2.2
    omega
theorem shp_tup {n : Nat} {ds : List PyData} (h : ∀ d ∈ ds, Shp n d) : Shp (n + 1) (.tuple ds) := by
  have := shp_all h
  exact ⟨by simp only [PyData.canLay0]; exact this.1, by simp only [PyData.depth]; omega⟩
theorem shp_lst {n : Nat} {ds : List PyData} (h : ∀ d ∈ ds, Shp n d) : Shp (n + 1) (.list ds) := by
  have := shp_all h
  exact ⟨by simp only [PyData.canLay0]; exact this.1, by simp only [PyData.depth]; omega⟩
theorem shp_int {n : Nat} (i : Int) : Shp (n + 1) (.int i) := ⟨by simp [PyData.canLay0], by simp [PyData.depth]⟩
theorem shp_bl {n : Nat} (i : Bool) : Shp (n + 1) (.bool i) := ⟨by simp [PyData.canLay0], by simp [PyData.depth]⟩
theorem shp_non {n : Nat} : Shp (n + 1) .none := ⟨by simp [PyData.canLay0], by simp [PyData.depth]⟩
theorem shp_str {n : Nat} {s : Str} (h : PyData.strOk s = true) : Shp (n + 1) (.str s) := ⟨by simp only [PyData.canLay0]; exact h, by simp [PyData.depth]⟩
theorem Shp.ok {n : Nat} {d : PyData} (h : Shp n d) (hn : n ≤ 64 := by decide) : SeqAt.shaped d = true := by
  show (PyData.canLay0 d && decide (PyData.depth d ≤ 64)) = true
  rw [h.lay, Bool.true_and]
  exact decide_eq_true (Nat.le_trans h.dep hn)
section
variable {c : Cd} {σ : L2.St} {H : Hp} {Q : VK} {pos : Pos} {x y : V}
/-- xs == [] -/
theorem ro_eqNil {p q0 : Addr} {xs : List V} {ds : List PyData} {n : Nat} (h1 : H p = some (.lst xs)) (hd : DtAll c.K H xs ds) (hs : ∀ d ∈ ds, Shp n d) (hn : n + 1 ≤ 64) (h2 : H q0 = some (.lst [])) (q : Q (.bl ds.isEmpty) H) : RQ c .Eq (.ref p) (.ref q0) H Q := by
  refine ro_eqD (.lst (SqL.of h1) hd.dp) (.lst (SqL.of h2) .nil) ((shp_lst hs).ok hn) (by decide) ?_
  cases ds with
  | nil => exact q
  | cons d ds => exact q
theorem ro_neNil {p q0 : Addr} {xs : List V} {ds : List PyData} {n : Nat} (h1 : H p = some (.lst xs)) (hd : DtAll c.K H xs ds) (hs : ∀ d ∈ ds, Shp n d) (hn : n + 1 ≤ 64) (h2 : H q0 = some (.lst [])) (q : Q (.bl (!ds.isEmpty)) H) : RQ c .NotEq (.ref p) (.ref q0) H Q := by
  refine ro_neD (.lst (SqL.of h1) hd.dp) (.lst (SqL.of h2) .nil) ((shp_lst hs).ok hn) (by decide) ?_
  cases ds with
  | nil => exact q
  | cons d ds => exact q
end
end G
namespace K
open PySem L2 G
variable {M : Md}
inductive Ex where
  | int (i : Int) | nm (s : Str) | at (t : Str) (e : Ex) | un (op : Str) (e : Ex) | bin (op : Str) (a b : Ex) | kk (op : Str) (e : Ex) (n : Int) | ite (a b d : Ex)
def Ex.d : Ex → PyData
  | .int i => .int i
  | .nm s => .str s
  | .at t e => .tuple [.str "at", .str t, e.d]
  | .un op e => .tuple [.str op, e.d]
  | .bin op a b => .tuple [.str op, a.d, b.d]
  | .kk op e n => .tuple [.str op, e.d, .int n]
  | .ite a b e => .tuple [.str "if", a.d, b.d, e.d]
def Ex.dep : Ex → Nat
  | .int _ | .nm _ => 0
  | .at _ e | .un _ e | .kk _ e _ => e.dep + 1
  | .bin _ a b => max a.dep b.dep + 1
  | .ite a b e => max a.dep (max b.dep e.dep) + 1
def bins : List Str := ["+", "-", "*", "least", "most", "=", "<", "<=", "and", "or"]
def uns : List Str := ["not", "neg"]
def kks : List Str := ["div", "mod"]
/-- an expression that fits the rows -/
def Fit (rs : List Row) : Ex → Prop
  | .int i => -1000000 ≤ i ∧ i ≤ 1000000
  | .nm s => ∃ r ∈ rs, r.1 = s ∧ r.2.1 = 0
  | .at t e => (∃ r ∈ rs, r.1 = t ∧ 0 < r.2.1) ∧ Fit rs e
  | .un op e => op ∈ uns ∧ Fit rs e
  | .bin op a b => op ∈ bins ∧ Fit rs a ∧ Fit rs b
  | .kk op e n => op ∈ kks ∧ Fit rs e ∧ (1 ≤ n ∧ n ≤ 3)
  | .ite a b e => Fit rs a ∧ Fit rs b ∧ Fit rs e
/-- rows that drawing functions are given -/
structure RowsIn (rs : List Row) : Prop where
  len : rs.length ≤ 10
  nm : ∀ r ∈ rs, PyData.strOk r.1 = true
def preLeaf : List PyData → Prop := fun ds => ∃ rs, ds = [cellsD rs] ∧ RowsIn rs
def rLeaf : List PyData → PyData → Prop := fun ds d => ∃ rs e, ds = [cellsD rs] ∧ d = Ex.d e ∧ Fit rs e ∧ e.dep = 0
def plains (rs : List Row) : List Str := (rs.filter fun r => r.2.1 == 0).map nameOf
def gPlain : PyData → Option PyData
  | .tuple (n :: .int s :: _) => if s = 0 then some n else none
  | _ => none
theorem gPlain_all (rs : List Row) : (rs.map rowD).filterMap gPlain = (plains rs).map .str := by
  induction rs with
  | nil => rfl
  | cons r rs ih =>
    unfold plains at *
    rw [List.map_cons, List.filterMap_cons, List.filter_cons]
    have e : gPlain (rowD r) = if ((r.2.1 : Nat) : Int) = 0 then some (PyData.str r.1) else none := rfl
    rw [e]
    by_cases h : r.2.1 = 0
    · rw [if_pos (by omega), if_pos (by simpa using h), List.map_cons, List.map_cons, ← ih]; rfl
    · rw [if_neg (by omega), if_neg (by simpa using h), ← ih]
theorem plains_mem {rs : List Row} {s : Str} (h : s ∈ plains rs) : ∃ r ∈ rs, r.1 = s ∧ r.2.1 = 0 := by
  obtain ⟨r, hr, rfl⟩ := List.mem_map.mp h
  obtain ⟨h1, h2⟩ := List.mem_filter.mp hr
  exact ⟨r, h1, rfl, by simpa using h2⟩
theorem leafInt (w : Int) (h : w ∈ ([0, 1, 2, -1, 3, -2, 7, 1] : List Int)) : -1000000 ≤ w ∧ w ≤ 1000000 := by
  have : ∀ w ∈ ([0, 1, 2, -1, 3, -2, 7, 1] : List Int), -1000000 ≤ w ∧ w ≤ 1000000 := by decide
  exact this w h
theorem ok_leaf {f fd} (F : Fun M.K "_law_leaf" "_law_leaf" s__law_leaf f fd) (b : Bl M) (dd : Dc M "_law_draw" ["_law_feed_here", "_law_many"] 1 (spD preDraw rDraw M.K)) :
    FnG M.prog M.w M.K M.mg M.base CX0 2 f fd ["_law_feed_here", "_law_rows_here"] (spD preLeaf rLeaf M.K) := by
  refine fn_ok F sc__law_leaf (spD_len (n := 1) (by rintro ds ⟨_, rfl, _⟩; rfl)) (fun H vs Q E h => ?_)
  obtain ⟨fp, cl, rest, ds, rfl, hf, hds, ⟨rs, rfl, ri⟩, k⟩ := h
  obtain _ | ⟨hc, hds⟩ := hds
  cases hds
  refine b_cons (s_setLc (own := [("_law_own", 3)]) (by tm_at "at") (Blk.of (N := N__law_leaf) (sc := defScope s__law_leaf) rfl rfl (by decide +kernel)) ?_)
  refine lcT_F gPlain ?_
  tm_at "go"
  refine ⟨rs.map rowD, hc, by rw [List.length_map]; exact Nat.le_trans ri.len (show 10 ≤ 1000 by decide), fun d x H' hd s hx => ?_, fun l us H1 s1 n1 g1 h1 => ?_⟩
  · obtain ⟨r, hr, rfl⟩ := List.mem_map.mp hd
    refine g_name (by tm_at "at") ⟨rfl, rfl, ts_one ?_⟩
    tm_at "go"
    refine ⟨Same.refl _, ifd (fun c1 => ?_) (fun c1 => ?_)⟩
    · tm_at "go"
      exact ⟨Same.refl _, _, by show (if _ then _ else _) = _; rw [if_pos c1], .str _⟩
    · show (if _ then _ else _) = _
      rw [if_neg c1]
  rw [gPlain_all] at h1
  have hul := h1.len
  rw [List.length_map] at hul
  tm_at "go"
  refine e_lstD ?_
  tm_at "go"
  refine ⟨(Nat.le_of_ble_eq_true rfl), fun q0 H2 s2 n2 g2 => ?_⟩
  have f2 := (hf.same s1).same s2
  have k2 : Kp fp H H2 := kp_same (s1.trans s2)
  have nl : l ≠ fp := ne_feed hf (Same.refl _) n1
  refine ro_eqNil (n := 1) (s2 _ _ g1) (h1.mono (tp_same s2)) (fun d hd => ?_) (by decide) g2 ?_
  · obtain ⟨s, hs, rfl⟩ := List.mem_map.mp hd
    obtain ⟨r, hr, rfl, _⟩ := plains_mem hs
    exact shp_str (ri.nm r hr)
  refine ⟨_, rfl, ifb (fun e => ?_) (fun e => ?_)⟩
  · refine ift ?_
    tm_at "go"
    refine e_lstD ?_
    tm_at "go"
    refine ⟨(Nat.le_of_ble_eq_true rfl), fun lw H7 s7 n7 g7 => ?_⟩
    tm_at "go"
    refine e_draw dd ?_
    tm_at "go"
    refine ⟨fp, cl, _, rfl, rfl, by decide, f2.same s7, fun r8 H8 r80 r81 k8 f8 => ?_⟩
    have nw : lw ≠ fp := ne_feed f2 (Same.refl _) n7
    refine rx_pick (ds := ([0, 1, 2, -1, 3, -2, 7, 1] : List Int).map .int) (.of (k8.k _ _ nw g7)) (dtInts [0, 1, 2, -1, 3, -2, 7, 1]) r80 r81 fun v d hd hv => ?_
    rw [List.getElem?_map] at hd
    obtain ⟨wd, hw, rfl⟩ := Option.map_eq_some_iff.mp hd
    exact k _ _ _ ⟨rs, .int wd, rfl, rfl, leafInt wd (List.mem_of_getElem? hw), rfl⟩ (k2.trans ((kp_same s7).trans k8)) f8 hv
  · tm_at "go"
    refine e_draw dd ?_
    tm_at "go"
    refine ⟨fp, cl, _, rfl, rfl, by decide, f2, fun r3 H3 r30 r31 k3 f3 => ?_⟩
    tm_at "go"
    refine ifd (fun c1 => ?_) (fun c1 => ?_)
    · have k3' := k2.trans k3
      tm_at "go"
      refine e_lstD ?_
      tm_at "go"
      refine ⟨(Nat.le_of_ble_eq_true rfl), fun lw H7 s7 n7 g7 => ?_⟩
      tm_at "go"
      refine e_draw dd ?_
      tm_at "go"
      refine ⟨fp, cl, _, rfl, rfl, by decide, f3.same s7, fun r8 H8 r80 r81 k8 f8 => ?_⟩
      have nw : lw ≠ fp := ne_feed f3 (Same.refl _) n7
      refine rx_pick (ds := ([0, 1, 2, -1, 3, -2, 7, 1] : List Int).map .int) (.of (k8.k _ _ nw g7)) (dtInts [0, 1, 2, -1, 3, -2, 7, 1]) r80 r81 fun v d hd hv => ?_
      rw [List.getElem?_map] at hd
      obtain ⟨wd, hw, rfl⟩ := Option.map_eq_some_iff.mp hd
      exact k _ _ _ ⟨rs, .int wd, rfl, rfl, leafInt wd (List.mem_of_getElem? hw), rfl⟩ (k3'.trans ((kp_same s7).trans k8)) f8 hv
    · tm_at "go"
      have g3 := k3.k _ _ nl (s2 _ _ g1)
      refine e_draw dd ?_
      tm_at "go"
      refine rc_lenL (.of g3) ?_
      have hp : 0 < (plains rs).length := by
        cases hpl : plains rs with
        | nil => rw [hpl] at e; cases e
        | cons => exact Nat.succ_pos _
      have hp2 : (plains rs).length ≤ 10 := by
        unfold plains
        rw [List.length_map]
        exact Nat.le_trans (List.length_filter_le _ _) ri.len
      refine ⟨fp, cl, _, rfl, rfl, by omega, f3, fun r8 H8 r80 r81 k8 f8 => ?_⟩
      refine rx_pick (ds := (plains rs).map .str) (.of (k8.k _ _ nl g3)) (h1.mono ((tp_same s2).trans (k3.t.trans k8.t))) r80 (by rw [List.length_map]; omega) fun v d hd hv => ?_
      rw [List.getElem?_map] at hd
      obtain ⟨wd, hw, rfl⟩ := Option.map_eq_some_iff.mp hd
      exact k _ _ _ ⟨rs, .nm wd, rfl, rfl, plains_mem (List.mem_of_getElem? hw), rfl⟩ (k2.trans (k3.trans k8)) f8 hv
end K

namespace K
open PySem L2 G
variable {M : Md}
def plan0 : List (Key × V) := [(Sum.inr "at", .str "ne"), (Sum.inr "not", .str "e"), (Sum.inr "neg", .str "e"), (Sum.inr "div", .str "ek"), (Sum.inr "mod", .str "ek"), (Sum.inr "if", .str "eee")]
def planAt (i : Nat) : List (Key × V) := (bins.take i).foldl (fun kv w => putK kv (Sum.inr w) (.str "ee")) plan0
theorem plan_len : ∀ i < 11, (planAt i).length < 1000 := by decide +kernel
theorem plan_bin : ∀ w ∈ bins, valV (planAt 10) (Sum.inr w) = some (.str "ee") := by decide +kernel
theorem plan_un : ∀ w ∈ uns, valV (planAt 10) (Sum.inr w) = some (.str "e") := by decide +kernel
theorem plan_if : valV (planAt 10) (Sum.inr "if") = some (.str "eee") := by decide +kernel
def spPlans (_ : PySem.W.Frag) : Sp := fun vs H Q _ => vs = [] ∧ ∀ p H', Same H H' → H p = none → H' p = some (.dK (planAt 10)) → Q (.ref p) H'
theorem ok_plans {f fd} (F : Fun M.K "_law_plans" "_law_plans" s__law_plans f fd) (b : Bl M) : FnG M.prog M.w M.K M.mg M.base CX0 1 f fd [] (spPlans M.K) := by
  refine fn_ok F sc__law_plans (fun vs H Q E h => by rw [h.1]; rfl) (fun H vs Q E h => ?_)
  obtain ⟨rfl, k⟩ := h
  tm_at "go"
  refine e_disp (fun X h => pps_cons (pe_re h) (pe_re h) (pps_cons (pe_re h) (pe_re h) (pps_cons (pe_re h) (pe_re h) (pps_cons (pe_re h) (pe_re h) (pps_cons (pe_re h) (pe_re h) (pps_cons (pe_re h) (pe_re h) pps_nil)))))) rfl rfl (by intro e; cases e) (by decide) ?_
  intro p hp
  simp only [tPairs]
  tm_at "go"
  refine ⟨upd_same, plan0, rfl, by decide, ?_⟩
  rw [show mergeK [] plan0 = planAt 0 by decide +kernel]
  have s1 : Same H (upd (upd H p (.dK [])) p (.dK (planAt 0))) := same_mut (same_new hp) hp
  have g1 : (upd (upd H p (.dK [])) p (.dK (planAt 0))) p = _ := upd_same
  generalize upd (upd H p (.dK [])) p (.dK (planAt 0)) = H1 at *
  tm_at "go"
  refine s_forT ?_
  refine e_tupD ?_
  tm_at "go"
  refine tupend (ds := bins.map .str) (dtStrs bins) (Nat.le_of_ble_eq_true rfl) fun v H2 s2 hv => ?_
  obtain ⟨a, xs, rfl, hxs, hns⟩ := hv.tupE
  have hle := hns.len
  rw [List.length_map] at hle
  refine ⟨a, xs, rfl, hxs, fun i σ1 H' => ∃ v1, σ1 = [some (.ref p), v1] ∧ Same H H' ∧ Tp H2 H' ∧ H' p = some (.dK (planAt i)), ⟨_, rfl, s1.trans s2, Tp.refl _, s2 _ _ g1⟩, ?_, ?_, ?_⟩
  · rintro i σ' H' _ ⟨v1, rfl, s, t, g⟩
    exact t.sqt hxs
  · rintro i x σ' H' hx ⟨v1, rfl, s, t, g⟩
    have hi : i < 10 := by
      have := (List.getElem?_eq_some_iff.mp hx).1
      rw [hle] at this
      exact this
    obtain ⟨d, hd, hx'⟩ := hns.getV hx
    rw [List.getElem?_map] at hd
    obtain ⟨w, hw, rfl⟩ := Option.map_eq_some_iff.mp hd
    cases hx'
    refine g_name (by tm_at "at") ?_
    refine b_one (s_dput ?_)
    tm_at "go"
    refine ⟨p, _, rfl, DPut.k (k := Sum.inr w) g (Nat.lt_trans (plan_len i (by omega)) (by decide)), ?_⟩
    have e : putK (planAt i) (Sum.inr w) (.str "ee") = planAt (i + 1) := by
      obtain ⟨z1, z2⟩ := List.getElem?_eq_some_iff.mp hw
      unfold planAt
      rw [List.take_succ_eq_append_getElem z1, z2, List.foldl_append]
      rfl
    rw [e]
    have ku := kp_upd (o' := .dK (planAt (i + 1))) g (fun _ e => nomatch e) (fun _ _ e => nomatch e)
    exact ⟨_, rfl, same_mut s hp, t.trans ku.t, upd_same⟩
  · rintro σ' H' ⟨v1, rfl, s, t, g⟩
    rw [hle] at g
    tm_at "go"
    exact k p H' s hp g
end K

namespace K
open PySem L2 G
variable {M : Md}
def preForm (n : Nat) : List PyData → Prop := fun ds => ∃ (rs : List Row) (deep : Int), ds = [cellsD rs, .int deep] ∧ RowsIn rs ∧ deep ≤ n
def rForm : List PyData → PyData → Prop := fun ds d => ∃ (rs : List Row) (deep : Int) (e : Ex), ds = [cellsD rs, .int deep] ∧ d = e.d ∧ Fit rs e ∧ e.dep ≤ deep.toNat
def wordsL : List Str := ["+", "-", "*", "least", "most", "=", "<", "<=", "and", "or", "not", "neg", "div", "mod", "if", "at", "at", "+"]
def tabs (rs : List Row) : List Str := (rs.filter fun r => decide (0 < r.2.1)).map nameOf
def gTab : PyData → Option PyData
  | .tuple (n :: .int s :: _) => if 0 < s then some n else none
  | _ => none
theorem gTab_all (rs : List Row) : (rs.map rowD).filterMap gTab = (tabs rs).map .str := by
  induction rs with
  | nil => rfl
  | cons r rs ih =>
    unfold tabs at *
    rw [List.map_cons, List.filterMap_cons, List.filter_cons]
    have e : gTab (rowD r) = if 0 < ((r.2.1 : Nat) : Int) then some (PyData.str r.1) else none := rfl
    rw [e]
    by_cases h : 0 < r.2.1
    · rw [if_pos (by omega), if_pos (by simpa using h), List.map_cons, List.map_cons, ← ih]; rfl
    · rw [if_neg (by omega), if_neg (by simpa using h), ← ih]
theorem tabs_mem {rs : List Row} {s : Str} (h : s ∈ tabs rs) : ∃ r ∈ rs, r.1 = s ∧ 0 < r.2.1 := by
  obtain ⟨r, hr, rfl⟩ := List.mem_map.mp h
  obtain ⟨h1, h2⟩ := List.mem_filter.mp hr
  exact ⟨r, h1, rfl, by simpa using h2⟩
theorem rowD_inj {r r' : Row} (h : rowD r = rowD r') : r = r' := by
  obtain ⟨a, b, c, d, e, f, g⟩ := r
  obtain ⟨a', b', c', d', e', f', g'⟩ := r'
  unfold rowD at h
  simp only [PyData.tuple.injEq, List.cons.injEq, PyData.str.injEq, PyData.int.injEq, PyData.bool.injEq] at h
  obtain ⟨rfl, h2, rfl, rfl, rfl, rfl, rfl, _⟩ := h
  have : b = b' := by omega
  rw [this]
theorem cellsD_inj {rs rs' : List Row} (h : cellsD rs = cellsD rs') : rs = rs' := by
  unfold cellsD at h
  rw [PyData.tuple.injEq] at h
  induction rs generalizing rs' with
  | nil =>
    cases rs' with
    | nil => rfl
    | cons => cases h
  | cons r rs ih =>
    cases rs' with
    | nil => cases h
    | cons r' rs' =>
      rw [List.map_cons, List.map_cons, List.cons.injEq] at h
      rw [rowD_inj h.1, ih h.2]
theorem inS (w : Str) (l : List Str) : inV (.str w) (l.map .str) = decide (w ∈ l) := by
  unfold inV
  rw [Bool.eq_iff_iff, List.any_eq_true, decide_eq_true_iff]
  constructor
  · rintro ⟨y, hy, h⟩
    obtain ⟨z, hz, rfl⟩ := List.mem_map.mp hy
    have : z = w := by simpa [eqV] using h
    rw [← this]; exact hz
  · intro h
    exact ⟨.str w, List.mem_map.mpr ⟨w, h, rfl⟩, by simp [eqV]⟩
theorem flatS (l : List Str) : (l.map V.str).all flatV = true := by simp [flatV]
theorem dtStrs_eq {K : PySem.W.Frag} {H : Hp} : ∀ {ws : List Str} {xs : List V}, DtAll K H xs (ws.map .str) → xs = ws.map .str
  | [], _, h => by cases h; rfl
  | w :: ws, _, h => by
    cases h with
    | cons h1 h2 =>
      cases h1
      rw [dtStrs_eq h2, List.map_cons]
theorem ro_inST {c : Cd} {H : Hp} {Q : VK} {y : V} {w : Str} {ws : List Str} (hx : Dt c.K H y (.tuple (ws.map .str))) (q : Q (.bl (decide (w ∈ ws))) H) : RQ c .In (.str w) y H Q := by
  obtain ⟨a, xs, rfl, ht, hd⟩ := hx.tupE
  obtain rfl := dtStrs_eq hd
  refine rq_of (r := rIn c.K false) (fun X h => by rw [← h.K]; exact op_in_seq) ⟨a, _, rfl, .inr ht, rfl, flatS ws, ?_⟩
  show Q (.bl (inV (.str w) (ws.map .str))) H
  rw [inS]
  exact q
theorem words_all : ∀ w ∈ wordsL, w = "at" ∨ w ∈ kks ∨ w ∈ bins ∨ w ∈ uns ∨ w = "if" := by decide +kernel
abbrev dcForm (M : Md) (m : Nat) : Prop := Dc M "_law_formula" ["_law_feed_here", "_law_rows_here", "_law_deep"] (m + 3) (spD (preForm m) rForm M.K)
set_option maxHeartbeats 2000000 in
theorem ok_form (n : Nat) {f fd} (F : Fun M.K "_law_formula" "_law_formula" s__law_formula f fd) (b : Bl M) (dd : Dc M "_law_draw" ["_law_feed_here", "_law_many"] 1 (spD preDraw rDraw M.K)) (dl : Dc M "_law_leaf" ["_law_feed_here", "_law_rows_here"] 2 (spD preLeaf rLeaf M.K)) (dp : Dc M "_law_plans" [] 1 (spPlans M.K)) (rec : ∀ m, n = m + 1 → dcForm M m) :
    FnG M.prog M.w M.K M.mg M.base CX0 (n + 3) f fd ["_law_feed_here", "_law_rows_here", "_law_deep"] (spD (preForm n) rForm M.K) := by
  refine fn_ok F sc__law_formula (spD_len (n := 2) (by rintro ds ⟨_, _, rfl, _⟩; rfl)) (fun H vs Q E h => ?_)
  obtain ⟨fp, cl, rest, ds, rfl, hf, hds, ⟨rs, deep, rfl, ri, hdeep⟩, k⟩ := h
  obtain _ | ⟨hc, hds⟩ := hds
  obtain _ | ⟨hdp, hds⟩ := hds
  cases hds
  cases hdp
  rename_i vr
  refine b_cut (fun σ1 H' => 1 ≤ deep ∧ Kp fp H H' ∧ Feed M.K H' fp cl ∧ σ1 = [some (.ref fp), some vr, some (.int deep), none, none, none, none, none]) ?_ ?_
  · tm_at "go"
    refine ifd (fun c1 => ?_) (fun c1 => ?_)
    · refine ift ?_
      tm_at "go"
      refine e_callD dl ?_
      tm_at "go"
      refine ⟨fp, cl, _, _, rfl, hf, by tm_at "dts", ⟨rs, rfl, ri⟩, ?_⟩
      rintro d v H1 ⟨rs', e, e1, rfl, fit, dep⟩ k1 f1 hv
      obtain rfl : rs = rs' := cellsD_inj (List.cons.inj e1).1
      exact k _ _ _ ⟨rs, deep, e, rfl, rfl, fit, by omega⟩ k1 f1 hv
    · tm_at "go"
      refine e_draw dd ?_
      tm_at "go"
      refine ⟨fp, cl, _, rfl, rfl, by decide, hf, fun r1 H1 r10 r11 k1 f1 => ?_⟩
      tm_at "go"
      refine ifd (fun c2 => ?_) (fun c2 => ?_)
      · tm_at "go"
        refine e_callD dl ?_
        tm_at "go"
        refine ⟨fp, cl, _, _, rfl, f1, by tm_at "dts", ⟨rs, rfl, ri⟩, ?_⟩
        rintro d v H2 ⟨rs', e, e1, rfl, fit, dep⟩ k2 f2 hv
        obtain rfl : rs = rs' := cellsD_inj (List.cons.inj e1).1
        exact k _ _ _ ⟨rs, deep, e, rfl, rfl, fit, by omega⟩ (k1.trans k2) f2 hv
      · tm_at "go"
        exact ⟨by omega, k1, f1, rfl⟩
  rintro _ H1 ⟨hd1, k1, f1, rfl⟩
  obtain ⟨m, rfl⟩ : ∃ m, n = m + 1 := ⟨n - 1, by omega⟩
  have dr := rec m rfl
  have prim : preForm m [cellsD rs, .int (deep - 1)] := ⟨rs, deep - 1, rfl, ri, by omega⟩
  tm_at "go"
  refine e_lstD ?_
  tm_at "go"
  refine ⟨(Nat.le_of_ble_eq_true rfl), fun l2 H2 s2 n2 g2 => ?_⟩
  have nl2 : l2 ≠ fp := ne_feed f1 (Same.refl _) n2
  tm_at "go"
  refine s_expr ?_
  refine e_ext ?_
  tm_at "go"
  refine ⟨l2, _, rfl, g2, ?_⟩
  refine e_lstD ?_
  tm_at "go"
  refine ⟨(Nat.le_of_ble_eq_true rfl), fun l3 H3 s3 n3 g3 => ?_⟩
  refine ⟨l3, _, _, rfl, s3 _ _ g2, g3, (Nat.le_of_ble_eq_true rfl), ?_⟩
  have s4 : Same H1 (upd H3 l2 (.lst (wordsL.map .str))) := same_mut (s2.trans s3) n2
  have g4 : (upd H3 l2 (.lst (wordsL.map .str))) l2 = _ := upd_same
  show RB _ _ _ _ (upd H3 l2 (.lst (wordsL.map .str)))
  generalize upd H3 l2 (.lst (wordsL.map .str)) = H4 at *
  refine b_cut (fun σ1 H' => ∃ (w : Str) (l6 : Addr) (us : List V), w ∈ wordsL ∧ Kp fp H1 H' ∧ Feed M.K H' fp cl ∧ H' l6 = some (.lst us) ∧ DtAll M.K H' us ((tabs rs).map .str) ∧ l6 ≠ fp ∧ σ1 = [some (.ref fp), some vr, some (.int deep), some (.ref l2), some (.str w), some (.ref l6), none, none]) ?_ ?_
  · tm_at "go"
    refine e_draw dd ?_
    tm_at "go"
    refine ⟨fp, cl, _, rfl, rfl, by decide, f1.same s4, fun r5 H5 r50 r51 k5 f5 => ?_⟩
    have g5 := k5.k _ _ nl2 g4
    refine rx_pick (ds := wordsL.map .str) (.of g5) (dtStrs wordsL) r50 r51 fun v d hd hv => ?_
    rw [List.getElem?_map] at hd
    obtain ⟨w, hw, rfl⟩ := Option.map_eq_some_iff.mp hd
    cases hv
    refine e_lc (own := [("_law_own", 6)]) (Blk.of (N := N__law_formula) (sc := defScope s__law_formula) rfl rfl (by decide +kernel)) ?_
    refine lcT_F gTab ?_
    tm_at "go"
    refine ⟨rs.map rowD, hc.mono (k1.t.trans ((tp_same s4).trans k5.t)), by rw [List.length_map]; exact Nat.le_trans ri.len (show 10 ≤ 1000 by decide), fun d x H' hd s hx => ?_, fun l6 us H6 s6 n6 g6 h6 => ?_⟩
    · obtain ⟨r, hr, rfl⟩ := List.mem_map.mp hd
      refine g_name (by tm_at "at") ⟨rfl, rfl, ts_one ?_⟩
      tm_at "go"
      refine ⟨Same.refl _, ifd (fun c1 => ?_) (fun c1 => ?_)⟩
      · tm_at "go"
        exact ⟨Same.refl _, _, by show (if _ then _ else _) = _; rw [if_pos c1], .str _⟩
      · show (if _ then _ else _) = _
        rw [if_neg c1]
    rw [gTab_all] at h6
    exact ⟨w, l6, us, List.mem_of_getElem? hw, (kp_same s4).trans (k5.trans (kp_same s6)), f5.same s6, g6, h6, ne_feed f5 (Same.refl _) n6, rfl⟩
  rintro _ H5 ⟨w, l6, us, hw, k5, f5, g6, h6, nl6, rfl⟩
  have k15 := k1.trans k5
  tm_at "go"
  refine ifd (fun c1 => ?_) (fun c1 => ?_)
  · subst c1
    refine b_cut (fun σ1 H' => 0 < (tabs rs).length ∧ Same H5 H' ∧ σ1 = [some (.ref fp), some vr, some (.int deep), some (.ref l2), some (.str "at"), some (.ref l6), none, none]) ?_ ?_
    · tm_at "go"
      refine e_lstD ?_
      tm_at "go"
      refine ⟨(Nat.le_of_ble_eq_true rfl), fun q0 H7 s7 n7 g7 => ?_⟩
      refine ro_eqNil (n := 1) (s7 _ _ g6) (h6.mono (tp_same s7)) (fun d hd => ?_) (by decide) g7 ?_
      · obtain ⟨s, hs, rfl⟩ := List.mem_map.mp hd
        obtain ⟨r, hr, rfl, _⟩ := tabs_mem hs
        exact shp_str (ri.nm r hr)
      refine ⟨_, rfl, ifb (fun e => ?_) (fun e => ?_)⟩
      · tm_at "go"
        refine e_callD dl ?_
        tm_at "go"
        refine ⟨fp, cl, _, _, rfl, f5.same s7, .cons (hc.mono (k15.t.trans (tp_same s7))) .nil, ⟨rs, rfl, ri⟩, ?_⟩
        rintro d v H8 ⟨rs', e, e1, rfl, fit, dep⟩ k8 f8 hv
        obtain rfl : rs = rs' := cellsD_inj (List.cons.inj e1).1
        exact k _ _ _ ⟨rs, deep, e, rfl, rfl, fit, by omega⟩ (k15.trans ((kp_same s7).trans k8)) f8 hv
      · tm_at "go"
        refine ⟨?_, s7, rfl⟩
        cases hpl : tabs rs with
        | nil => rw [hpl] at e; cases e
        | cons => exact Nat.succ_pos _
    rintro _ H7 ⟨hp, s7, rfl⟩
    tm_at "go"
    refine e_tupD ?_
    tm_at "go"
    refine rx_pick (ds := (tabs rs).map .str) (.of (s7 _ _ g6)) (h6.mono (tp_same s7)) (by decide) (by rw [List.length_map]; omega) fun v d hd hv => ?_
    rw [List.getElem?_map] at hd
    obtain ⟨tn, htn, rfl⟩ := Option.map_eq_some_iff.mp hd
    cases hv
    tm_at "go"
    refine e_callD dr ?_ (Nat.le_refl _)
    tm_at "go"
    refine ⟨fp, cl, _, _, rfl, f5.same s7, .cons (hc.mono (k15.t.trans (tp_same s7))) (.cons (.int _) .nil), prim, ?_⟩
    rintro d v H8 ⟨rs', deep', e, e1, rfl, fit, dep⟩ k8 f8 hv
    obtain rfl : rs = rs' := cellsD_inj (List.cons.inj e1).1
    obtain rfl : deep - 1 = deep' := PyData.int.inj (List.cons.inj (List.cons.inj e1).2).1
    tm_at "go"
    refine tupend (ds := [.str "at", .str tn, e.d]) (.cons (.str _) (.cons (.str _) (.cons hv .nil))) (Nat.le_of_ble_eq_true rfl) fun v9 H9 s9 h9 => ?_
    exact k _ _ _ ⟨rs, deep, .at tn e, rfl, rfl, ⟨tabs_mem (List.mem_of_getElem? htn), fit⟩, by show e.dep + 1 ≤ _; omega⟩ (k15.trans ((kp_same s7).trans (k8.trans (kp_same s9)))) (f8.same s9) h9
  tm_at "go"
  refine e_tupD ?_
  tm_at "go"
  refine tupend (ds := kks.map .str) (dtStrs kks) (Nat.le_of_ble_eq_true rfl) fun v6 H6 s6 hv6 => ?_
  refine ro_inST hv6 ?_
  refine ⟨_, rfl, ifd (fun c2 => ?_) (fun c2 => ?_)⟩
  · tm_at "go"
    refine e_tupD ?_
    tm_at "go"
    refine e_callD dr ?_ (Nat.le_refl _)
    tm_at "go"
    refine ⟨fp, cl, _, _, rfl, f5.same s6, .cons (hc.mono (k15.t.trans (tp_same s6))) (.cons (.int _) .nil), prim, ?_⟩
    rintro d v H8 ⟨rs', deep', e, e1, rfl, fit, dep⟩ k8 f8 hv
    obtain rfl : rs = rs' := cellsD_inj (List.cons.inj e1).1
    obtain rfl : deep - 1 = deep' := PyData.int.inj (List.cons.inj (List.cons.inj e1).2).1
    tm_at "go"
    refine e_draw dd ?_
    tm_at "go"
    refine ⟨fp, cl, _, rfl, rfl, by decide, f8, fun r9 H9 r90 r91 k9 f9 => ?_⟩
    tm_at "go"
    refine tupend (ds := [.str w, e.d, .int (1 + r9)]) (.cons (.str _) (.cons (hv.mono k9.t) (.cons (.int _) .nil))) (Nat.le_of_ble_eq_true rfl) fun v10 H10 s10 h10 => ?_
    exact k _ _ _ ⟨rs, deep, .kk w e (1 + r9), rfl, rfl, ⟨c2, fit, by omega⟩, by show e.dep + 1 ≤ _; omega⟩ (k15.trans ((kp_same s6).trans (k8.trans (k9.trans (kp_same s10))))) (f9.same s10) h10
  tm_at "go"
  refine e_tupD ?_
  tm_at "go"
  refine tupend (ds := [.str w]) (by tm_at "dts") (Nat.le_of_ble_eq_true rfl) fun v7 H7 s7 hv7 => ?_
  tm_at "go"
  have s57 := s6.trans s7
  refine e_lc (own := [("_law_way", 7)]) (Blk.of (N := N__law_formula) (sc := defScope s__law_formula) rfl rfl (by decide +kernel)) ?_
  obtain ⟨pl, hpl, hps, hend⟩ : ∃ pl : Str, valV (planAt 10) (Sum.inr w) = some (.str pl) ∧ pl.cps.size ≤ 1000 ∧ ∀ es : List Ex, es.length = pl.cps.size → (∀ e ∈ es, Fit rs e ∧ e.dep ≤ (deep - 1).toNat) → ∃ e : Ex, e.d = .tuple (.str w :: es.map Ex.d) ∧ Fit rs e ∧ e.dep ≤ deep.toNat := by
    have ex0 : ∀ es : List Ex, es.length = 1 → ∃ a, es = [a] := fun es h => by
      match es, h with
      | [a], _ => exact ⟨a, rfl⟩
    have ex1 : ∀ es : List Ex, es.length = 2 → ∃ a b, es = [a, b] := fun es h => by
      match es, h with
      | [a, b], _ => exact ⟨a, b, rfl⟩
    have ex2 : ∀ es : List Ex, es.length = 3 → ∃ a b c, es = [a, b, c] := fun es h => by
      match es, h with
      | [a, b, c], _ => exact ⟨a, b, c, rfl⟩
    rcases words_all w hw with h | h | h | h | h
    · exact absurd h c1
    · exact absurd h c2
    · refine ⟨"ee", plan_bin w h, by decide, fun es hl he => ?_⟩
      obtain ⟨a, b, rfl⟩ := ex1 es hl
      have ha := he a (by simp)
      have hb := he b (by simp)
      exact ⟨.bin w a b, rfl, ⟨h, ha.1, hb.1⟩, by show max a.dep b.dep + 1 ≤ _; omega⟩
    · refine ⟨"e", plan_un w h, by decide, fun es hl he => ?_⟩
      obtain ⟨a, rfl⟩ := ex0 es hl
      have ha := he a (by simp)
      exact ⟨.un w a, rfl, ⟨h, ha.1⟩, by show a.dep + 1 ≤ _; omega⟩
    · subst h
      refine ⟨"eee", plan_if, by decide, fun es hl he => ?_⟩
      obtain ⟨a, b, d, rfl⟩ := ex2 es hl
      have ha := he a (by simp)
      have hb := he b (by simp)
      have hd := he d (by simp)
      exact ⟨.ite a b d, rfl, ⟨ha.1, hb.1, hd.1⟩, by show max a.dep (max b.dep d.dep) + 1 ≤ _; omega⟩
  refine lc_S ?_
  refine e_dgetK ?_
  refine e_call0 dp ?_
  refine ⟨rfl, fun pd H8 s8 n8 g8 => ?_⟩
  tm_at "go"
  refine ⟨pd, _, Sum.inr w, _, rfl, g8, rfl, hpl, ?_⟩
  refine ⟨pl, rfl, hps, fun D hD => ?_⟩
  have f8 := f5.same (s57.trans s8)
  have nD : D ≠ fp := ne_feed f8 (Same.refl _) hD
  refine ⟨fun i acc H' => ∃ es : List Ex, acc.length ≤ i ∧ es.length = i ∧ Kp fp H H' ∧ Kp fp H7 H' ∧ Feed M.K H' fp cl ∧ H' D = some (.lst acc) ∧ DtAll M.K H' acc (es.map Ex.d) ∧ ∀ e ∈ es, Fit rs e ∧ e.dep ≤ (deep - 1).toNat, ?_, ?_, ?_, ?_⟩
  · have kH8 : Kp fp H _ := k15.trans (kp_same (s57.trans s8))
    exact ⟨[], Nat.le_refl _, rfl, kp_mut kH8 (kp_none kH8 hD nD), kp_mut (kp_same s8) (same_none s8 hD), f8.upd nD (ne_cl f8 (Same.refl _) hD), upd_same, .nil, fun _ h => nomatch h⟩
  · rintro i acc H' ⟨es, h, _⟩
    exact h
  · rintro i ch acc H9 hi ⟨es, hl, hle, kH, k7, f9, g9, h9, he⟩
    refine g_name (by tm_at "at") ⟨rfl, ts_nil (ift ?_)⟩
    tm_at "go"
    refine e_callD dr ?_ (Nat.le_refl _)
    tm_at "go"
    refine ⟨fp, cl, _, _, rfl, f9, .cons (hc.mono kH.t) (.cons (.int _) .nil), prim, ?_⟩
    rintro d v H10 ⟨rs', deep', e, e1, rfl, fit, dep⟩ k10 f10 hv
    obtain rfl : rs = rs' := cellsD_inj (List.cons.inj e1).1
    obtain rfl : deep - 1 = deep' := PyData.int.inj (List.cons.inj (List.cons.inj e1).2).1
    have g10 := k10.k _ _ nD g9
    have kH8 : Kp fp H _ := k15.trans (kp_same (s57.trans s8))
    have ku := kp_upd (o' := .lst (acc ++ [v])) g10 (fun _ e => nomatch e) (fun _ _ e => nomatch e)
    refine ⟨g10, es ++ [e], by rw [List.length_append]; exact Nat.succ_le_succ hl, by rw [List.length_append, hle]; rfl, kp_mut (kH.trans k10) (kp_none kH8 hD nD), kp_mut (k7.trans k10) (same_none s8 hD), f10.upd nD (ne_cl f8 (Same.refl _) hD), upd_same, ?_, ?_⟩
    · rw [List.map_append]
      exact (h9.mono (k10.t.trans ku.t)).app (.cons (hv.mono ku.t) .nil)
    · intro e' he'
      rcases List.mem_append.mp he' with he' | he'
      · exact he e' he'
      · rw [List.mem_singleton.mp he']
        exact ⟨fit, dep⟩
  · rintro acc H9 ⟨es, hl, hle, kH, k7, f9, g9, h9, he⟩
    obtain ⟨e, hed, fit, dep⟩ := hend es hle he
    tm_at "go"
    refine rc_tupL (.of g9) h9 fun v10 H10 s10 h10 => ?_
    refine ro_catT (hv7.mono (k7.t.trans (tp_same s10))) h10 (by rw [List.length_map, hle]; exact Nat.le_trans (Nat.add_le_add_left hps 1) (by decide)) fun v11 H11 s11 h11 => ?_
    exact k _ _ _ ⟨rs, deep, e, rfl, hed.symm, fit, dep⟩ (kH.trans (kp_same (s10.trans s11))) (f9.same (s10.trans s11)) h11
end K

namespace K
open PySem L2 G
variable {M : Md}
inductive Tg where
  | nm (s : Str) | at (t : Str) (e : Ex)
def Tg.d : Tg → PyData
  | .nm s => .str s
  | .at t e => .tuple [.str t, e.d]
def FitT (rs : List Row) : Tg → Prop
  | .nm s => ∃ r ∈ rs, r.1 = s ∧ r.2.1 = 0
  | .at t e => (∃ r ∈ rs, r.1 = t ∧ 0 < r.2.1) ∧ Fit rs e ∧ e.dep ≤ 2
structure Rl where
  name : Str
  guard : Ex
  as : List (Tg × Ex)
def asD (p : Tg × Ex) : PyData := .tuple [p.1.d, p.2.d]
def Rl.d (r : Rl) : PyData := .tuple [.str r.name, r.guard.d, .tuple (r.as.map asD)]
structure FitR (rs : List Row) (r : Rl) : Prop where
  nm : PyData.strOk r.name = true
  guard : Fit rs r.guard ∧ r.guard.dep ≤ 4
  len : r.as.length ≤ 10
  ne : r.as ≠ []
  as : ∀ p ∈ r.as, FitT rs p.1 ∧ Fit rs p.2 ∧ p.2.dep ≤ 2
def preGoal : List PyData → Prop := fun ds => ∃ (rs : List Row), ds = [cellsD rs] ∧ RowsIn rs ∧ 0 < rs.length
def rGoal : List PyData → PyData → Prop := fun ds d => ∃ (rs : List Row) (t : Tg), ds = [cellsD rs] ∧ d = t.d ∧ FitT rs t
def preRule : List PyData → Prop := fun ds => ∃ (rs : List Row) (nm : Str), ds = [cellsD rs, .str nm] ∧ RowsIn rs ∧ 0 < rs.length ∧ PyData.strOk nm = true
def rRule : List PyData → PyData → Prop := fun ds d => ∃ (rs : List Row) (nm : Str) (r : Rl), ds = [cellsD rs, .str nm] ∧ d = r.d ∧ FitR rs r
end K

namespace K
open PySem L2 G
variable {M : Md}
/-! ### the meaning of expressions -/
def gt (st : St1) (j : Int) : Int := st.getD j.toNat 0
def b2 (p : Prop) [Decidable p] : Int := if p then 1 else 0
def un1 (op : Str) (v : Int) : Int := if op = "not" then b2 (v = 0) else -v
def cmp2 (op : Str) (a b : Int) : Bool := if op = "=" then decide (a = b) else if op = "<" then decide (a < b) else decide (a ≤ b)
def bin2 (op : Str) (a b : Int) : Int := if op = "+" then a + b else if op = "-" then a - b else if op = "*" then a * b else if op = "div" then a / b else if op = "mod" then a % b else
  if op = "least" then (if b < a then b else a) else if op = "most" then (if b > a then b else a) else if cmp2 op a b = true then 1 else 0
def ix (rs : List Row) (s : Str) : Int := (fIdx rs s none 0).getD 0
abbrev Res := Option Int × List Int
def thn1 (r : Res) (g : Int → Res) : Res := match r.1 with
  | none => (none, r.2)
  | some v => ((g v).1, r.2 ++ (g v).2)
def keyed (rs : List Row) (t : Str) (r : Res) : Res := match r.1 with
  | none => (none, r.2)
  | some v => (fIdx rs t (some v) 0, r.2)
def isLazy (op : Str) : Bool := decide (op = "and") || decide (op = "or")
def ev (rs : List Row) (st : St1) : Ex → Res
  | .int i => (some i, [])
  | .nm s => (some (gt st (ix rs s)), [ix rs s])
  | .at t e => thn1 (keyed rs t (ev rs st e)) fun j => (some (gt st j), [j])
  | .un op e => thn1 (ev rs st e) fun v => (some (un1 op v), [])
  | .bin op a b => if isLazy op = true then thn1 (ev rs st a) fun v => if decide (v ≠ 0) = decide (op = "or") then (some (b2 (v ≠ 0)), []) else thn1 (ev rs st b) fun w => (some (b2 (w ≠ 0)), [])
    else thn1 (ev rs st a) fun v => thn1 (ev rs st b) fun w => (some (bin2 op v w), [])
  | .kk op e n => thn1 (ev rs st e) fun v => (some (bin2 op v n), [])
  | .ite a b e => thn1 (ev rs st a) fun v => if v ≠ 0 then ev rs st b else ev rs st e
def resD (r : Res) : PyData := .tuple [optD r.1, .tuple (r.2.map .int)]
structure StOk (rs : List Row) (st : St1) : Prop where
  len : st.length = total rs
  val : ∀ v ∈ st, -10 ≤ v ∧ v ≤ 10
  tot : total rs ≤ 10
  nd : (rs.map nameOf).Nodup
  ri : RowsIn rs
  rng : ∀ (i : Nat) (r : Rng), (rg rs)[i]? = some r → r.1 ≤ gt st i ∧ gt st i ≤ r.2
theorem fIdx_in : ∀ {rs : List Row} {s : Str} {key : Option Int} {b j : Int}, fIdx rs s key b = some j → b ≤ j ∧ j < b + total rs
  | [], _, _, _, _, h => by cases h
  | r :: rs, s, key, b, j, h => by
    have e : total (r :: rs) = width r + total rs := by simp [total]
    have w1 : 1 ≤ width r := Nat.le_max_left _ _
    have w2 : r.2.1 ≤ width r := Nat.le_max_right _ _
    unfold fIdx at h
    split at h
    · cases key with
      | none =>
        rw [hit] at h
        split at h
        · cases h; omega
        · cases h
      | some k =>
        rw [hit] at h
        split at h
        · cases h; omega
        · cases h
    · have := fIdx_in h
      omega
theorem fIdx_plain : ∀ {rs : List Row} {s : Str} (b : Int), (rs.map nameOf).Nodup → (∃ r ∈ rs, r.1 = s ∧ r.2.1 = 0) → ∃ j, fIdx rs s none b = some j
  | [], _, _, _, h => by obtain ⟨r, hr, _⟩ := h; cases hr
  | r :: rs, s, b, nd, h => by
    rw [List.map_cons, List.nodup_cons] at nd
    unfold fIdx
    by_cases e : r.1 = s
    · rw [if_pos e]
      obtain ⟨r', hr', e', z'⟩ := h
      rcases List.mem_cons.mp hr' with rfl | hm
      · refine ⟨b, ?_⟩
        rw [hit]
        rw [if_pos (by omega)]
      · exact absurd (List.mem_map.mpr ⟨r', hm, show nameOf r' = nameOf r from e'.trans e.symm⟩) nd.1
    · rw [if_neg e]
      refine fIdx_plain _ nd.2 ?_
      obtain ⟨r', hr', e', z'⟩ := h
      rcases List.mem_cons.mp hr' with rfl | hm
      · exact absurd e' e
      · exact ⟨r', hm, e', z'⟩
theorem ix_ok {rs : List Row} {s : Str} (nd : (rs.map nameOf).Nodup) (h : ∃ r ∈ rs, r.1 = s ∧ r.2.1 = 0) : fIdx rs s none 0 = some (ix rs s) ∧ 0 ≤ ix rs s ∧ ix rs s < total rs := by
  obtain ⟨j, hj⟩ := fIdx_plain 0 nd h
  have e : ix rs s = j := by unfold ix; rw [hj]; rfl
  have := fIdx_in hj
  rw [e]
  exact ⟨hj, by omega, by omega⟩
theorem gt_at {rs : List Row} {st : St1} (S : StOk rs st) {j : Int} (h0 : 0 ≤ j) (h1 : j < total rs) : atI (st.map PyData.int) j = some (.int (gt st j)) := by
  have hl := S.len
  have hlt : j.toNat < st.length := by omega
  refine pl_at (j := j.toNat) (by omega) ?_
  rw [List.getElem?_map, List.getElem?_eq_getElem hlt]
  unfold gt
  rw [List.getD_eq_getElem?_getD, List.getElem?_eq_getElem hlt]
  rfl
theorem gt_val {rs : List Row} {st : St1} (S : StOk rs st) (j : Int) : -10 ≤ gt st j ∧ gt st j ≤ 10 := by
  unfold gt
  rw [List.getD_eq_getElem?_getD]
  cases e : st[j.toNat]? with
  | none => exact ⟨by decide, by decide⟩
  | some v => exact S.val v (List.mem_of_getElem? e)
theorem thn1_some {r : Res} {g : Int → Res} {w : Int} (h : (thn1 r g).1 = some w) : ∃ v, r.1 = some v ∧ (g v).1 = some w := by
  unfold thn1 at h
  cases e : r.1 with
  | none => rw [e] at h; cases h
  | some v => rw [e] at h; exact ⟨v, rfl, h⟩
def Bd : Nat → Nat
  | 0 => 1000000
  | n + 1 => Bd n * Bd n
theorem Bd_ge : ∀ n, 1000000 ≤ Bd n
  | 0 => Nat.le_refl _
  | n + 1 => Nat.le_trans (Bd_ge n) (Nat.le_mul_of_pos_left _ (Nat.lt_of_lt_of_le (by decide) (Bd_ge n)))
theorem Bd_two (n : Nat) : 2 * Bd n ≤ Bd (n + 1) := Nat.mul_le_mul_right _ (Nat.le_trans (by decide) (Bd_ge n))
theorem Bd_up (n : Nat) : Bd n ≤ Bd (n + 1) := by have := Bd_two n; omega
theorem un1_b {op : Str} {v : Int} {n : Nat} (h : v.natAbs ≤ Bd n) : (un1 op v).natAbs ≤ Bd (n + 1) := by
  have h1 := Bd_up n
  have h2 := Bd_ge n
  unfold un1 b2
  split
  · split <;> simp <;> omega
  · rw [Int.natAbs_neg]; omega
theorem bin2_b {op : Str} {a b : Int} {n : Nat} (ha : a.natAbs ≤ Bd n) (hb : b.natAbs ≤ Bd n) (hd : op = "div" ∨ op = "mod" → 1 ≤ b) : (bin2 op a b).natAbs ≤ Bd (n + 1) := by
  have h1 := Bd_two n
  have h2 := Bd_ge n
  unfold bin2
  split
  · omega
  split
  · omega
  split
  · rw [Int.natAbs_mul]; exact Nat.mul_le_mul ha hb
  split
  · rename_i h
    have hb1 := hd (.inl h)
    have : (a / b).natAbs ≤ a.natAbs := Int.natAbs_ediv_le_natAbs a b
    omega
  split
  · rename_i h
    have hb1 := hd (.inr h)
    have q1 := Int.emod_nonneg a (show b ≠ 0 by omega)
    have q2 := Int.emod_lt_of_pos a (show 0 < b by omega)
    omega
  split
  · split <;> omega
  split
  · split <;> omega
  split <;> simp <;> omega
theorem thn1_len {r : Res} {g : Int → Res} {a b : Nat} (h : r.2.length ≤ a) (h2 : ∀ v, r.1 = some v → (g v).2.length ≤ b) : (thn1 r g).2.length ≤ a + b := by
  unfold thn1
  cases e : r.1 with
  | none => simp; omega
  | some v => have := h2 v e; simp; omega
theorem kind_bin {op : Str} (h : op ∈ bins) : op ≠ "div" ∧ op ≠ "mod" := by
  have : ∀ op ∈ bins, op ≠ "div" ∧ op ≠ "mod" := by decide +kernel
  exact this op h
theorem b2_b (p : Prop) [Decidable p] (n : Nat) : (b2 p).natAbs ≤ Bd n := by
  have := Bd_ge n
  unfold b2
  split <;> simp <;> omega
theorem Bd_mono {m n : Nat} (h : m ≤ n) : Bd m ≤ Bd n := by
  induction h with
  | refl => exact Nat.le_refl _
  | step _ ih => exact Nat.le_trans ih (Bd_up _)
theorem evB {rs : List Row} {st : St1} (S : StOk rs st) : ∀ (e : Ex) (n : Nat) (v : Int), e.dep ≤ n → Fit rs e → (ev rs st e).1 = some v → v.natAbs ≤ Bd n
  | .int i, n, v, _, hf, h => by
    have h2 := Bd_ge n
    unfold ev at h
    cases h
    unfold Fit at hf
    omega
  | .nm s, n, v, _, hf, h => by
    have h2 := Bd_ge n
    unfold ev at h
    cases h
    have := gt_val S (ix rs s)
    omega
  | .at t e, n, v, hn, hf, h => by
    have h2 := Bd_ge n
    unfold ev at h
    obtain ⟨j, _, h3⟩ := thn1_some h
    cases h3
    have := gt_val S j
    omega
  | .un op e, n, v, hn, hf, h => by
    unfold Ex.dep at hn
    obtain ⟨m, rfl⟩ : ∃ m, n = m + 1 := ⟨n - 1, by omega⟩
    unfold ev at h
    obtain ⟨w, h3, h4⟩ := thn1_some h
    cases h4
    exact un1_b (evB S e m w (by omega) hf.2 h3)
  | .bin op a b, n, v, hn, hf, h => by
    unfold Ex.dep at hn
    obtain ⟨m, rfl⟩ : ∃ m, n = m + 1 := ⟨n - 1, by omega⟩
    unfold ev at h
    split at h
    · obtain ⟨w, h3, h4⟩ := thn1_some h
      split at h4
      · cases h4; exact b2_b _ _
      · obtain ⟨w2, h5, h6⟩ := thn1_some h4
        cases h6; exact b2_b _ _
    · obtain ⟨w, h3, h4⟩ := thn1_some h
      obtain ⟨w2, h5, h6⟩ := thn1_some h4
      cases h6
      exact bin2_b (evB S a m w (by omega) hf.2.1 h3) (evB S b m w2 (by omega) hf.2.2 h5) (fun z => z.elim (fun z => absurd z (kind_bin hf.1).1) (fun z => absurd z (kind_bin hf.1).2))
  | .kk op e k, n, v, hn, hf, h => by
    unfold Ex.dep at hn
    obtain ⟨m, rfl⟩ : ∃ m, n = m + 1 := ⟨n - 1, by omega⟩
    unfold ev at h
    obtain ⟨w, h3, h4⟩ := thn1_some h
    cases h4
    have h2 := Bd_ge m
    have h5 := hf.2.2
    exact bin2_b (evB S e m w (by omega) hf.2.1 h3) (by omega) (fun _ => h5.1)
  | .ite a b e, n, v, hn, hf, h => by
    unfold Ex.dep at hn
    obtain ⟨m, rfl⟩ : ∃ m, n = m + 1 := ⟨n - 1, by omega⟩
    unfold ev at h
    obtain ⟨w, h3, h4⟩ := thn1_some h
    have h2 := Bd_up m
    split at h4
    · exact Nat.le_trans (evB S b m v (by omega) hf.2.1 h4) h2
    · exact Nat.le_trans (evB S e m v (by omega) hf.2.2 h4) h2
theorem keyed_snd (rs : List Row) (t : Str) (r : Res) : (keyed rs t r).2 = r.2 := by
  unfold keyed
  split <;> rfl
theorem evL {rs : List Row} {st : St1} : ∀ (e : Ex) (n : Nat), e.dep ≤ n → (ev rs st e).2.length ≤ 2 ^ (n + 1)
  | .int i, n, _ => by unfold ev; exact Nat.zero_le _
  | .nm s, n, _ => by unfold ev; exact Nat.pos_of_ne_zero (by simp)
  | .at t e, n, hn => by
    unfold Ex.dep at hn
    obtain ⟨m, rfl⟩ : ∃ m, n = m + 1 := ⟨n - 1, by omega⟩
    have h1 := evL (rs := rs) (st := st) e m (by omega)
    have h2 : 0 < 2 ^ (m + 1) := Nat.pos_of_ne_zero (by simp)
    unfold ev
    rw [Nat.pow_succ, Nat.mul_two]
    exact thn1_len (by rw [keyed_snd]; exact h1) (fun v _ => h2)
  | .un op e, n, hn => by
    unfold Ex.dep at hn
    obtain ⟨m, rfl⟩ : ∃ m, n = m + 1 := ⟨n - 1, by omega⟩
    have h1 := evL (rs := rs) (st := st) e m (by omega)
    unfold ev
    rw [Nat.pow_succ, Nat.mul_two]
    exact thn1_len h1 (fun v _ => Nat.zero_le _)
  | .bin op a b, n, hn => by
    unfold Ex.dep at hn
    obtain ⟨m, rfl⟩ : ∃ m, n = m + 1 := ⟨n - 1, by omega⟩
    have h1 := evL (rs := rs) (st := st) a m (by omega)
    have h2 := evL (rs := rs) (st := st) b m (by omega)
    unfold ev
    rw [Nat.pow_succ, Nat.mul_two]
    split
    · refine thn1_len h1 fun v _ => ?_
      split
      · exact Nat.zero_le _
      · exact thn1_len (b := 0) h2 fun _ _ => Nat.le_refl _
    · refine thn1_len h1 fun v _ => ?_
      exact thn1_len (b := 0) h2 fun _ _ => Nat.le_refl _
  | .kk op e k, n, hn => by
    unfold Ex.dep at hn
    obtain ⟨m, rfl⟩ : ∃ m, n = m + 1 := ⟨n - 1, by omega⟩
    have h1 := evL (rs := rs) (st := st) e m (by omega)
    unfold ev
    rw [Nat.pow_succ, Nat.mul_two]
    exact thn1_len h1 (fun v _ => Nat.zero_le _)
  | .ite a b e, n, hn => by
    unfold Ex.dep at hn
    obtain ⟨m, rfl⟩ : ∃ m, n = m + 1 := ⟨n - 1, by omega⟩
    have h1 := evL (rs := rs) (st := st) a m (by omega)
    have h2 := evL (rs := rs) (st := st) b m (by omega)
    have h3 := evL (rs := rs) (st := st) e m (by omega)
    unfold ev
    rw [Nat.pow_succ, Nat.mul_two]
    refine thn1_len h1 fun v _ => ?_
    split
    · exact h2
    · exact h3
end K

namespace K
open PySem L2 G
variable {M : Md}
theorem dib {p : Prop} [Decidable p] : (if decide p = true then (1 : Int) else 0) = b2 p := by
  unfold b2
  by_cases h : p
  · rw [if_pos (decide_eq_true h), if_pos h]
  · rw [if_neg (by simp [h]), if_neg h]
def rIndex : List PyData → PyData → Prop := fun ds d => ∃ (rs : List Row) (s : Str) (j : Int), ds = [cellsD rs, .str s, .none] ∧ fIdx rs s none 0 = some j ∧ d = .int j
theorem ok_index {f fd} (F : Fun M.K "cell_index" "cell_index" s_cell_index f fd) (b : Bl M) (df : Dc M "found_index" ["cells", "name", "key"] 2 (spF rFound M.K)) : FnG M.prog M.w M.K M.mg M.base CX0 3 f fd ["cells", "name", "key"] (spF rIndex M.K) := by
  refine fn_ok F sc_cell_index (fun vs H Q E h => ?_) (fun H vs Q E h => ?_)
  · obtain ⟨ds, d, h, ⟨rs, s, j, rfl, _⟩, _⟩ := h
    exact h.len
  obtain ⟨ds, d, h, ⟨rs, s, j, rfl, hj, rfl⟩, k⟩ := h
  obtain _ | ⟨hc, h⟩ := h
  obtain _ | ⟨hs, h⟩ := h
  obtain _ | ⟨hn, h⟩ := h
  cases h
  cases hs
  cases hn
  tm_at "go"
  refine e_callF df ?_
  tm_at "go"
  refine ⟨_, _, .cons hc (.cons (.str _) (.cons .non .nil)), ⟨rs, s, none, rfl, rfl⟩, fun v H1 s1 hv => ?_⟩
  rw [hj] at hv
  cases hv
  tm_at "go"
  exact k _ _ s1 (.int _)
def isIntD : PyData → Bool
  | .int _ => true
  | _ => false
def plainD : PyData → Prop
  | .int _ | .str _ | .tuple _ => True
  | _ => False
theorem rc_isiD {c : Cd} {H : Hp} {Q : VK} {v : V} {x : PyData} (hp : plainD x) (hx : Dt c.K H v x) (q : Q (.bl (isIntD x)) H) : RC c (.builtin "isinstance") [v, .ty "int"] H Q := by
  cases x with
  | int i =>
    cases hx
    exact rc_isi (.base (.int i)) rfl q
  | str s =>
    cases hx
    exact rc_isi (.base (.str s)) rfl q
  | tuple ds =>
    obtain ⟨a, xs, rfl, ht, _⟩ := hx.tupE
    exact rc_isi (ty_tup ht) rfl q
  | none => exact hp.elim
  | bool => exact hp.elim
  | list => exact hp.elim
  | dict => exact hp.elim
def rOne : List PyData → PyData → Prop := fun ds d => ∃ (op : Str) (v : Int), ds = [.str op, .int v] ∧ d = .int (un1 op v)
theorem ok_one {f fd} (F : Fun M.K "_of_one" "_of_one" s__of_one f fd) (b : Bl M) : FnG M.prog M.w M.K M.mg M.base CX0 1 f fd ["op", "value"] (spF rOne M.K) := by
  refine fn_ok F sc__of_one (fun vs H Q E h => ?_) (fun H vs Q E h => ?_)
  · obtain ⟨ds, d, h, ⟨op, v, rfl, _⟩, _⟩ := h
    exact h.len
  obtain ⟨ds, d, h, ⟨op, v, rfl, rfl⟩, k⟩ := h
  obtain _ | ⟨h1, h⟩ := h
  obtain _ | ⟨h2, h⟩ := h
  cases h
  cases h1
  cases h2
  tm_at "go"
  refine ifd (fun c1 => ?_) (fun c1 => ?_)
  · tm_at "go"
    refine k _ _ (Same.refl _) ?_
    rw [un1, if_pos c1, dib]
    exact .int _
  · tm_at "go"
    refine k _ _ (Same.refl _) ?_
    rw [un1, if_neg c1]
    exact .int _
def rCmp : List PyData → PyData → Prop := fun ds d => ∃ (op : Str) (a b : Int), ds = [.str op, .int a, .int b] ∧ d = .bool (cmp2 op a b)
theorem ok_cmp {f fd} (F : Fun M.K "_compared" "_compared" s__compared f fd) (b : Bl M) : FnG M.prog M.w M.K M.mg M.base CX0 1 f fd ["op", "one", "other"] (spF rCmp M.K) := by
  refine fn_ok F sc__compared (fun vs H Q E h => ?_) (fun H vs Q E h => ?_)
  · obtain ⟨ds, d, h, ⟨op, v, w, rfl, _⟩, _⟩ := h
    exact h.len
  obtain ⟨ds, d, h, ⟨op, v, w, rfl, rfl⟩, k⟩ := h
  obtain _ | ⟨h1, h⟩ := h
  obtain _ | ⟨h2, h⟩ := h
  obtain _ | ⟨h3, h⟩ := h
  cases h
  cases h1
  cases h2
  cases h3
  tm_at "go"
  refine ifd (fun c1 => ?_) (fun c1 => ?_)
  · tm_at "go"
    refine k _ _ (Same.refl _) ?_
    rw [cmp2, if_pos c1]
    exact .bl _
  · tm_at "go"
    refine ifd (fun c2 => ?_) (fun c2 => ?_)
    · tm_at "go"
      refine k _ _ (Same.refl _) ?_
      rw [cmp2, if_neg c1, if_pos c2]
      exact .bl _
    · tm_at "go"
      refine k _ _ (Same.refl _) ?_
      rw [cmp2, if_neg c1, if_neg c2]
      exact .bl _
theorem ro_mulW {c : Cd} {H : Hp} {Q : VK} {i j : Int} (hc : CMulW i j) (q : Q (.int (i * j)) H) : RO c .Mult (.int i) (.int j) H Q := ro_of (fun _ _ => op_mulW) ⟨i, j, rfl, rfl, hc, q⟩
def rTwo : List PyData → PyData → Prop := fun ds d => ∃ (op : Str) (a b : Int), ds = [.str op, .int a, .int b] ∧ (a.natAbs < 2 ^ 400 ∧ b.natAbs < 2 ^ 400) ∧ (op = "div" ∨ op = "mod" → 1 ≤ b ∧ b < 1000) ∧ d = .int (bin2 op a b)
set_option maxHeartbeats 1000000 in
theorem ok_two {f fd} (F : Fun M.K "value_of_two" "value_of_two" s_value_of_two f fd) (b : Bl M) (dc : Dc M "_compared" ["op", "one", "other"] 1 (spF rCmp M.K)) : FnG M.prog M.w M.K M.mg M.base CX0 2 f fd ["op", "one", "other"] (spF rTwo M.K) := by
  refine fn_ok F sc_value_of_two (fun vs H Q E h => ?_) (fun H vs Q E h => ?_)
  · obtain ⟨ds, d, h, ⟨op, v, w, rfl, _⟩, _⟩ := h
    exact h.len
  obtain ⟨ds, d, h, ⟨op, x, y, rfl, hb, hdm, rfl⟩, k⟩ := h
  obtain _ | ⟨h1, h⟩ := h
  obtain _ | ⟨h2, h⟩ := h
  obtain _ | ⟨h3, h⟩ := h
  cases h
  cases h1
  cases h2
  cases h3
  tm_at "go"
  refine ifd (fun c1 => ?_) (fun c1 => ?_)
  · tm_at "go"
    refine k _ _ (Same.refl _) ?_
    rw [bin2, if_pos c1]
    exact .int _
  tm_at "go"
  refine ifd (fun c2 => ?_) (fun c2 => ?_)
  · tm_at "go"
    refine k _ _ (Same.refl _) ?_
    rw [bin2, if_neg c1, if_pos c2]
    exact .int _
  tm_at "go"
  refine ifd (fun c3 => ?_) (fun c3 => ?_)
  · tm_at "go"
    refine ro_mulW (wide_mul hb.1 hb.2 (by decide) (by decide) (by decide)) ?_
    refine k _ _ (Same.refl _) ?_
    rw [bin2, if_neg c1, if_neg c2, if_pos c3]
    exact .int _
  tm_at "go"
  refine ifd (fun c4 => ?_) (fun c4 => ?_)
  · tm_at "go"
    have := hdm (.inl c4)
    refine ro_div (by omega) (by omega) ?_
    refine k _ _ (Same.refl _) ?_
    rw [bin2, if_neg c1, if_neg c2, if_neg c3, if_pos c4]
    exact .int _
  tm_at "go"
  refine ifd (fun c5 => ?_) (fun c5 => ?_)
  · tm_at "go"
    have := hdm (.inr c5)
    refine ro_mod (by omega) ?_
    refine k _ _ (Same.refl _) ?_
    rw [bin2, if_neg c1, if_neg c2, if_neg c3, if_neg c4, if_pos c5]
    exact .int _
  tm_at "go"
  refine ifd (fun c6 => ?_) (fun c6 => ?_)
  · tm_at "go"
    refine k _ _ (Same.refl _) ?_
    rw [bin2, if_neg c1, if_neg c2, if_neg c3, if_neg c4, if_neg c5, if_pos c6]
    exact .int _
  tm_at "go"
  refine ifd (fun c7 => ?_) (fun c7 => ?_)
  · tm_at "go"
    refine k _ _ (Same.refl _) ?_
    rw [bin2, if_neg c1, if_neg c2, if_neg c3, if_neg c4, if_neg c5, if_neg c6, if_pos c7]
    exact .int _
  tm_at "go"
  refine e_callF dc ?_
  tm_at "go"
  refine ⟨_, _, .cons (.str _) (.cons (.int _) (.cons (.int _) .nil)), ⟨op, x, y, rfl, rfl⟩, fun v H1 s1 hv => ?_⟩
  cases hv
  tm_at "go"
  refine k _ _ s1 ?_
  rw [bin2, if_neg c1, if_neg c2, if_neg c3, if_neg c4, if_neg c5, if_neg c6, if_neg c7]
  exact .int _
end K

namespace K
open PySem L2 G
variable {M : Md}
/-- a value is small -/
def vOk (rs : List Row) (st : St1) (e : Ex) : Prop := ∀ v, (ev rs st e).1 = some v → v.natAbs < 2 ^ 400
def Vb (rs : List Row) (st : St1) : Ex → Prop
  | .int i => vOk rs st (.int i)
  | .nm s => vOk rs st (.nm s)
  | .at t e => vOk rs st (.at t e) ∧ Vb rs st e
  | .un op e => vOk rs st (.un op e) ∧ Vb rs st e
  | .kk op e n => vOk rs st (.kk op e n) ∧ Vb rs st e
  | .bin op a b => vOk rs st (.bin op a b) ∧ Vb rs st a ∧ Vb rs st b
  | .ite a b d => vOk rs st (.ite a b d) ∧ Vb rs st a ∧ Vb rs st b ∧ Vb rs st d
theorem Vb.own {rs : List Row} {st : St1} : ∀ {e : Ex}, Vb rs st e → vOk rs st e
  | .int _, h => h
  | .nm _, h => h
  | .at _ _, h => h.1
  | .un _ _, h => h.1
  | .kk _ _ _, h => h.1
  | .bin _ _ _, h => h.1
  | .ite _ _ _, h => h.1
theorem vb_int {rs : List Row} {st : St1} {i : Int} (h : -1000000 ≤ i ∧ i ≤ 1000000) : Vb rs st (.int i) := by
  intro v e
  unfold ev at e
  cases e
  exact Nat.lt_of_le_of_lt (show i.natAbs ≤ 1000000 by omega) (by decide)
theorem vOk_of {rs : List Row} {st : St1} (S : StOk rs st) {e : Ex} (f : Fit rs e) (d : e.dep ≤ 4) : vOk rs st e := fun v h => Nat.lt_of_le_of_lt (evB S e 4 v d f h) (by decide)
theorem vb_of {rs : List Row} {st : St1} (S : StOk rs st) : ∀ {e : Ex}, Fit rs e → e.dep ≤ 4 → Vb rs st e
  | .int _, f, d => vOk_of S f d
  | .nm _, f, d => vOk_of S f d
  | .at _ e, f, d => ⟨vOk_of S f d, vb_of S (e := e) f.2 (by unfold Ex.dep at d; omega)⟩
  | .un _ e, f, d => ⟨vOk_of S f d, vb_of S (e := e) f.2 (by unfold Ex.dep at d; omega)⟩
  | .kk _ e _, f, d => ⟨vOk_of S f d, vb_of S (e := e) f.2.1 (by unfold Ex.dep at d; omega)⟩
  | .bin _ a b, f, d => ⟨vOk_of S f d, vb_of S (e := a) f.2.1 (by unfold Ex.dep at d; omega), vb_of S (e := b) f.2.2 (by unfold Ex.dep at d; omega)⟩
  | .ite a b c, f, d => ⟨vOk_of S f d, vb_of S (e := a) f.1 (by unfold Ex.dep at d; omega), vb_of S (e := b) f.2.1 (by unfold Ex.dep at d; omega), vb_of S (e := c) f.2.2 (by unfold Ex.dep at d; omega)⟩
/-- what evaluated is given, and what it answers, to the depth n -/
structure EvIn (rs : List Row) (st : St1) (e : Ex) (n : Nat) : Prop where
  S : StOk rs st
  fit : Fit rs e
  dep : e.dep ≤ n
  n8 : n ≤ 8
  vb : Vb rs st e
def rEv (n : Nat) : List PyData → PyData → Prop := fun ds d => ∃ (rs : List Row) (st : St1) (e : Ex), ds = [cellsD rs, stD st, e.d] ∧ EvIn rs st e n ∧ d = resD (ev rs st e)
abbrev dcEv (M : Md) (n : Nat) : Prop := Dc M "evaluated" ["cells", "state", "expression"] (2 * n + 4) (spF (rEv n) M.K)
def rKey (n : Nat) : List PyData → PyData → Prop := fun ds d => ∃ (rs : List Row) (st : St1) (t : Str) (e : Ex), ds = [cellsD rs, stD st, .str t, e.d] ∧ EvIn rs st e n ∧ d = resD (keyed rs t (ev rs st e))
theorem Ex.plain (e : Ex) : plainD e.d := by cases e <;> trivial
theorem optN {K : PySem.W.Frag} {H : Hp} {v : V} {o : Option Int} (h : Dt K H v (optD o)) : (o = none ∧ v = .non) ∨ ∃ i, o = some i ∧ v = .int i := by
  cases o with
  | none => cases h; exact .inl ⟨rfl, rfl⟩
  | some i => cases h; exact .inr ⟨i, rfl, rfl⟩
theorem ok_keyed (n : Nat) {f fd} (F : Fun M.K "keyed_index" "keyed_index" s_keyed_index f fd) (b : Bl M) (df : Dc M "found_index" ["cells", "name", "key"] 2 (spF rFound M.K)) (de : dcEv M n) : FnG M.prog M.w M.K M.mg M.base CX0 (2 * n + 5) f fd ["cells", "state", "table", "key"] (spF (rKey n) M.K) := by
  refine fn_ok F sc_keyed_index (fun vs H Q E h => ?_) (fun H vs Q E h => ?_)
  · obtain ⟨ds, d, h, ⟨rs, st, t, e, rfl, _⟩, _⟩ := h
    exact h.len
  obtain ⟨ds, d, h, ⟨rs, st, t, e, rfl, hi, rfl⟩, k⟩ := h
  obtain _ | ⟨hc, h⟩ := h
  obtain _ | ⟨hst, h⟩ := h
  obtain _ | ⟨ht, h⟩ := h
  obtain _ | ⟨he, h⟩ := h
  cases h
  cases ht
  refine b_cons (s_asg ?_)
  refine e_callF de ?_ (Nat.le_refl _)
  tm_at "go"
  refine ⟨_, _, .cons hc (.cons hst (.cons he .nil)), ⟨rs, st, e, rfl, hi, rfl⟩, fun v H1 s1 hv => ?_⟩
  refine g_unp2 (by tm_at "at") (by tm_at "at") hv fun v1 v2 h1 h2 => ?_
  rcases optN h1 with ⟨eo, rfl⟩ | ⟨i, eo, rfl⟩
  · tm_at "go"
    refine e_tupD ?_
    tm_at "go"
    refine tupend (ds := [.none, .tuple ((ev rs st e).2.map .int)]) (.cons .non (.cons h2 .nil)) (Nat.le_of_ble_eq_true rfl) fun v9 H9 s9 h9 => ?_
    refine k _ _ (s1.trans s9) ?_
    unfold keyed resD
    rw [eo]
    exact h9
  · tm_at "go"
    refine e_tupD ?_
    tm_at "go"
    refine e_callF df ?_
    tm_at "go"
    refine ⟨_, _, .cons (hc.mono (tp_same s1)) (.cons (.str _) (.cons (.int _) .nil)), ⟨rs, t, some i, rfl, rfl⟩, fun v3 H3 s3 hv3 => ?_⟩
    tm_at "go"
    refine tupend (ds := [optD (fIdx rs t (some i) 0), .tuple ((ev rs st e).2.map .int)]) (.cons hv3 (.cons (h2.mono (tp_same s3)) .nil)) (Nat.le_of_ble_eq_true rfl) fun v9 H9 s9 h9 => ?_
    refine k _ _ (s1.trans (s3.trans s9)) ?_
    unfold keyed resD
    rw [eo]
    exact h9
end K

namespace K
open PySem L2 G
variable {M : Md}
def lazyE : Ex → Prop
  | .bin op _ _ => isLazy op = true
  | .ite _ _ _ => True
  | _ => False
def rLazy (n : Nat) : List PyData → PyData → Prop := fun ds d => ∃ (rs : List Row) (st : St1) (e : Ex), ds = [cellsD rs, stD st, e.d] ∧ lazyE e ∧ EvIn rs st e (n + 1) ∧ d = resD (ev rs st e)
theorem thn1_none {r : Res} {g : Int → Res} (h : r.1 = none) : thn1 r g = (none, r.2) := by
  unfold thn1
  rw [h]
theorem thn1_val {r : Res} {g : Int → Res} {v : Int} (h : r.1 = some v) : thn1 r g = ((g v).1, r.2 ++ (g v).2) := by
  unfold thn1
  rw [h]
theorem thn1_map {r : Res} {f : Int → Int} : thn1 r (fun w => (some (f w), [])) = (r.1.map f, r.2) := by
  unfold thn1
  cases r.1 with
  | none => rfl
  | some w => simp
theorem nb2 (v : Int) : (!decide (v = 0)) = decide (v ≠ 0) := by simp
theorem intb {p : Bool} : (if p = true then (1 : Int) else 0) = b2 (p = true) := rfl
theorem b2e {p q : Prop} [Decidable p] [Decidable q] (h : p ↔ q) : b2 p = b2 q := by
  unfold b2
  by_cases hp : p
  · rw [if_pos hp, if_pos (h.mp hp)]
  · rw [if_neg hp, if_neg (fun z => hp (h.mpr z))]
theorem lenLooks {rs : List Row} {st : St1} {e : Ex} {n : Nat} (h : e.dep ≤ n) (h4 : n ≤ 7) : ((ev rs st e).2.map PyData.int).length ≤ 256 := by
  rw [List.length_map]
  exact Nat.le_trans (evL e n h) (Nat.pow_le_pow_right (n := 2) (by decide) (show n + 1 ≤ 8 by omega))
set_option maxHeartbeats 2000000 in
theorem ok_lazy (n : Nat) {f fd} (F : Fun M.K "_lazy_value" "_lazy_value" s__lazy_value f fd) (b : Bl M) (de : dcEv M n) : FnG M.prog M.w M.K M.mg M.base CX0 (2 * n + 5) f fd ["cells", "state", "expression"] (spF (rLazy n) M.K) := by
  refine fn_ok F sc__lazy_value (fun vs H Q E h => ?_) (fun H vs Q E h => ?_)
  · obtain ⟨ds, d, h, ⟨rs, st, e, rfl, _⟩, _⟩ := h
    exact h.len
  obtain ⟨ds, d, h, ⟨rs, st, e, rfl, hl, hi, rfl⟩, k⟩ := h
  obtain _ | ⟨hc, h⟩ := h
  obtain _ | ⟨hst, h⟩ := h
  obtain _ | ⟨he, h⟩ := h
  cases h
  obtain ⟨S, fit, dep, n8, vbb⟩ := hi
  cases e with
  | int => exact hl.elim
  | nm => exact hl.elim
  | «at» => exact hl.elim
  | un => exact hl.elim
  | kk => exact hl.elim
  | bin op ea eb =>
    unfold Ex.d at he
    unfold Fit at fit
    unfold Ex.dep at dep
    have hlz : isLazy op = true := hl
    have hop : op ≠ "if" := by
      rintro rfl
      exact absurd (show isLazy "if" = true from hl) (by decide)
    tm_at "go"
    refine s_asg ?_
    refine e_callF de ?_ (Nat.le_refl _)
    tm_at "go"
    refine rx_tup he (d := ea.d) rfl fun va hva => ?_
    tm_at "go"
    refine ⟨_, _, .cons hc (.cons hst (.cons hva .nil)), ⟨rs, st, ea, rfl, ⟨S, fit.2.1, by omega, by omega, vbb.2.1⟩, rfl⟩, fun v H1 s1 hv => ?_⟩
    refine g_unp2 (by tm_at "at") (by tm_at "at") hv fun v1 v2 h1 h2 => ?_
    rcases optN h1 with ⟨eo, rfl⟩ | ⟨i, eo, rfl⟩
    · tm_at "go"
      refine e_tupD ?_
      tm_at "go"
      refine tupend (ds := [.none, .tuple ((ev rs st ea).2.map .int)]) (.cons .non (.cons h2 .nil)) (Nat.le_of_ble_eq_true rfl) fun v9 H9 s9 h9 => ?_
      refine k _ _ (s1.trans s9) ?_
      have e1 : ev rs st (.bin op ea eb) = (none, (ev rs st ea).2) := by
        rw [ev, if_pos hlz, thn1_none eo]
      rw [e1]
      exact h9
    · tm_at "go"
      refine ifd (fun c1 => absurd c1 hop) (fun c1 => ?_)
      tm_at "go"
      rw [nb2]
      refine ifd (fun c2 => ?_) (fun c2 => ?_)
      · tm_at "go"
        refine e_tupD ?_
        tm_at "go"
        refine tupend (ds := [.int (b2 (i ≠ 0)), .tuple ((ev rs st ea).2.map .int)]) (.cons (by rw [intb, b2e (q := i ≠ 0) (by simp)]; exact .int _) (.cons h2 .nil)) (Nat.le_of_ble_eq_true rfl) fun v9 H9 s9 h9 => ?_
        refine k _ _ (s1.trans s9) ?_
        have e1 : ev rs st (.bin op ea eb) = (some (b2 (i ≠ 0)), (ev rs st ea).2 ++ []) := by
          rw [ev, if_pos hlz, thn1_val eo, if_pos c2]
        rw [e1, List.append_nil]
        exact h9
      · tm_at "go"
        refine s_asg ?_
        refine e_callF de ?_ (Nat.le_refl _)
        tm_at "go"
        refine rx_tup (he.mono (tp_same s1)) (d := eb.d) rfl fun vb hvb => ?_
        tm_at "go"
        refine ⟨_, _, .cons (hc.mono (tp_same s1)) (.cons (hst.mono (tp_same s1)) (.cons hvb .nil)), ⟨rs, st, eb, rfl, ⟨S, fit.2.2, by omega, by omega, vbb.2.2⟩, rfl⟩, fun v H2 s2 hv => ?_⟩
        refine g_unp2 (by tm_at "at") (by tm_at "at") hv fun v3 v4 h3 h4 => ?_
        have e1 : ev rs st (.bin op ea eb) = ((ev rs st eb).1.map (fun w => b2 (w ≠ 0)), (ev rs st ea).2 ++ (ev rs st eb).2) := by
          rw [ev, if_pos hlz, thn1_val eo, if_neg c2, thn1_map]
        refine b_one (s_ret (e_tupD ?_))
        refine a_cons (e_if (t_cmp ?_))
        rcases optN h3 with ⟨eo2, rfl⟩ | ⟨i2, eo2, rfl⟩
        · tm_at "go"
          refine ro_catT (h2.mono (tp_same s2)) h4 (by have := lenLooks (rs := rs) (st := st) (e := ea) (n := n) (by omega) (by omega); have := lenLooks (rs := rs) (st := st) (e := eb) (n := n) (by omega) (by omega); omega) fun v8 H8 s8 h8 => ?_
          tm_at "go"
          refine tupend (ds := [.none, .tuple ((ev rs st ea).2.map .int ++ (ev rs st eb).2.map .int)]) (.cons .non (.cons h8 .nil)) (Nat.le_of_ble_eq_true rfl) fun v9 H9 s9 h9 => ?_
          refine k _ _ (s1.trans (s2.trans (s8.trans s9))) ?_
          rw [e1, eo2, resD, List.map_append]
          exact h9
        · tm_at "go"
          refine ro_catT (h2.mono (tp_same s2)) h4 (by have := lenLooks (rs := rs) (st := st) (e := ea) (n := n) (by omega) (by omega); have := lenLooks (rs := rs) (st := st) (e := eb) (n := n) (by omega) (by omega); omega) fun v8 H8 s8 h8 => ?_
          tm_at "go"
          refine tupend (ds := [.int (b2 (i2 ≠ 0)), .tuple ((ev rs st ea).2.map .int ++ (ev rs st eb).2.map .int)]) (.cons (by rw [intb, b2e (q := i2 ≠ 0) (by simp)]; exact .int _) (.cons h8 .nil)) (Nat.le_of_ble_eq_true rfl) fun v9 H9 s9 h9 => ?_
          refine k _ _ (s1.trans (s2.trans (s8.trans s9))) ?_
          rw [e1, eo2, resD, List.map_append]
          exact h9
  | ite ea eb ed =>
    unfold Ex.d at he
    unfold Fit at fit
    unfold Ex.dep at dep
    tm_at "go"
    refine s_asg ?_
    refine e_callF de ?_ (Nat.le_refl _)
    tm_at "go"
    refine rx_tup he (d := ea.d) rfl fun va hva => ?_
    tm_at "go"
    refine ⟨_, _, .cons hc (.cons hst (.cons hva .nil)), ⟨rs, st, ea, rfl, ⟨S, fit.1, by omega, by omega, vbb.2.1⟩, rfl⟩, fun v H1 s1 hv => ?_⟩
    refine g_unp2 (by tm_at "at") (by tm_at "at") hv fun v1 v2 h1 h2 => ?_
    rcases optN h1 with ⟨eo, rfl⟩ | ⟨i, eo, rfl⟩
    · tm_at "go"
      refine e_tupD ?_
      tm_at "go"
      refine tupend (ds := [.none, .tuple ((ev rs st ea).2.map .int)]) (.cons .non (.cons h2 .nil)) (Nat.le_of_ble_eq_true rfl) fun v9 H9 s9 h9 => ?_
      refine k _ _ (s1.trans s9) ?_
      have e1 : ev rs st (.ite ea eb ed) = (none, (ev rs st ea).2) := by rw [ev, thn1_none eo]
      rw [e1]
      exact h9
    · tm_at "go"
      refine s_asg ?_
      refine e_callF de ?_ (Nat.le_refl _)
      tm_at "go"
      refine t_val ?_
      tm_at "go"
      rw [nb2]
      refine ifd (fun c2 => ?_) (fun c2 => ?_)
      · tm_at "go"
        refine rx_tup (he.mono (tp_same s1)) (d := eb.d) rfl fun vb hvb => ?_
        tm_at "go"
        refine ⟨_, _, .cons (hc.mono (tp_same s1)) (.cons (hst.mono (tp_same s1)) (.cons hvb .nil)), ⟨rs, st, eb, rfl, ⟨S, fit.2.1, by omega, by omega, vbb.2.2.1⟩, rfl⟩, fun v H2 s2 hv => ?_⟩
        refine g_unp2 (by tm_at "at") (by tm_at "at") hv fun v3 v4 h3 h4 => ?_
        have e1 : ev rs st (.ite ea eb ed) = ((ev rs st eb).1, (ev rs st ea).2 ++ (ev rs st eb).2) := by rw [ev, thn1_val eo, if_pos c2]
        tm_at "go"
        refine e_tupD ?_
        tm_at "go"
        refine ro_catT (h2.mono (tp_same s2)) h4 (by have := lenLooks (rs := rs) (st := st) (e := ea) (n := n) (by omega) (by omega); have := lenLooks (rs := rs) (st := st) (e := eb) (n := n) (by omega) (by omega); omega) fun v8 H8 s8 h8 => ?_
        tm_at "go"
        refine tupend (ds := [optD (ev rs st eb).1, .tuple ((ev rs st ea).2.map .int ++ (ev rs st eb).2.map .int)]) (.cons (h3.mono (tp_same s8)) (.cons h8 .nil)) (Nat.le_of_ble_eq_true rfl) fun v9 H9 s9 h9 => ?_
        refine k _ _ (s1.trans (s2.trans (s8.trans s9))) ?_
        rw [e1, resD, List.map_append]
        exact h9
      · tm_at "go"
        refine rx_tup (he.mono (tp_same s1)) (d := ed.d) rfl fun vb hvb => ?_
        tm_at "go"
        refine ⟨_, _, .cons (hc.mono (tp_same s1)) (.cons (hst.mono (tp_same s1)) (.cons hvb .nil)), ⟨rs, st, ed, rfl, ⟨S, fit.2.2, by omega, by omega, vbb.2.2.2⟩, rfl⟩, fun v H2 s2 hv => ?_⟩
        refine g_unp2 (by tm_at "at") (by tm_at "at") hv fun v3 v4 h3 h4 => ?_
        have e1 : ev rs st (.ite ea eb ed) = ((ev rs st ed).1, (ev rs st ea).2 ++ (ev rs st ed).2) := by rw [ev, thn1_val eo, if_neg c2]
        tm_at "go"
        refine e_tupD ?_
        tm_at "go"
        refine ro_catT (h2.mono (tp_same s2)) h4 (by have := lenLooks (rs := rs) (st := st) (e := ea) (n := n) (by omega) (by omega); have := lenLooks (rs := rs) (st := st) (e := ed) (n := n) (by omega) (by omega); omega) fun v8 H8 s8 h8 => ?_
        tm_at "go"
        refine tupend (ds := [optD (ev rs st ed).1, .tuple ((ev rs st ea).2.map .int ++ (ev rs st ed).2.map .int)]) (.cons (h3.mono (tp_same s8)) (.cons h8 .nil)) (Nat.le_of_ble_eq_true rfl) fun v9 H9 s9 h9 => ?_
        refine k _ _ (s1.trans (s2.trans (s8.trans s9))) ?_
        rw [e1, resD, List.map_append]
        exact h9
end K

namespace K
open PySem L2 G
variable {M : Md}
def fullE : Ex → Prop
  | .bin op _ _ => isLazy op = false
  | .un _ _ => True
  | .kk _ _ _ => True
  | _ => False
def pts : Ex → List Ex
  | .bin _ a b => [a, b]
  | .un _ e => [e]
  | .kk _ e n => [e, .int n]
  | _ => []
def opOf : Ex → Str
  | .bin op _ _ => op
  | .un op _ => op
  | .kk op _ _ => op
  | _ => ""
theorem full_d {e : Ex} (h : fullE e) : e.d = .tuple (.str (opOf e) :: (pts e).map Ex.d) := by
  cases e with
  | bin => rfl
  | un => rfl
  | kk => rfl
  | int => exact h.elim
  | nm => exact h.elim
  | «at» => exact h.elim
  | ite => exact h.elim
abbrev Ress := Option (List Int) × List Int
def evs (rs : List Row) (st : St1) : List Ex → Ress
  | [] => (some [], [])
  | p :: ps => match (ev rs st p).1 with
    | none => (none, (ev rs st p).2)
    | some v => ((evs rs st ps).1.map (v :: ·), (ev rs st p).2 ++ (evs rs st ps).2)
def fullR (op : Str) (r : Ress) : Res := match r.1 with
  | none => (none, r.2)
  | some [] => (none, r.2)
  | some [v] => (some (un1 op v), r.2)
  | some (v :: w :: _) => (some (bin2 op v w), r.2)
theorem evs_none {rs : List Row} {st : St1} {p : Ex} {ps : List Ex} (h : (ev rs st p).1 = none) : evs rs st (p :: ps) = (none, (ev rs st p).2) := by
  rw [evs, h]
theorem evs_some {rs : List Row} {st : St1} {p : Ex} {ps : List Ex} {v : Int} (h : (ev rs st p).1 = some v) : evs rs st (p :: ps) = ((evs rs st ps).1.map (v :: ·), (ev rs st p).2 ++ (evs rs st ps).2) := by
  rw [evs, h]
theorem two_full (rs : List Row) (st : St1) (op : Str) (a b : Ex) : thn1 (ev rs st a) (fun v => thn1 (ev rs st b) fun w => (some (bin2 op v w), [])) = fullR op (evs rs st [a, b]) := by
  cases ea : (ev rs st a).1 with
  | none => rw [thn1_none ea, evs_none ea]; rfl
  | some v =>
    rw [thn1_val ea, evs_some ea]
    cases eb : (ev rs st b).1 with
    | none => rw [thn1_none eb, evs_none eb]; rfl
    | some w => rw [thn1_val eb, evs_some eb]; rfl
theorem ev_full {rs : List Row} {st : St1} {e : Ex} (h : fullE e) : ev rs st e = fullR (opOf e) (evs rs st (pts e)) := by
  cases e with
  | bin op a b =>
    have hf : isLazy op = false := h
    rw [ev, if_neg (by rw [hf]; decide), two_full]
    rfl
  | un op a =>
    rw [ev]
    show _ = fullR op (evs rs st [a])
    cases ea : (ev rs st a).1 with
    | none => rw [thn1_none ea, evs_none ea]; rfl
    | some v => rw [thn1_val ea, evs_some ea]; rfl
  | kk op a n =>
    rw [ev]
    show _ = fullR op (evs rs st [a, .int n])
    rw [← two_full]
    cases ea : (ev rs st a).1 with
    | none => rw [thn1_none ea, thn1_none ea]
    | some v => rw [thn1_val ea, thn1_val ea]; rfl
  | int => exact h.elim
  | nm => exact h.elim
  | «at» => exact h.elim
  | ite => exact h.elim
theorem cut1 {α : Type} (x : α) (l : List α) (h : l.length = 1 ∨ l.length = 2) : cutD (x :: l) (some 1) none = l := by
  match l, h with
  | [a], _ => rfl
  | [a, b], _ => rfl
theorem pts_len {e : Ex} (h : fullE e) : (pts e).length = 1 ∨ (pts e).length = 2 := by
  cases e with
  | bin => exact .inr rfl
  | un => exact .inl rfl
  | kk => exact .inr rfl
  | int => exact h.elim
  | nm => exact h.elim
  | «at» => exact h.elim
  | ite => exact h.elim
def rFull (n : Nat) : List PyData → PyData → Prop := fun ds d => ∃ (rs : List Row) (st : St1) (e : Ex), ds = [cellsD rs, stD st, e.d] ∧ fullE e ∧ EvIn rs st e (n + 1) ∧ d = resD (ev rs st e)
theorem pts_in {rs : List Row} {st : St1} {e : Ex} {n : Nat} (h : EvIn rs st e (n + 1)) : ∀ p ∈ pts e, EvIn rs st p n := by
  obtain ⟨S, fit, dep, n8, vb⟩ := h
  have h4 : n ≤ 8 := by omega
  cases e with
  | bin op a b =>
    unfold Fit at fit
    unfold Ex.dep at dep
    intro p hp
    rcases List.mem_cons.mp hp with rfl | hp
    · exact ⟨S, fit.2.1, by omega, h4, vb.2.1⟩
    rcases List.mem_cons.mp hp with rfl | hp
    · exact ⟨S, fit.2.2, by omega, h4, vb.2.2⟩
    cases hp
  | un op a =>
    unfold Fit at fit
    unfold Ex.dep at dep
    intro p hp
    rcases List.mem_cons.mp hp with rfl | hp
    · exact ⟨S, fit.2, by omega, h4, vb.2⟩
    cases hp
  | kk op a k =>
    unfold Fit at fit
    unfold Ex.dep at dep
    intro p hp
    rcases List.mem_cons.mp hp with rfl | hp
    · exact ⟨S, fit.2.1, by omega, h4, vb.2⟩
    rcases List.mem_cons.mp hp with rfl | hp
    · exact ⟨S, by unfold Fit; omega, Nat.zero_le _, h4, vb_int (by omega)⟩
    cases hp
  | int => exact fun _ h => nomatch h
  | nm => exact fun _ h => nomatch h
  | «at» => exact fun _ h => nomatch h
  | ite => exact fun _ h => nomatch h
theorem evs_bd {rs : List Row} {st : St1} {n : Nat} : ∀ {ps : List Ex} {vs : List Int}, (∀ p ∈ ps, EvIn rs st p n) → (evs rs st ps).1 = some vs → (∀ v ∈ vs, v.natAbs < 2 ^ 400) ∧ vs.length = ps.length
  | [], vs, _, h => by
    rw [evs] at h
    cases h
    exact ⟨(fun _ h => nomatch h), rfl⟩
  | p :: ps, vs, hp, h => by
    have h1 := hp p (List.mem_cons_self ..)
    cases e : (ev rs st p).1 with
    | none => rw [evs_none e] at h; cases h
    | some v =>
      rw [evs_some e] at h
      obtain ⟨ws, hw, rfl⟩ := Option.map_eq_some_iff.mp h
      obtain ⟨h2, h3⟩ := evs_bd (fun q hq => hp q (List.mem_cons_of_mem _ hq)) hw
      refine ⟨fun w hw => ?_, by rw [List.length_cons, List.length_cons, h3]⟩
      rcases List.mem_cons.mp hw with rfl | hw
      · exact h1.vb.own _ e
      · exact h2 w hw
set_option maxHeartbeats 2000000 in
theorem ok_full (n : Nat) {f fd} (F : Fun M.K "_full_value" "_full_value" s__full_value f fd) (b : Bl M) (de : dcEv M n) (d1 : Dc M "_of_one" ["op", "value"] 1 (spF rOne M.K)) (d2 : Dc M "value_of_two" ["op", "one", "other"] 2 (spF rTwo M.K)) : FnG M.prog M.w M.K M.mg M.base CX0 (2 * n + 5) f fd ["cells", "state", "expression"] (spF (rFull n) M.K) := by
  refine fn_ok F sc__full_value (fun vs H Q E h => ?_) (fun H vs Q E h => ?_)
  · obtain ⟨ds, d, h, ⟨rs, st, e, rfl, _⟩, _⟩ := h
    exact h.len
  obtain ⟨ds, d, h, ⟨rs, st, e, rfl, hl, hi, rfl⟩, k⟩ := h
  obtain _ | ⟨hc, h⟩ := h
  obtain _ | ⟨hst, h⟩ := h
  obtain _ | ⟨he, h⟩ := h
  cases h
  rename_i vc vst ve
  rw [full_d hl] at he
  have hpi := pts_in hi
  have hpl := pts_len hl
  have n3 : n ≤ 7 := by have := hi.n8; omega
  tm_at "go"
  refine e_lstD ?_
  tm_at "go"
  refine ⟨by decide, fun l H1 s1 n1 g1 => ?_⟩
  tm_at "go"
  refine e_tupD ?_
  tm_at "go"
  refine tupend (ds := []) .nil (Nat.le_of_ble_eq_true rfl) fun vk0 H2 s2 h2 => ?_
  tm_at "go"
  refine s_forT ?_
  tm_at "go"
  refine rsl_tup (he.mono (tp_same (s1.trans s2))) fun vp H3 s3 hvp => ?_
  rw [cut1 _ _ (by rw [List.length_map]; exact hpl)] at hvp
  obtain ⟨a, xs, rfl, hxs, hns⟩ := hvp.tupE
  have hle := hns.len
  rw [List.length_map] at hle
  have s13 := s1.trans (s2.trans s3)
  refine ⟨a, xs, rfl, hxs, fun i σ1 H' => ∃ (vs lk : List Int) (vlk : V) (v5 v6 v7 : Option V), σ1 = [some vc, some vst, some ve, some (.ref l), some vlk, v5, v6, v7] ∧ Same H H' ∧ Tp H3 H' ∧ H' l = some (.lst (vs.map V.int)) ∧ Dt M.K H' vlk (.tuple (lk.map .int)) ∧
    evs rs st (pts e) = ((evs rs st ((pts e).drop i)).1.map (vs ++ ·), lk ++ (evs rs st ((pts e).drop i)).2) ∧ vs.length ≤ i ∧ lk.length ≤ 256 * i, ⟨[], [], vk0, _, _, _, rfl, s13, Tp.refl _, (s2.trans s3) _ _ g1, h2.mono (tp_same s3), ?_, Nat.le_refl _, Nat.le_refl _⟩, ?_, ?_, ?_⟩
  · simp
  · rintro i σ' H' _ ⟨vs, lk, vlk, v5, v6, v7, rfl, s, t, _⟩
    exact t.sqt hxs
  · rintro i x σ' H4 hx ⟨vs, lk, vlk, v5, v6, v7, rfl, s4, t4, g4, hlk, hev, lv, llk⟩
    obtain ⟨d, hd, hx'⟩ := hns.getV hx
    rw [List.getElem?_map] at hd
    obtain ⟨p, hp, rfl⟩ := Option.map_eq_some_iff.mp hd
    have hpin := hpi p (List.mem_of_getElem? hp)
    have ed : (pts e).drop i = p :: (pts e).drop (i + 1) := by
      obtain ⟨h1, h2⟩ := List.getElem?_eq_some_iff.mp hp
      rw [← h2]; exact List.drop_eq_getElem_cons h1
    have hi2 : i < 2 := by
      have := (List.getElem?_eq_some_iff.mp hx).1
      omega
    rw [ed] at hev
    refine g_name (by tm_at "at") ?_
    refine b_cons (s_asg ?_)
    refine e_callF de ?_ (Nat.le_refl _)
    tm_at "go"
    refine ⟨_, _, .cons (hc.mono (tp_same s4)) (.cons (hst.mono (tp_same s4)) (.cons (hx'.mono t4) .nil)), ⟨rs, st, p, rfl, hpin, rfl⟩, fun v H5 s5 hv => ?_⟩
    refine g_unp2 (by tm_at "at") (by tm_at "at") hv fun v1 v2 h1 h2 => ?_
    have llp := lenLooks (rs := rs) (st := st) (e := p) hpin.dep n3
    tm_at "go"
    refine ro_catT (hlk.mono (tp_same s5)) h2 (by rw [List.length_map (as := lk)]; omega) fun v8 H8 s8 h8 => ?_
    rw [List.length_map] at llp
    rcases optN h1 with ⟨eo, rfl⟩ | ⟨w, eo, rfl⟩
    · tm_at "go"
      refine e_tupD ?_
      tm_at "go"
      refine tupend (ds := [.none, .tuple (lk.map .int ++ (ev rs st p).2.map .int)]) (.cons .non (.cons h8 .nil)) (Nat.le_of_ble_eq_true rfl) fun v9 H9 s9 h9 => ?_
      refine k _ _ (s4.trans (s5.trans (s8.trans s9))) ?_
      rw [ev_full hl, hev, evs_none eo, resD]
      show Dt _ _ _ (.tuple [.none, .tuple ((lk ++ (ev rs st p).2).map .int)])
      rw [List.map_append]
      exact h9
    · tm_at "go"
      refine s_expr ?_
      refine e_app ?_
      tm_at "go"
      have g8 := (s5.trans s8) _ _ g4
      have ku := kp_upd (o' := .lst (vs.map V.int ++ [.int w])) g8 (fun _ e => nomatch e) (fun _ _ e => nomatch e)
      refine ⟨l, _, rfl, g8, ?_⟩
      tm_at "go"
      refine ⟨_, g8, by rw [List.length_map]; omega, ?_⟩
      refine ⟨vs ++ [w], lk ++ (ev rs st p).2, v8, _, _, _, rfl, same_mut (s4.trans (s5.trans s8)) n1, t4.trans ((tp_same (s5.trans s8)).trans ku.t), ?_, ?_, ?_, ?_, ?_⟩
      · rw [List.map_append]; exact upd_same
      · rw [List.map_append]; exact h8.mono ku.t
      · rw [hev, evs_some eo]
        simp [Function.comp_def]
      · rw [List.length_append]; exact Nat.succ_le_succ lv
      · rw [List.length_append]; omega
  · rintro σ' H4 ⟨vs, lk, vlk, v5, v6, v7, rfl, s4, t4, g4, hlk, hev, lv, llk⟩
    rw [List.drop_eq_nil_of_le (by omega), evs] at hev
    have hev' : evs rs st (pts e) = (some vs, lk) := by rw [hev]; simp
    obtain ⟨hbd, hlen⟩ := evs_bd hpi (vs := vs) (by rw [hev'])
    have hres : ev rs st e = fullR (opOf e) (some vs, lk) := by rw [ev_full hl, hev']
    tm_at "go"
    refine rc_lenL (.of g4) ?_
    tm_at "go"
    match vs, hlen with
    | [], h0 => exact absurd h0 (by simp; omega)
    | [v], h0 =>
      refine ifT rfl ?_
      tm_at "go"
      refine e_tupD ?_
      tm_at "go"
      refine e_callF d1 ?_
      tm_at "go"
      refine rx_str (he.mono (tp_same s4)) (n := opOf e) (pl_at (j := 0) rfl rfl) ?_
      tm_at "go"
      refine rx_list (.of g4) (v := .int v) (by rfl) ?_
      tm_at "go"
      refine ⟨_, _, .cons (.str _) (.cons (.int _) .nil), ⟨opOf e, v, rfl, rfl⟩, fun v3 H5 s5 hv3 => ?_⟩
      tm_at "go"
      refine tupend (ds := [.int (un1 (opOf e) v), .tuple (lk.map .int)]) (.cons hv3 (.cons (hlk.mono (tp_same s5)) .nil)) (Nat.le_of_ble_eq_true rfl) fun v9 H9 s9 h9 => ?_
      refine k _ _ (s4.trans (s5.trans s9)) ?_
      rw [hres]
      exact h9
    | [v, w], h0 =>
      refine ifF (by simp) ?_
      tm_at "go"
      refine e_tupD ?_
      tm_at "go"
      refine e_callF d2 ?_
      tm_at "go"
      refine rx_str (he.mono (tp_same s4)) (n := opOf e) (pl_at (j := 0) rfl rfl) ?_
      tm_at "go"
      refine rx_list (.of g4) (v := .int v) (by rfl) ?_
      tm_at "go"
      refine rx_list (.of g4) (v := .int w) (by rfl) ?_
      tm_at "go"
      have hv := hbd v (by simp)
      have hw := hbd w (by simp)
      have hdm : opOf e = "div" ∨ opOf e = "mod" → 1 ≤ w ∧ w < 1000 := by
        intro hop
        obtain ⟨_, fit, _, _⟩ := hi
        cases e with
        | bin op a b =>
          have := kind_bin fit.1
          exact hop.elim (fun z => absurd z this.1) (fun z => absurd z this.2)
        | un op a => exact absurd h0 (by show ¬ (2 = 1); decide)
        | kk op a kn =>
          have hk := fit.2.2
          have h2 : evs rs st [a, .int kn] = (some [v, w], lk) := hev'
          cases ea : (ev rs st a).1 with
          | none => rw [evs_none ea] at h2; cases (Prod.mk.inj h2).1
          | some x =>
            rw [evs_some ea] at h2
            have h3 := (Prod.mk.inj h2).1
            have h4 : (evs rs st [.int kn]).1 = some [kn] := rfl
            rw [h4] at h3
            simp at h3
            omega
        | int => exact hl.elim
        | nm => exact hl.elim
        | «at» => exact hl.elim
        | ite => exact hl.elim
      refine ⟨_, _, .cons (.str _) (.cons (.int _) (.cons (.int _) .nil)), ⟨opOf e, v, w, rfl, ⟨hv, hw⟩, hdm, rfl⟩, fun v3 H5 s5 hv3 => ?_⟩
      tm_at "go"
      refine tupend (ds := [.int (bin2 (opOf e) v w), .tuple (lk.map .int)]) (.cons hv3 (.cons (hlk.mono (tp_same s5)) .nil)) (Nat.le_of_ble_eq_true rfl) fun v9 H9 s9 h9 => ?_
      refine k _ _ (s4.trans (s5.trans s9)) ?_
      rw [hres]
      exact h9
    | _ :: _ :: _ :: _, h0 => exact absurd h0 (by simp; omega)
end K

namespace K
open PySem PySem.Spec PyProof.Rows L2 G
/-! ### repr of data: its size -/
structure Shw (m n : Nat) (d : PyData) : Prop where
  ok : d.showable = true
  len : d.shown.length ≤ n
  dep : d.depth ≤ m
  nod : d.hasDict = false
theorem Shw.up {m n m' n' : Nat} {d : PyData} (h : Shw m n d) (h1 : m ≤ m') (h2 : n ≤ n') : Shw m' n' d := ⟨h.ok, Nat.le_trans h.len h2, Nat.le_trans h.dep h1, h.nod⟩
theorem sw_none : Shw 0 13 .none := ⟨by simp only [PyData.showable], by simp only [PyData.shown]; decide, by simp only [PyData.depth]; exact Nat.le_refl _, by simp only [PyData.hasDict]⟩
theorem sw_bool (b : Bool) : Shw 0 13 (.bool b) := by
  refine ⟨by simp only [PyData.showable], ?_, by simp only [PyData.depth]; exact Nat.le_refl _, by simp only [PyData.hasDict]⟩
  simp only [PyData.shown]
  cases b <;> decide
theorem sw_int {i : Int} (h : i.natAbs < 10 ^ 12) : Shw 0 13 (.int i) := by
  refine ⟨?_, PyData.shown_int_le h, by simp only [PyData.depth]; exact Nat.le_refl _, by simp only [PyData.hasDict]⟩
  simp only [PyData.showable, decide_eq_true_eq]
  have h2 : i.natAbs.log2 < 40 := PySem.Flt.log2_lt_of (by decide) (Nat.lt_of_lt_of_le h (by decide))
  omega
theorem sw_str {x : Str} {n : Nat} (h : (reprText x).length ≤ n) : Shw 0 n (.str x) := ⟨by simp only [PyData.showable], by simp only [PyData.shown]; exact h, by simp only [PyData.depth]; exact Nat.le_refl _, by simp only [PyData.hasDict]⟩
theorem sw_all {m n : Nat} : ∀ {ds : List PyData}, (∀ d ∈ ds, Shw m n d) → PyData.showableAll ds = true ∧ ((PyData.shownAll ds).map (·.length)).sum ≤ ds.length * n ∧ PyData.depthAll ds ≤ m ∧ PyData.hasDictAll ds = false
  | [], _ => ⟨by simp only [PyData.showableAll], by simp only [PyData.shownAll]; exact Nat.zero_le _, by simp only [PyData.depthAll]; exact Nat.zero_le _, by simp only [PyData.hasDictAll]⟩
  | d :: ds, h => by
    have h1 := h d (List.mem_cons_self ..)
    obtain ⟨a1, a2, a3, a4⟩ := sw_all fun e he => h e (List.mem_cons_of_mem _ he)
    refine ⟨by simp only [PyData.showableAll, h1.ok, a1, Bool.and_self], ?_, ?_, by simp only [PyData.hasDictAll, h1.nod, a4, Bool.or_self]⟩
    · have := h1.len
      simp only [PyData.shownAll, List.map_cons, List.sum_cons, List.length_cons, Nat.succ_mul]
      omega
    · simp only [PyData.depthAll]
      exact Nat.max_le.mpr ⟨h1.dep, a3⟩
theorem sw_tup {m n k : Nat} {ds : List PyData} (h : ∀ d ∈ ds, Shw m n d) (hk : ds.length ≤ k) : Shw (m + 1) (k * (n + 2) + 3) (.tuple ds) := by
  obtain ⟨a1, a2, a3, a4⟩ := sw_all h
  refine ⟨by simp only [PyData.showable, a1], ?_, by simp only [PyData.depth]; omega, by simp only [PyData.hasDict, a4]⟩
  simp only [PyData.shown]
  refine Nat.le_trans (tupleText_len_le _) ?_
  have e : (PyData.shownAll ds).length = ds.length := PyData.shownAll_length ds
  have e2 : ds.length * (n + 2) ≤ k * (n + 2) := Nat.mul_le_mul_right _ hk
  rw [e]
  rw [Nat.mul_add] at e2
  omega
theorem sw_lst {m n k : Nat} {ds : List PyData} (h : ∀ d ∈ ds, Shw m n d) (hk : ds.length ≤ k) : Shw (m + 1) (k * (n + 2) + 3) (.list ds) := by
  obtain ⟨a1, a2, a3, a4⟩ := sw_all h
  refine ⟨by simp only [PyData.showable, a1], ?_, by simp only [PyData.depth]; omega, by simp only [PyData.hasDict, a4]⟩
  simp only [PyData.shown]
  refine Nat.le_trans (listText_len_le _) ?_
  have e : (PyData.shownAll ds).length = ds.length := PyData.shownAll_length ds
  have e2 : ds.length * (n + 2) ≤ k * (n + 2) := Nat.mul_le_mul_right _ hk
  rw [e]
  rw [Nat.mul_add] at e2
  omega
/-! ### repr(v) of a tuple or list of data -/
def rRepr (K : PySem.W.Frag) : List V → Hp → VK → Prop := fun vs H Q => ∃ a d, vs = [.ref a] ∧ Dp K H (.ref a) d ∧ Shw 60 1000000 d ∧ Q (.str d.shown) H
theorem cr_repr {X : Cx} (quiet : X.A.guards = some []) (hu : X.A.units + 64 < cLine) : CallR X (.builtin "repr") (rRepr X.K) := by
  intro pins st σ H vs us Q J rv z
  obtain ⟨a, d, rfl, hd, sw, k⟩ := z
  obtain rfl := Vals.ref1 rv
  obtain ⟨as, rd⟩ := Dp.reads J d (.ref a) (.ref a) hd rfl
  have h1 := sw.dep
  have h2 := sw.len
  refine repr_of_reads' rd sw.ok (fun h => by rw [sw.nod] at h; cases h) quiet (by omega) (fun _ _ e => e) (fun h' u tk keep => ?_) (by rw [sizeLine_eq]; omega)
  exact ⟨.str d.shown, H, J.kept (t' := tk) keep, ⟨u, rfl⟩, k⟩
theorem rc_repr {c : Cd} {H : Hp} {Q : VK} {a : Addr} {d : PyData} (hd : Dp c.K H (.ref a) d) (sw : Shw 60 1000000 d) (q : Q (.str d.shown) H) (hq : c.g = true := by rfl) : RC c (.builtin "repr") [.ref a] H Q :=
  rc_of (r := rRepr c.K) (fun X h => by rw [← h.K]; exact cr_repr (h.gd hq) h.room.units) ⟨a, d, rfl, hd, sw, q⟩
end K

namespace K
open PySem L2 G
variable {M : Md}
def lazyW : List Str := ["and", "or", "if"]
structure Lz (M : Md) : Prop where
  ex : ∃ aL, M.mg "LAZY" = some (.ref aL) ∧ ∀ H, SqT M.K H aL (lazyW.map V.str)
abbrev dcIx (M : Md) : Prop := DcV M "cell_index" ["cells", "name", "key"] [.non] 3 (spF rIndex M.K)
theorem thn1_keyed {rs : List Row} {st : St1} {t : Str} {e : Ex} : ev rs st (.at t e) = thn1 (keyed rs t (ev rs st e)) fun j => (some (gt st j), [j]) := by rw [ev]
theorem keyed_in {rs : List Row} {st : St1} {t : Str} {e : Ex} {j : Int} (h : (keyed rs t (ev rs st e)).1 = some j) : 0 ≤ j ∧ j < total rs := by
  unfold keyed at h
  split at h
  · cases h
  · have := fIdx_in h
    omega
theorem bins_at : ∀ op ∈ bins, op ≠ "at" ∧ (op ∈ lazyW → isLazy op = true) ∧ (op ∉ lazyW → isLazy op = false) := by decide +kernel
theorem uns_at : ∀ op ∈ uns, op ≠ "at" ∧ op ∉ lazyW := by decide +kernel
theorem kks_at : ∀ op ∈ kks, op ≠ "at" ∧ op ∉ lazyW := by decide +kernel
set_option maxHeartbeats 2000000 in
theorem ok_ev (n : Nat) {f fd} (F : Fun M.K "evaluated" "evaluated" s_evaluated f fd) (b : Bl M) (lz : Lz M) (dx : dcIx M)
    (rec : ∀ m, n = m + 1 → Dc M "keyed_index" ["cells", "state", "table", "key"] (2 * m + 5) (spF (rKey m) M.K) ∧ Dc M "_lazy_value" ["cells", "state", "expression"] (2 * m + 5) (spF (rLazy m) M.K) ∧ Dc M "_full_value" ["cells", "state", "expression"] (2 * m + 5) (spF (rFull m) M.K)) :
    FnG M.prog M.w M.K M.mg M.base CX0 (2 * n + 4) f fd ["cells", "state", "expression"] (spF (rEv n) M.K) := by
  refine fn_ok F sc_evaluated (fun vs H Q E h => ?_) (fun H vs Q E h => ?_)
  · obtain ⟨ds, d, h, ⟨rs, st, e, rfl, _⟩, _⟩ := h
    exact h.len
  obtain ⟨ds, d, h, ⟨rs, st, e, rfl, hi, rfl⟩, k⟩ := h
  obtain _ | ⟨hc, h⟩ := h
  obtain _ | ⟨hst, h⟩ := h
  obtain _ | ⟨he, h⟩ := h
  cases h
  rename_i vc vst ve
  have S := hi.S
  refine b_cut (fun σ1 H' => isIntD e.d = false ∧ Same H H' ∧ σ1 = [some vc, some vst, some ve, none, none]) ?_ ?_
  · tm_at "go"
    refine t_val ?_
    tm_at "go"
    refine rc_isiD e.plain he ?_
    have s1 := Same.refl H
    refine ⟨_, rfl, ifb (fun c1 => ?_) (fun c1 => ?_)⟩
    · tm_at "go"
      refine e_tupD ?_
      tm_at "go"
      refine e_tupD ?_
      tm_at "go"
      refine tupend (ds := []) .nil (Nat.le_of_ble_eq_true rfl) fun v2 H2 s2 h2 => ?_
      tm_at "go"
      refine tupend (ds := [e.d, .tuple []]) (.cons (he.mono (tp_same (s1.trans s2))) (.cons h2 .nil)) (Nat.le_of_ble_eq_true rfl) fun v9 H9 s9 h9 => ?_
      refine k _ _ (s1.trans (s2.trans s9)) ?_
      cases e with
      | int i => exact h9
      | nm => cases c1
      | «at» => cases c1
      | un => cases c1
      | bin => cases c1
      | kk => cases c1
      | ite => cases c1
    · tm_at "go"
      exact ⟨c1, s1, rfl⟩
  rintro _ H1 ⟨ci, s1, rfl⟩
  have he1 := he.mono (tp_same s1)
  cases e with
  | int => cases ci
  | nm s =>
    cases he1
    tm_at "go"
    refine t_val ?_
    tm_at "go"
    refine rc_isi (.base (.str s)) rfl ?_
    refine ⟨true, rfl, ift ?_⟩
    obtain ⟨hx, x0, x1⟩ := ix_ok S.nd hi.fit
    tm_at "go"
    refine e_callV dx ?_
    tm_at "go"
    refine ⟨_, _, .cons (hc.mono (tp_same s1)) (.cons (.str _) (.cons .non .nil)), ⟨rs, s, ix rs s, rfl, hx, rfl⟩, fun v H2 s2 hv => ?_⟩
    cases hv
    tm_at "go"
    refine e_tupD ?_
    tm_at "go"
    refine rx_int (hst.mono (tp_same (s1.trans s2))) (gt_at S x0 x1) ?_
    tm_at "go"
    refine e_tupD ?_
    tm_at "go"
    refine tupend (ds := [.int (ix rs s)]) (by tm_at "dts") (Nat.le_of_ble_eq_true rfl) fun v3 H3 s3 h3 => ?_
    tm_at "go"
    refine tupend (ds := [.int (gt st (ix rs s)), .tuple [.int (ix rs s)]]) (.cons (.int _) (.cons h3 .nil)) (Nat.le_of_ble_eq_true rfl) fun v9 H9 s9 h9 => ?_
    refine k _ _ (s1.trans (s2.trans (s3.trans s9))) ?_
    rw [ev]
    exact h9
  | «at» t e =>
    obtain ⟨m, rfl⟩ : ∃ m, n = m + 1 := ⟨n - 1, by have := hi.dep; unfold Ex.dep at this; omega⟩
    obtain ⟨dk, dl, df⟩ := rec m rfl
    have hi' : EvIn rs st e m := ⟨S, hi.fit.2, by have := hi.dep; unfold Ex.dep at this; omega, by have := hi.n8; omega, hi.vb.2⟩
    obtain ⟨ae, xe, rfl, hte, hde⟩ := he1.tupE
    tm_at "go"
    refine t_val ?_
    tm_at "go"
    refine rc_isi (ty_tup hte) rfl ?_
    refine ⟨false, rfl, iff0 ?_⟩
    tm_at "go"
    refine s_asg ?_
    refine e_callF dk ?_ (by show 2 * m + 5 ≤ 2 * (m + 1) + 3; omega)
    tm_at "go"
    refine rx_tup he1 (d := e.d) rfl fun v2 h2 => ?_
    tm_at "go"
    refine ⟨_, _, .cons (hc.mono (tp_same s1)) (.cons (hst.mono (tp_same s1)) (.cons (.str _) (.cons h2 .nil))), ⟨rs, st, t, e, rfl, hi', rfl⟩, fun v H2 s2 hv => ?_⟩
    refine g_unp2 (by tm_at "at") (by tm_at "at") hv fun v3 v4 h3 h4 => ?_
    rcases optN h3 with ⟨eo, rfl⟩ | ⟨j, eo, rfl⟩
    · tm_at "go"
      refine e_tupD ?_
      tm_at "go"
      refine tupend (ds := [.none, .tuple ((keyed rs t (ev rs st e)).2.map .int)]) (.cons .non (.cons h4 .nil)) (Nat.le_of_ble_eq_true rfl) fun v9 H9 s9 h9 => ?_
      refine k _ _ (s1.trans (s2.trans s9)) ?_
      rw [thn1_keyed, thn1_none eo]
      exact h9
    · obtain ⟨j0, j1⟩ := keyed_in eo
      tm_at "go"
      refine e_tupD ?_
      tm_at "go"
      refine rx_int (hst.mono (tp_same (s1.trans s2))) (gt_at S j0 j1) ?_
      tm_at "go"
      refine e_tupD ?_
      tm_at "go"
      refine tupend (ds := [.int j]) (by tm_at "dts") (Nat.le_of_ble_eq_true rfl) fun v5 H5 s5 h5 => ?_
      refine ro_catT (h4.mono (tp_same s5)) h5 (by have := lenLooks (rs := rs) (st := st) (e := e) hi'.dep (by have := hi.n8; omega); rw [keyed_snd, List.length_singleton]; omega) fun v8 H8 s8 h8 => ?_
      tm_at "go"
      refine tupend (ds := [.int (gt st j), .tuple ((keyed rs t (ev rs st e)).2.map .int ++ [.int j])]) (.cons (.int _) (.cons h8 .nil)) (Nat.le_of_ble_eq_true rfl) fun v9 H9 s9 h9 => ?_
      refine k _ _ (s1.trans (s2.trans (s5.trans (s8.trans s9)))) ?_
      rw [thn1_keyed, thn1_val eo, resD, List.map_append]
      exact h9
  | ite ea eb ed =>
    obtain ⟨m, rfl⟩ : ∃ m, n = m + 1 := ⟨n - 1, by have := hi.dep; unfold Ex.dep at this; omega⟩
    obtain ⟨dk, dl, df⟩ := rec m rfl
    obtain ⟨aL, hL, hS⟩ := lz.ex
    obtain ⟨ae, xe, rfl, hte, hde⟩ := he1.tupE
    tm_at "go"
    refine t_val ?_
    tm_at "go"
    refine rc_isi (ty_tup hte) rfl ?_
    refine ⟨false, rfl, iff0 ?_⟩
    tm_at "go"
    refine e_glob (v := .ref aL) hL rfl ?_
    refine ro_inST (ws := lazyW) (.tup (hS _) (dtStrs lazyW)) ?_
    refine ⟨_, rfl, ifT (by decide +kernel) ?_⟩
    tm_at "go"
    refine e_callF dl ?_ (by show 2 * m + 5 ≤ 2 * (m + 1) + 3; omega)
    tm_at "go"
    exact ⟨_, _, .cons (hc.mono (tp_same s1)) (.cons (hst.mono (tp_same s1)) (.cons he1 .nil)), ⟨rs, st, _, rfl, trivial, hi, rfl⟩, fun v H2 s2 hv => k _ _ (s1.trans s2) hv⟩
  | bin op ea eb =>
    obtain ⟨m, rfl⟩ : ∃ m, n = m + 1 := ⟨n - 1, by have := hi.dep; unfold Ex.dep at this; omega⟩
    obtain ⟨dk, dl, df⟩ := rec m rfl
    obtain ⟨aL, hL, hS⟩ := lz.ex
    obtain ⟨ae, xe, rfl, hte, hde⟩ := he1.tupE
    have hop := bins_at op hi.fit.1
    tm_at "go"
    refine t_val ?_
    tm_at "go"
    refine rc_isi (ty_tup hte) rfl ?_
    refine ⟨false, rfl, iff0 ?_⟩
    tm_at "go"
    refine ifd (fun c => absurd c hop.1) (fun _ => ?_)
    tm_at "go"
    refine e_glob (v := .ref aL) hL rfl ?_
    refine ro_inST (ws := lazyW) (.tup (hS _) (dtStrs lazyW)) ?_
    refine ⟨_, rfl, ifd (fun c2 => ?_) (fun c2 => ?_)⟩
    · tm_at "go"
      refine e_callF dl ?_ (by show 2 * m + 5 ≤ 2 * (m + 1) + 3; omega)
      tm_at "go"
      exact ⟨_, _, .cons (hc.mono (tp_same s1)) (.cons (hst.mono (tp_same s1)) (.cons he1 .nil)), ⟨rs, st, _, rfl, hop.2.1 c2, hi, rfl⟩, fun v H2 s2 hv => k _ _ (s1.trans s2) hv⟩
    · tm_at "go"
      refine e_callF df ?_ (by show 2 * m + 5 ≤ 2 * (m + 1) + 3; omega)
      tm_at "go"
      exact ⟨_, _, .cons (hc.mono (tp_same s1)) (.cons (hst.mono (tp_same s1)) (.cons he1 .nil)), ⟨rs, st, _, rfl, hop.2.2 c2, hi, rfl⟩, fun v H2 s2 hv => k _ _ (s1.trans s2) hv⟩
  | un op ea =>
    obtain ⟨m, rfl⟩ : ∃ m, n = m + 1 := ⟨n - 1, by have := hi.dep; unfold Ex.dep at this; omega⟩
    obtain ⟨dk, dl, df⟩ := rec m rfl
    obtain ⟨aL, hL, hS⟩ := lz.ex
    obtain ⟨ae, xe, rfl, hte, hde⟩ := he1.tupE
    have hop := uns_at op hi.fit.1
    tm_at "go"
    refine t_val ?_
    tm_at "go"
    refine rc_isi (ty_tup hte) rfl ?_
    refine ⟨false, rfl, iff0 ?_⟩
    tm_at "go"
    refine ifd (fun c => absurd c hop.1) (fun _ => ?_)
    tm_at "go"
    refine e_glob (v := .ref aL) hL rfl ?_
    refine ro_inST (ws := lazyW) (.tup (hS _) (dtStrs lazyW)) ?_
    refine ⟨_, rfl, ifd (fun c2 => absurd c2 hop.2) (fun c2 => ?_)⟩
    · tm_at "go"
      refine e_callF df ?_ (by show 2 * m + 5 ≤ 2 * (m + 1) + 3; omega)
      tm_at "go"
      exact ⟨_, _, .cons (hc.mono (tp_same s1)) (.cons (hst.mono (tp_same s1)) (.cons he1 .nil)), ⟨rs, st, _, rfl, trivial, hi, rfl⟩, fun v H2 s2 hv => k _ _ (s1.trans s2) hv⟩
  | kk op ea kn =>
    obtain ⟨m, rfl⟩ : ∃ m, n = m + 1 := ⟨n - 1, by have := hi.dep; unfold Ex.dep at this; omega⟩
    obtain ⟨dk, dl, df⟩ := rec m rfl
    obtain ⟨aL, hL, hS⟩ := lz.ex
    obtain ⟨ae, xe, rfl, hte, hde⟩ := he1.tupE
    have hop := kks_at op hi.fit.1
    tm_at "go"
    refine t_val ?_
    tm_at "go"
    refine rc_isi (ty_tup hte) rfl ?_
    refine ⟨false, rfl, iff0 ?_⟩
    tm_at "go"
    refine ifd (fun c => absurd c hop.1) (fun _ => ?_)
    tm_at "go"
    refine e_glob (v := .ref aL) hL rfl ?_
    refine ro_inST (ws := lazyW) (.tup (hS _) (dtStrs lazyW)) ?_
    refine ⟨_, rfl, ifd (fun c2 => absurd c2 hop.2) (fun c2 => ?_)⟩
    · tm_at "go"
      refine e_callF df ?_ (by show 2 * m + 5 ≤ 2 * (m + 1) + 3; omega)
      tm_at "go"
      exact ⟨_, _, .cons (hc.mono (tp_same s1)) (.cons (hst.mono (tp_same s1)) (.cons he1 .nil)), ⟨rs, st, _, rfl, trivial, hi, rfl⟩, fun v H2 s2 hv => k _ _ (s1.trans s2) hv⟩
end K

namespace K
open PySem L2 G
variable {M : Md}
def rVal (n : Nat) : List PyData → PyData → Prop := fun ds d => ∃ (rs : List Row) (st : St1) (e : Ex), ds = [cellsD rs, stD st, e.d] ∧ EvIn rs st e n ∧ d = optD (ev rs st e).1
theorem lenLooks8 {rs : List Row} {st : St1} {e : Ex} {n : Nat} (h : e.dep ≤ n) (h8 : n ≤ 8) : ((ev rs st e).2.map PyData.int).length ≤ 512 := by
  rw [List.length_map]
  exact Nat.le_trans (evL e n h) (Nat.pow_le_pow_right (n := 2) (by decide) (show n + 1 ≤ 9 by omega))
theorem ok_value (n : Nat) {f fd} (F : Fun M.K "value_in" "value_in" s_value_in f fd) (b : Bl M) (de : dcEv M n) : FnG M.prog M.w M.K M.mg M.base CX0 (2 * n + 5) f fd ["cells", "state", "expression"] (spF (rVal n) M.K) := by
  refine fn_ok F sc_value_in (fun vs H Q E h => ?_) (fun H vs Q E h => ?_)
  · obtain ⟨ds, d, h, ⟨rs, st, e, rfl, _⟩, _⟩ := h
    exact h.len
  obtain ⟨ds, d, h, ⟨rs, st, e, rfl, hi, rfl⟩, k⟩ := h
  obtain _ | ⟨hc, h⟩ := h
  obtain _ | ⟨hst, h⟩ := h
  obtain _ | ⟨he, h⟩ := h
  cases h
  refine b_cons (s_asg ?_)
  refine e_callF de ?_ (Nat.le_refl _)
  tm_at "go"
  refine ⟨_, _, .cons hc (.cons hst (.cons he .nil)), ⟨rs, st, e, rfl, hi, rfl⟩, fun v H1 s1 hv => ?_⟩
  refine g_unp2 (by tm_at "at") (by tm_at "at") hv fun v1 v2 h1 h2 => ?_
  tm_at "go"
  exact k _ _ s1 h1
def firsts (lk : List Int) : List Int := lk.foldl (fun seen j => if j ∈ seen then seen else seen ++ [j]) []
def lookD (st : St1) (j : Int) : PyData := .tuple [.int j, .int (gt st j)]
def looksD (st : St1) (lk : List Int) : PyData := .tuple ((firsts lk).map (lookD st))
theorem firsts_snoc {lk : List Int} {i : Nat} {j : Int} (h : lk[i]? = some j) : firsts (lk.take (i + 1)) = if j ∈ firsts (lk.take i) then firsts (lk.take i) else firsts (lk.take i) ++ [j] := by
  obtain ⟨h1, rfl⟩ := List.getElem?_eq_some_iff.mp h
  rw [List.take_succ_eq_append_getElem h1, firsts, List.foldl_append]
  rfl
theorem firsts_len (lk : List Int) : (firsts lk).length ≤ lk.length := by
  have : ∀ (l seen : List Int), (l.foldl (fun seen j => if j ∈ seen then seen else seen ++ [j]) seen).length ≤ seen.length + l.length := by
    intro l
    induction l with
    | nil => intro seen; exact Nat.le_refl _
    | cons j l ih =>
      intro seen
      have h := ih (if j ∈ seen then seen else seen ++ [j])
      rw [List.foldl_cons, List.length_cons]
      split at h
      · rename_i hj; rw [if_pos hj]; omega
      · rename_i hj; rw [if_neg hj]; rw [List.length_append, List.length_singleton] at h; omega
  have h := this lk []
  simpa [firsts] using h
theorem firsts_mem {lk : List Int} {j : Int} : j ∈ firsts lk ↔ j ∈ lk := by
  have : ∀ (l seen : List Int), j ∈ (l.foldl (fun seen j => if j ∈ seen then seen else seen ++ [j]) seen) ↔ j ∈ seen ∨ j ∈ l := by
    intro l
    induction l with
    | nil => intro seen; simp
    | cons x l ih =>
      intro seen
      rw [List.foldl_cons, ih, List.mem_cons]
      split
      · rename_i hx
        constructor
        · rintro (h | h)
          · exact .inl h
          · exact .inr (.inr h)
        · rintro (h | rfl | h)
          · exact .inl h
          · exact .inl hx
          · exact .inr h
      · rw [List.mem_append, List.mem_singleton, or_assoc]
  rw [firsts, this]
  simp
theorem firsts_nodup (lk : List Int) : (firsts lk).Nodup := by
  have : ∀ (l seen : List Int), seen.Nodup → (l.foldl (fun seen j => if j ∈ seen then seen else seen ++ [j]) seen).Nodup := by
    intro l
    induction l with
    | nil => intro seen h; exact h
    | cons x l ih =>
      intro seen h
      rw [List.foldl_cons]
      refine ih _ ?_
      split
      · exact h
      · rename_i hx
        rw [List.nodup_append]
        refine ⟨h, by simp, ?_⟩
        intro a ha b hb
        rw [List.mem_singleton.mp hb]
        rintro rfl
        exact hx ha
  exact this lk [] List.nodup_nil
theorem inI (j : Int) (l : List Int) : inV (.int j) (l.map .int) = decide (j ∈ l) := by
  unfold inV
  rw [Bool.eq_iff_iff, List.any_eq_true, decide_eq_true_iff]
  constructor
  · rintro ⟨y, hy, h⟩
    obtain ⟨z, hz, rfl⟩ := List.mem_map.mp hy
    have : z = j := by simpa [eqV] using h
    rw [← this]; exact hz
  · intro h
    exact ⟨.int j, List.mem_map.mpr ⟨j, h, rfl⟩, by simp [eqV]⟩
theorem ro_notInI {c : Cd} {H : Hp} {Q : VK} {l : Addr} {j : Int} {js : List Int} (hl : H l = some (.lst (js.map V.int))) (q : Q (.bl (!decide (j ∈ js))) H) : RQ c .NotIn (.int j) (.ref l) H Q := by
  refine rq_of (r := rIn c.K true) (fun X h => by rw [← h.K]; exact op_notIn_seq) ⟨l, _, rfl, .inl (.of hl), rfl, by simp [flatV], ?_⟩
  show Q (.bl (!inV (.int j) (js.map .int))) H
  rw [inI]
  exact q
def rFirst : List PyData → PyData → Prop := fun ds d => ∃ (rs : List Row) (st : St1) (lk : List Int), ds = [stD st, .tuple (lk.map .int)] ∧ StOk rs st ∧ (∀ j ∈ lk, 0 ≤ j ∧ j < total rs) ∧ lk.length ≤ 900 ∧ d = looksD st lk
theorem ok_first {f fd} (F : Fun M.K "first_looks" "first_looks" s_first_looks f fd) (b : Bl M) : FnG M.prog M.w M.K M.mg M.base CX0 1 f fd ["state", "looks"] (spZ rFirst M.K) := by
  refine fn_ok F sc_first_looks (fun vs H Q E h => ?_) (fun H vs Q E h => ?_)
  · obtain ⟨ds, d, h, ⟨rs, st, lk, rfl, _⟩, _⟩ := h
    exact h.len
  obtain ⟨ds, d, h, ⟨rs, st, lk, rfl, S, hin, hll, rfl⟩, k⟩ := h
  obtain _ | ⟨hst, h⟩ := h
  obtain _ | ⟨hlk, h⟩ := h
  cases h
  rename_i vst vlk
  obtain ⟨a, xs, rfl, hxs, hns⟩ := hlk.tupE
  have hle := hns.len
  rw [List.length_map] at hle
  tm_at "go"
  refine e_lstD ?_
  tm_at "go"
  refine ⟨by decide, fun l H1 s1 n1 g1 => ?_⟩
  tm_at "go"
  refine s_forT ?_
  tm_at "go"
  refine ⟨a, xs, rfl, (tp_same s1).sqt hxs, fun i σ1 H' => ∃ (v3 : Option V), σ1 = [some vst, some (.ref a), some (.ref l), v3] ∧ Same H H' ∧ H' l = some (.lst ((firsts (lk.take i)).map V.int)), ⟨_, rfl, s1, g1⟩, ?_, ?_, ?_⟩
  · rintro i σ' H' _ ⟨v3, rfl, s, _⟩
    exact (tp_same s).sqt hxs
  · rintro i x σ' H2 hx ⟨v3, rfl, s2, g2⟩
    obtain ⟨d, hd, hx'⟩ := hns.getV hx
    rw [List.getElem?_map] at hd
    obtain ⟨j, hj, rfl⟩ := Option.map_eq_some_iff.mp hd
    cases hx'
    refine g_name (by tm_at "at") ?_
    tm_at "go"
    refine ro_notInI g2 ?_
    refine ⟨_, rfl, ifnd (fun c1 => ?_) (fun c1 => ?_)⟩
    · refine b_one (s_expr ?_)
      refine e_app ?_
      tm_at "go"
      refine ⟨l, _, rfl, g2, ?_⟩
      tm_at "go"
      refine ⟨_, g2, by rw [List.length_map]; have := firsts_len (lk.take i); have : (lk.take i).length ≤ lk.length := by rw [List.length_take]; omega
                        omega, ?_⟩
      refine ⟨_, rfl, same_mut s2 n1, ?_⟩
      rw [firsts_snoc hj, if_neg c1, List.map_append]
      exact upd_same
    · tm_at "go"
      refine ⟨s2, ?_⟩
      rw [firsts_snoc hj, if_pos c1]
      exact g2
  · rintro σ' H2 ⟨v3, rfl, s2, g2⟩
    rw [hle, List.take_length] at g2
    tm_at "go"
    refine e_lc (own := [("index", 3)]) (Blk.of (N := N_first_looks) (sc := defScope s_first_looks) rfl rfl (by decide +kernel)) ?_
    refine lcL_F (fun d => match d with | .int j => some (lookD st j) | _ => none) ?_
    tm_at "go"
    refine ⟨l, _, (firsts lk).map .int, rfl, .of g2, dtInts _, by rw [List.length_map]; have := firsts_len lk; omega, fun d x H' hd s hx => ?_, fun l6 us H6 s6 n6 g6 h6 => ?_⟩
    · obtain ⟨j, hj, rfl⟩ := List.mem_map.mp hd
      cases hx
      obtain ⟨j0, j1⟩ := hin j (firsts_mem.mp hj)
      refine g_name (by tm_at "at") ⟨rfl, rfl, ts_nil ⟨Same.refl _, ift ?_⟩⟩
      refine e_tupD ?_
      tm_at "go"
      refine rx_int (hst.mono (tp_same (s2.trans s))) (gt_at S j0 j1) ?_
      tm_at "go"
      refine tupend (ds := [.int j, .int (gt st j)]) (by tm_at "dts") (Nat.le_of_ble_eq_true rfl) fun vp H7 s7 hp => ?_
      exact ⟨s7, _, rfl, hp⟩
    rw [List.filterMap_map] at h6
    have e6 : (firsts lk).filterMap ((fun d => match d with | PyData.int j => some (lookD st j) | _ => none) ∘ PyData.int) = (firsts lk).map (lookD st) := by
      rw [← List.filterMap_eq_map]
      rfl
    rw [e6] at h6
    tm_at "go"
    refine rc_tupF (.of g6) h6 fun v7 H7 s7 h7 z7 => ?_
    exact k _ _ (s2.trans (s6.trans s7)) h7 z7
theorem ev_in {rs : List Row} {st : St1} (S : StOk rs st) : ∀ (e : Ex), Fit rs e → ∀ j ∈ (ev rs st e).2, 0 ≤ j ∧ j < total rs := by
  have th : ∀ (r : Res) (g : Int → Res), (∀ j ∈ r.2, 0 ≤ j ∧ j < total rs) → (∀ v, r.1 = some v → ∀ j ∈ (g v).2, 0 ≤ j ∧ j < total rs) → ∀ j ∈ (thn1 r g).2, 0 ≤ j ∧ j < total rs := by
    intro r g h1 h2 j hj
    cases e : r.1 with
    | none => rw [thn1_none e] at hj; exact h1 j hj
    | some v =>
      rw [thn1_val e] at hj
      rcases List.mem_append.mp hj with hj | hj
      · exact h1 j hj
      · exact h2 v e j hj
  intro e
  induction e with
  | int => intro _ j hj; rw [ev] at hj; cases hj
  | nm s =>
    intro hf j hj
    rw [ev] at hj
    rw [List.mem_singleton.mp hj]
    exact (ix_ok S.nd hf).2
  | «at» t e ih =>
    intro hf j hj
    rw [thn1_keyed] at hj
    refine th _ _ (by rw [keyed_snd]; exact ih hf.2) (fun v hv j hj => ?_) j hj
    rw [List.mem_singleton.mp hj]
    exact keyed_in hv
  | un op e ih =>
    intro hf j hj
    rw [ev] at hj
    exact th _ _ (ih hf.2) (fun v hv j hj => by cases hj) j hj
  | bin op a b iha ihb =>
    intro hf j hj
    rw [ev] at hj
    split at hj
    · refine th _ _ (iha hf.2.1) (fun v hv j hj => ?_) j hj
      split at hj
      · cases hj
      · exact th _ _ (ihb hf.2.2) (fun v hv j hj => by cases hj) j hj
    · refine th _ _ (iha hf.2.1) (fun v hv j hj => ?_) j hj
      exact th _ _ (ihb hf.2.2) (fun v hv j hj => by cases hj) j hj
  | kk op e n ih =>
    intro hf j hj
    rw [ev] at hj
    exact th _ _ (ih hf.2.1) (fun v hv j hj => by cases hj) j hj
  | ite a b d iha ihb ihd =>
    intro hf j hj
    rw [ev] at hj
    refine th _ _ (iha hf.1) (fun v hv j hj => ?_) j hj
    split at hj
    · exact ihb hf.2.1 j hj
    · exact ihd hf.2.2 j hj
def rLooked (n : Nat) : List PyData → PyData → Prop := fun ds d => ∃ (rs : List Row) (st : St1) (e : Ex), ds = [cellsD rs, stD st, e.d] ∧ EvIn rs st e n ∧ d = looksD st (ev rs st e).2
theorem ok_looked (n : Nat) {f fd} (F : Fun M.K "looked_at" "looked_at" s_looked_at f fd) (b : Bl M) (de : dcEv M n) (dfl : Dc M "first_looks" ["state", "looks"] 1 (spZ rFirst M.K)) : FnG M.prog M.w M.K M.mg M.base CX0 (2 * n + 5) f fd ["cells", "state", "expression"] (spZ (rLooked n) M.K) := by
  refine fn_ok F sc_looked_at (fun vs H Q E h => ?_) (fun H vs Q E h => ?_)
  · obtain ⟨ds, d, h, ⟨rs, st, e, rfl, _⟩, _⟩ := h
    exact h.len
  obtain ⟨ds, d, h, ⟨rs, st, e, rfl, hi, rfl⟩, k⟩ := h
  obtain _ | ⟨hc, h⟩ := h
  obtain _ | ⟨hst, h⟩ := h
  obtain _ | ⟨he, h⟩ := h
  cases h
  refine b_cons (s_asg ?_)
  refine e_callF de ?_ (Nat.le_refl _)
  tm_at "go"
  refine ⟨_, _, .cons hc (.cons hst (.cons he .nil)), ⟨rs, st, e, rfl, hi, rfl⟩, fun v H1 s1 hv => ?_⟩
  refine g_unp2 (by tm_at "at") (by tm_at "at") hv fun v1 v2 h1 h2 => ?_
  have ll1 := lenLooks8 (rs := rs) (st := st) (e := e) hi.dep hi.n8
  rw [List.length_map] at ll1
  tm_at "go"
  refine e_callZ dfl ?_
  tm_at "go"
  exact ⟨_, _, .cons (hst.mono (tp_same s1)) (.cons h2 .nil), ⟨rs, st, _, rfl, hi.S, ev_in hi.S e hi.fit, by omega, rfl⟩, fun v H2 s2 hv z => k _ _ (s1.trans s2) hv z⟩
end K

namespace K
open PySem L2 G
variable {M : Md}
def spFeed (K : PySem.W.Frag) : Sp := fun vs H Q _ => ∃ (sl : Addr) (ns : List Int), vs = [.ref sl] ∧ SqL K H sl (ns.map V.int) ∧ ns.length ≤ 63 ∧ ∀ fp cl H', Same H H' → H fp = none → H cl = none → Feed K H' fp cl → Q (.ref fp) H'
theorem cutV_int (ns : List Int) (lo hi : Option Int) : cutV (ns.map V.int) lo hi = (cutD ns lo hi).map V.int := cutD_map V.int ns lo hi
theorem ok_feed {f fd} (F : Fun M.K "_law_feed" "_law_feed" s__law_feed f fd) (b : Bl M) : FnG M.prog M.w M.K M.mg M.base CX0 1 f fd ["_law_script"] (spFeed M.K) := by
  refine fn_ok F sc__law_feed (fun vs H Q E h => ?_) (fun H vs Q E h => ?_)
  · obtain ⟨sl, ns, rfl, _⟩ := h
    rfl
  obtain ⟨sl, ns, rfl, hs, hl, k⟩ := h
  tm_at "go"
  refine e_disp (fun X h => pps_cons (pe_re h) (pe_re h) (pps_cons (pe_re h) (pe_re h) (pps_cons (pe_re h) (pe_re h) (pps_cons (pe_re h) (pe_re h) pps_nil)))) rfl rfl (by intro e; cases e) (by decide) ?_
  intro p hp
  simp only [tPairs]
  have s0 := same_new (o := .dK []) hp
  tm_at "go"
  refine rsl_list (s0.seq hs) fun l1 H1 s1 n1 g1 => ?_
  tm_at "go"
  refine rc_lstL (.of g1) fun l2 H2 s2 n2 g2 => ?_
  tm_at "go"
  have gp : H2 p = some (.dK []) := (s1.trans s2) _ _ upd_same
  rw [cutV_int] at g2
  have np : p ≠ l2 := by
    rintro rfl
    rw [s1 _ _ (upd_same (H := H))] at n2
    cases n2
  refine ⟨gp, fkv (.ref l2) 0 0 0, rfl, by rw [fkv_len]; decide, ?_⟩
  rw [show mergeK [] (fkv (.ref l2) 0 0 0) = fkv (.ref l2) 0 0 0 by rfl]
  have hl2 : (cutD ns none (some 63)).length ≤ 63 := Nat.le_trans (cutD_sub ns none (some 63)).length_le hl
  refine k p l2 _ (same_mut (s0.trans (s1.trans s2)) hp) hp (same_none s0 (same_none s1 n2)) ⟨_, 0, 0, 0, upd_same, ?_, hl2⟩
  rw [upd_ne (fun e => np e.symm)]
  exact g2
end K

local macro_rules | `(tactic| tm_at "mk") => `(tactic| repeat (first | (refine gRE ?_; refine e_tupD ?_) | tm_at "s" | (refine gRB ?_; first | refine b_one ?_ | refine b_cons ?_) | (refine tupend (by tm_at "dts") (Nat.le_of_ble_eq_true rfl) fun v H s h => ?_)))
namespace K
open PySem L2 G
variable {M : Md}
def rowsA : List Row := [("big", 0, 0, 1, false, true, 0), ("x", 0, 0, 3, true, false, 0)]
def rAdd : Rl := ⟨"add", .int 1, [(.nm "x", .bin "+" (.nm "x") (.int 1))]⟩
def rTwice : Rl := ⟨"twice", .int 1, [(.nm "x", .bin "*" (.nm "x") (.int 2))]⟩
def rSee : Rl := ⟨"see", .bin "<" (.int 2) (.nm "x"), [(.nm "big", .int 1)]⟩
def rowsB : List Row := [("i", 0, 0, 3, true, false, 0), ("t", 2, 0, 5, false, true, 1)]
def rMove : Rl := ⟨"move", .bin "<" (.nm "i") (.int 2), [(.at "t" (.nm "i"), .bin "+" (.at "t" (.nm "i")) (.int 1))]⟩
def rSame : Rl := ⟨"same", .int 1, [(.at "t" (.int 0), .int 1), (.at "t" (.nm "i"), .int 1)]⟩
def rowsC : List Row := [("b", 8, 0, 1, true, true, 0), ("c", 0, 5, 5, false, false, 5)]
def rowsU : List Row := [("u", 2, -1, 0, true, false, -1)]
structure Sm where
  rows : List Row
  rules : List Rl
  pairs : PyData
  starts : PyData
def Sm.d (s : Sm) : PyData := .tuple [cellsD s.rows, .tuple (s.rules.map Rl.d), s.pairs, s.starts]
def sms : List Sm := [⟨rowsA, [rAdd, rSee, rTwice], .tuple [], .int 1⟩,
  ⟨rowsA, [rAdd, rSee, rTwice], .tuple [.tuple [.str "add", .str "see"], .tuple [.str "see", .str "twice"]], .tuple [.str "<", .str "x", .int 2]⟩,
  ⟨rowsB, [rMove, rSame], .tuple [.tuple [.str "same", .str "move"]], .tuple [.str "<=", .str "i", .int 1]⟩,
  ⟨[], [], .tuple [], .int 0⟩, ⟨rowsA, [], .tuple [], .int 0⟩, ⟨rowsC, [], .tuple [], .tuple [.str "at", .str "b", .int 7]⟩,
  ⟨rowsU, [], .tuple [], .tuple [.str "not", .tuple [.str "at", .str "u", .int 1]]⟩]
theorem sw0 {ts vs : List Expr} {k1 k2 : Nat} {p1 p2 : Pos} (h : vs.all (foldedForSure 8) = true) (env : Env) : swappedStores [.Tuple ts k1 p1] (.Tuple vs k2 p2) env = pure none := by
  unfold swappedStores
  simp only [h]
  repeat (first | rfl | split)
/-- what the law asks of its samples' rows -/
structure RowsAll (rs : List Row) : Prop where
  sm : Small rs
  ri : RowsIn rs
  nd : (rs.map nameOf).Nodup
def spSm (K : PySem.W.Frag) : Sp := fun vs H Q _ => vs = [] ∧ ∀ l us H', Same H H' → H l = none → H' l = some (.lst us) → DtAll K H' us (sms.map Sm.d) → Q (.ref l) H'
set_option maxHeartbeats 4000000 in
theorem ok_samples {f fd} (F : Fun M.K "_law_samples" "_law_samples" s__law_samples f fd) (b : Bl M) : FnG M.prog M.w M.K M.mg M.base CX0 1 f fd [] (spSm M.K) := by
  refine fn_ok F sc__law_samples (fun vs H Q E h => by rw [h.1]; rfl) (fun H vs Q E h => ?_)
  obtain ⟨rfl, k⟩ := h
  refine b_cut (fun σ1 H' => ∃ v0 v1, σ1 = [some v0, some v1, none, none, none, none, none, none] ∧ Same H H' ∧ Dt M.K H' v0 rAdd.d ∧ Dt M.K H' v1 rTwice.d) ?_ ?_
  · refine s_asg ?_ (hw := sw0 (by rfl))
    tm_at "mk"
    refine g_unp2 (d1 := rAdd.d) (d2 := rTwice.d) (by tm_at "at") (by tm_at "at") (by assumption) fun v0 v1 h0 h1 => ?_
    exact ⟨_, _, rfl, by tm_at "same", h0, h1⟩
  rintro _ H1 ⟨v0, v1, rfl, s1, h0, h1⟩
  refine b_cut (fun σ1 H' => ∃ v2, σ1 = [some v0, some v1, some v2, none, none, none, none, none] ∧ Same H1 H' ∧ Dt M.K H' v2 rSee.d) ?_ ?_
  · tm_at "mk"
    exact ⟨by tm_at "same", by assumption⟩
  rintro _ H2 ⟨v2, rfl, s2, h2⟩
  refine b_cut (fun σ1 H' => ∃ v3, σ1 = [some v0, some v1, some v2, some v3, none, none, none, none] ∧ Same H2 H' ∧ Dt M.K H' v3 (cellsD rowsA)) ?_ ?_
  · tm_at "mk"
    exact ⟨by tm_at "same", by assumption⟩
  rintro _ H3 ⟨v3, rfl, s3, h3⟩
  have s13 := s1.trans (s2.trans s3)
  have a0 := h0.mono (tp_same (s2.trans s3))
  have a1 := h1.mono (tp_same (s2.trans s3))
  have a2 := h2.mono (tp_same s3)
  refine b_cut (fun σ1 H' => ∃ l us, σ1 = [some v0, some v1, some v2, some v3, some (.ref l), none, none, none] ∧ Same H3 H' ∧ H3 l = none ∧ H' l = some (.lst us) ∧ DtAll M.K H' us ((sms.take 1).map Sm.d)) ?_ ?_
  · tm_at "go"
    refine e_lstD ?_
    refine a_cons (e_tupD ?_)
    tm_at "mk"
    refine ⟨(Nat.le_of_ble_eq_true rfl), fun l H' s n g => ?_⟩
    tm_at "go"
    exact ⟨l, _, rfl, by tm_at "same", same_none (by tm_at "same") n, g, .cons (by tm_at "dt") .nil⟩
  rintro _ H4 ⟨l, us4, rfl, s4, n4, g4, d4⟩
  have n0 := same_none s13 n4
  refine b_cut (fun σ1 H' => ∃ us, σ1 = [some v0, some v1, some v2, some v3, some (.ref l), none, none, none] ∧ Same H3 H' ∧ H' l = some (.lst us) ∧ DtAll M.K H' us ((sms.take 2).map Sm.d)) ?_ ?_
  · refine s_expr (e_ext ?_)
    tm_at "go"
    refine ⟨l, _, rfl, g4, ?_⟩
    refine e_lstD ?_
    refine a_cons (e_tupD ?_)
    tm_at "mk"
    refine ⟨(Nat.le_of_ble_eq_true rfl), fun l2 H' s n g => ?_⟩
    have sH : Same H4 H' := by tm_at "same"
    have l4 := d4.len
    have ku : ∀ zs, Kp l H' (upd H' l (.lst zs)) := fun zs => kp_upd (sH _ _ g4) (fun _ e => nomatch e) (fun _ _ e => nomatch e)
    refine ⟨l2, _, _, rfl, sH _ _ g4, g, by rw [l4]; exact Nat.le_of_ble_eq_true rfl, ?_⟩
    exact ⟨_, rfl, same_mut (s4.trans sH) n4, upd_same, ((d4.mono ((tp_same sH).trans (ku _).t)).app (.cons (Dt.mono (ku _).t (by tm_at "dt")) .nil))⟩
  rintro _ H5 ⟨us5, rfl, s5, g5, d5⟩
  refine b_cut (fun σ1 H' => ∃ v5, σ1 = [some v0, some v1, some v2, some v3, some (.ref l), some v5, none, none] ∧ Same H5 H' ∧ Dt M.K H' v5 (cellsD rowsB)) ?_ ?_
  · tm_at "mk"
    exact ⟨by tm_at "same", by assumption⟩
  rintro _ H6 ⟨v5, rfl, s6, h5⟩
  refine b_cut (fun σ1 H' => ∃ v6, σ1 = [some v0, some v1, some v2, some v3, some (.ref l), some v5, some v6, none] ∧ Same H6 H' ∧ Dt M.K H' v6 rMove.d) ?_ ?_
  · tm_at "mk"
    exact ⟨by tm_at "same", by assumption⟩
  rintro _ H7 ⟨v6, rfl, s7, h6⟩
  refine b_cut (fun σ1 H' => ∃ v7, σ1 = [some v0, some v1, some v2, some v3, some (.ref l), some v5, some v6, some v7] ∧ Same H7 H' ∧ Dt M.K H' v7 rSame.d) ?_ ?_
  · tm_at "mk"
    exact ⟨by tm_at "same", by assumption⟩
  rintro _ H8 ⟨v7, rfl, s8, h7⟩
  have s58 := s6.trans (s7.trans s8)
  have b5 := h5.mono (tp_same (s7.trans s8))
  have b6 := h6.mono (tp_same s8)
  have b3 := h3.mono (tp_same (s5.trans s58))
  have s38 := s5.trans s58
  have g8 := s58 _ _ g5
  have d8 := d5.mono (tp_same s58)
  clear h5 h6 s6 s7 s8 a0 a1 a2 h0 h1 h2 s58 h3
  refine b_cut (fun σ1 H' => ∃ us, σ1 = [some v0, some v1, some v2, some v3, some (.ref l), some v5, some v6, some v7] ∧ Same H3 H' ∧ H' l = some (.lst us) ∧ DtAll M.K H' us ((sms.take 4).map Sm.d) ∧ Dt M.K H' v3 (cellsD rowsA)) ?_ ?_
  · refine s_expr (e_ext ?_)
    tm_at "go"
    refine ⟨l, _, rfl, g8, ?_⟩
    refine e_lstD ?_
    refine a_cons (e_tupD ?_)
    tm_at "mk"
    refine ⟨(Nat.le_of_ble_eq_true rfl), fun l2 H' s n g => ?_⟩
    obtain ⟨ws, gw, hw⟩ : ∃ ws, H' l2 = some (.lst ws) ∧ DtAll M.K H' ws (((sms.take 4).drop 2).map Sm.d) := ⟨_, g, .cons (by tm_at "dt") (.cons (by tm_at "dt") .nil)⟩
    have sH : Same H8 H' := by tm_at "same"
    have lw := hw.len
    have l4 := d8.len
    have ku : ∀ zs, Kp l H' (upd H' l (.lst zs)) := fun zs => kp_upd (sH _ _ g8) (fun _ e => nomatch e) (fun _ _ e => nomatch e)
    refine ⟨l2, _, _, rfl, sH _ _ g8, gw, by rw [l4, lw]; exact Nat.le_of_ble_eq_true rfl, ?_⟩
    exact ⟨_, rfl, same_mut (s38.trans sH) n4, upd_same, (d8.mono ((tp_same sH).trans (ku _).t)).app (hw.mono (ku _).t), b3.mono ((tp_same sH).trans (ku _).t)⟩
  clear b3 b5 b6 h7 g8 d8 s38
  rintro _ H9 ⟨us9, rfl, s9, g9, d9, h3⟩
  refine b_cut (fun σ1 H' => ∃ us, σ1 = [some v0, some v1, some v2, some v3, some (.ref l), some v5, some v6, some v7] ∧ Same H3 H' ∧ H' l = some (.lst us) ∧ DtAll M.K H' us ((sms.take 5).map Sm.d)) ?_ ?_
  · refine s_expr (e_ext ?_)
    tm_at "go"
    refine ⟨l, _, rfl, g9, ?_⟩
    refine e_lstD ?_
    refine a_cons (e_tupD ?_)
    tm_at "mk"
    refine ⟨(Nat.le_of_ble_eq_true rfl), fun l2 H' s n g => ?_⟩
    have sH : Same H9 H' := by tm_at "same"
    have l4 := d9.len
    have ku : ∀ zs, Kp l H' (upd H' l (.lst zs)) := fun zs => kp_upd (sH _ _ g9) (fun _ e => nomatch e) (fun _ _ e => nomatch e)
    refine ⟨l2, _, _, rfl, sH _ _ g9, g, by rw [l4]; exact Nat.le_of_ble_eq_true rfl, ?_⟩
    exact ⟨_, rfl, same_mut (s9.trans sH) n4, upd_same, ((d9.mono ((tp_same sH).trans (ku _).t)).app (.cons (Dt.mono (ku _).t (by tm_at "dt")) .nil))⟩
  clear h3 g9 d9 s9
  rintro _ Ha ⟨usa, rfl, sa, ga, dda⟩
  refine b_cut (fun σ1 H' => ∃ us, σ1 = [some v0, some v1, some v2, some v3, some (.ref l), some v5, some v6, some v7] ∧ Same H3 H' ∧ H' l = some (.lst us) ∧ DtAll M.K H' us ((sms.take 6).map Sm.d)) ?_ ?_
  · refine s_expr (e_app ?_)
    tm_at "go"
    refine ⟨l, _, rfl, ga, ?_⟩
    refine e_tupD ?_
    tm_at "mk"
    rename_i vL HL sL hL
    have sH : Same Ha HL := by tm_at "same"
    have la := dda.len
    have ku : ∀ zs, Kp l HL (upd HL l (.lst zs)) := fun zs => kp_upd (sH _ _ ga) (fun _ e => nomatch e) (fun _ _ e => nomatch e)
    refine ⟨usa, sH _ _ ga, by rw [la]; exact Nat.le_of_ble_eq_true rfl, ?_⟩
    exact ⟨_, rfl, same_mut (sa.trans sH) n4, upd_same, (dda.mono ((tp_same sH).trans (ku _).t)).app (.cons (Dt.mono (ku _).t hL) .nil)⟩
  rintro _ Hb ⟨usb, rfl, sb, gb, ddb⟩
  tm_at "go"
  refine e_lstD ?_
  refine a_cons (e_tupD ?_)
  tm_at "mk"
  refine ⟨(Nat.le_of_ble_eq_true rfl), fun l2 H' s n g => ?_⟩
  obtain ⟨ws, gw, hw⟩ : ∃ ws, H' l2 = some (.lst ws) ∧ DtAll M.K H' ws ((sms.drop 6).map Sm.d) := ⟨_, g, .cons (by tm_at "dt") .nil⟩
  have sH : Same Hb H' := by tm_at "same"
  have lw := hw.len
  have lb := ddb.len
  refine ro_cat (sH _ _ gb) gw (by rw [lb, lw]; exact Nat.le_of_ble_eq_true rfl) fun p H2 s2 n2 g2 => ?_
  exact k p _ H2 (s13.trans (sb.trans (sH.trans s2))) (same_none (s13.trans (sb.trans sH)) n2) g2 ((ddb.mono (tp_same (sH.trans s2))).app (hw.mono (tp_same s2)))
end K

namespace K
open PySem L2 G
variable {M : Md}
theorem rg_mem {rs : List Row} {p : Rng} (h : p ∈ rg rs) : ∃ r ∈ rs, p = (r.2.2.1, r.2.2.2.1) := by
  obtain ⟨r, hr, h2⟩ := List.mem_flatMap.mp h
  exact ⟨r, hr, (List.mem_replicate.mp h2).2⟩
theorem menus_ok : ∀ m ∈ menus, m.Nodup ∧ ∀ s ∈ m, PyData.strOk s = true := by decide +kernel
theorem total_le {rs : List Row} (h : ∀ r ∈ rs, r.2.1 ≤ 3) : total rs ≤ 3 * rs.length := by
  induction rs with
  | nil => exact Nat.le_refl _
  | cons r rs ih =>
    have h1 := h r (List.mem_cons_self ..)
    have h2 := ih fun q hq => h q (List.mem_cons_of_mem _ hq)
    have e : total (r :: rs) = width r + total rs := by simp [total]
    have w : width r ≤ 3 := by unfold width; omega
    rw [List.length_cons]
    omega
theorem rows3_all {most : Nat} {rs : List Row} (h : Rows3 most rs) (hm : most ≤ 256) : RowsAll rs := by
  obtain ⟨m, hm1, sub⟩ := h.nm
  obtain ⟨nd, so⟩ := menus_ok m hm1
  have hl := h.len
  refine ⟨⟨?_, fun p hp => ?_, Nat.le_trans h.many hm⟩, ⟨by omega, fun r hr => so _ (sub.subset (List.mem_map.mpr ⟨r, hr, rfl⟩))⟩, sub.nodup nd⟩
  · have := total_le fun r hr => (h.ok r hr).size
    omega
  · obtain ⟨r, hr, rfl⟩ := rg_mem hp
    obtain ⟨a, b, c, d, e, f, g⟩ := h.ok r hr
    unfold span
    simp only
    omega
theorem all_of (rs : List Row) (h : (decide (total rs ≤ 10) && (rg rs).all (fun p => decide (1 ≤ span p) && decide (-10 ≤ p.1) && decide (p.2 ≤ 10)) && decide (many (rg rs) ≤ 256) && decide (rs.length ≤ 10) && rs.all (fun r => PyData.strOk r.1) && decide (rs.map nameOf).Nodup) = true) : RowsAll rs := by
  simp only [Bool.and_eq_true, List.all_eq_true, decide_eq_true_eq] at h
  obtain ⟨⟨⟨⟨⟨h1, h2⟩, h3⟩, h4⟩, h5⟩, h6⟩ := h
  exact ⟨⟨h1, fun p hp => ⟨(h2 p hp).1.1, (h2 p hp).1.2, (h2 p hp).2⟩, h3⟩, ⟨h4, h5⟩, h6⟩
theorem sms_all : ∀ s ∈ sms, RowsAll s.rows := by
  intro s hs
  have h : sms.all (fun s => (decide (total s.rows ≤ 10) && (rg s.rows).all (fun p => decide (1 ≤ span p) && decide (-10 ≤ p.1) && decide (p.2 ≤ 10)) && decide (many (rg s.rows) ≤ 256) && decide (s.rows.length ≤ 10) && s.rows.all (fun r => PyData.strOk r.1) && decide (s.rows.map nameOf).Nodup)) = true := by decide +kernel
  exact all_of _ (List.all_eq_true.mp h s hs)
theorem fold_val (B : Int) : ∀ (ps : List Rng) (acc : List St1), (∀ p ∈ ps, -B ≤ p.1 ∧ p.2 ≤ B) → (∀ o ∈ acc, ∀ v ∈ o, -B ≤ v ∧ v ≤ B) → ∀ o ∈ ps.foldl widen acc, ∀ v ∈ o, -B ≤ v ∧ v ≤ B
  | [], acc, _, h => h
  | p :: ps, acc, hp, h => by
    refine fold_val B ps (widen acc p) (fun q hq => hp q (List.mem_cons_of_mem _ hq)) fun o ho v hv => ?_
    obtain ⟨o2, h2, h3⟩ := List.mem_flatMap.mp ho
    obtain ⟨t, ht, rfl⟩ := List.mem_map.mp h3
    have ht := List.mem_range.mp ht
    have hp1 := hp p (List.mem_cons_self ..)
    rcases List.mem_append.mp hv with hv | hv
    · exact h o2 h2 v hv
    · rw [List.mem_singleton.mp hv]
      unfold span at ht
      omega
/-- each value lies in its range -/
def Lies (qs : List Rng) (o : St1) : Prop := o.length = qs.length ∧ ∀ (i : Nat) (r : Rng), qs[i]? = some r → r.1 ≤ gt o i ∧ gt o i ≤ r.2
theorem lies_fold : ∀ (ps qs : List Rng) (acc : List St1), (∀ o ∈ acc, Lies qs o) → ∀ o ∈ ps.foldl widen acc, Lies (qs ++ ps) o
  | [], qs, acc, h => by rw [List.append_nil]; exact h
  | p :: ps, qs, acc, h => by
    have e : qs ++ p :: ps = (qs ++ [p]) ++ ps := by rw [List.append_assoc]; rfl
    rw [e]
    refine lies_fold ps (qs ++ [p]) (widen acc p) fun o ho => ?_
    obtain ⟨o2, h2, h3⟩ := List.mem_flatMap.mp ho
    obtain ⟨t, ht, rfl⟩ := List.mem_map.mp h3
    have ht := List.mem_range.mp ht
    obtain ⟨l2, g2⟩ := h o2 h2
    refine ⟨by rw [List.length_append, List.length_append, l2]; rfl, fun i r hr => ?_⟩
    unfold gt
    rw [Int.toNat_natCast, List.getD_eq_getElem?_getD]
    by_cases hi : i < qs.length
    · rw [List.getElem?_append_left hi] at hr
      have := g2 i r hr
      unfold gt at this
      rw [Int.toNat_natCast, List.getD_eq_getElem?_getD] at this
      rw [List.getElem?_append_left (by omega)]
      exact this
    · rw [List.getElem?_append_right (by omega)] at hr
      rw [List.getElem?_append_right (by omega), l2]
      have hi2 : i - qs.length = 0 := by
        have := (List.getElem?_eq_some_iff.mp hr).1
        rw [List.length_singleton] at this
        omega
      rw [hi2] at hr ⊢
      obtain rfl : p = r := Option.some.inj hr
      show p.1 ≤ p.1 + (t : Int) ∧ p.1 + (t : Int) ≤ p.2
      unfold span at ht
      omega
theorem states_ok {rs : List Row} (A : RowsAll rs) : ∀ st ∈ statesOf (rg rs), StOk rs st := by
  intro st hst
  refine ⟨by rw [states_mem hst, rg_len], fun v hv => ?_, A.sm.tot, A.nd, A.ri, ?_⟩
  · exact fold_val 10 (rg rs) [[]] (fun p hp => ⟨(A.sm.sp p hp).2.1, (A.sm.sp p hp).2.2⟩) (fun o ho v hv => by rw [List.mem_singleton.mp ho] at hv; cases hv) st hst v hv
  · have h0 := lies_fold (rg rs) [] [[]] (fun o ho => by rw [List.mem_singleton.mp ho]; exact ⟨rfl, fun i r hr => by simp at hr⟩) st hst
    exact h0.2
/-- the rules of the samples fit -/
theorem fitB {rs : List Row} {s : Str} (h : (rs.any fun r => decide (r.1 = s) && decide (r.2.1 = 0)) = true) : ∃ r ∈ rs, r.1 = s ∧ r.2.1 = 0 := by
  obtain ⟨r, hr, h2⟩ := List.any_eq_true.mp h
  simp only [Bool.and_eq_true, decide_eq_true_eq] at h2
  exact ⟨r, hr, h2⟩
theorem fitC {rs : List Row} {s : Str} (h : (rs.any fun r => decide (r.1 = s) && decide (0 < r.2.1)) = true) : ∃ r ∈ rs, r.1 = s ∧ 0 < r.2.1 := by
  obtain ⟨r, hr, h2⟩ := List.any_eq_true.mp h
  simp only [Bool.and_eq_true, decide_eq_true_eq] at h2
  exact ⟨r, hr, h2⟩
def fitb (rs : List Row) : Ex → Bool
  | .int i => decide (-1000000 ≤ i ∧ i ≤ 1000000)
  | .nm s => rs.any fun r => decide (r.1 = s) && decide (r.2.1 = 0)
  | .at t e => (rs.any fun r => decide (r.1 = t) && decide (0 < r.2.1)) && fitb rs e
  | .un op e => decide (op ∈ uns) && fitb rs e
  | .bin op a b => decide (op ∈ bins) && (fitb rs a && fitb rs b)
  | .kk op e n => decide (op ∈ kks) && (fitb rs e && decide (1 ≤ n ∧ n ≤ 3))
  | .ite a b e => fitb rs a && (fitb rs b && fitb rs e)
theorem fitb_ok {rs : List Row} : ∀ e : Ex, fitb rs e = true → Fit rs e
  | .int i, h => by
    unfold fitb at h
    unfold Fit
    exact of_decide_eq_true h
  | .nm s, h => by unfold fitb at h; exact fitB h
  | .at t e, h => by
    unfold fitb at h
    rw [Bool.and_eq_true] at h
    exact ⟨fitC h.1, fitb_ok e h.2⟩
  | .un op e, h => by
    unfold fitb at h
    rw [Bool.and_eq_true] at h
    exact ⟨of_decide_eq_true h.1, fitb_ok e h.2⟩
  | .bin op a b, h => by
    unfold fitb at h
    rw [Bool.and_eq_true, Bool.and_eq_true] at h
    exact ⟨of_decide_eq_true h.1, fitb_ok a h.2.1, fitb_ok b h.2.2⟩
  | .kk op e n, h => by
    unfold fitb at h
    rw [Bool.and_eq_true, Bool.and_eq_true] at h
    exact ⟨of_decide_eq_true h.1, fitb_ok e h.2.1, of_decide_eq_true h.2.2⟩
  | .ite a b e, h => by
    unfold fitb at h
    rw [Bool.and_eq_true, Bool.and_eq_true] at h
    exact ⟨fitb_ok a h.1, fitb_ok b h.2.1, fitb_ok e h.2.2⟩
def fittb (rs : List Row) : Tg → Bool
  | .nm s => rs.any fun r => decide (r.1 = s) && decide (r.2.1 = 0)
  | .at t e => (rs.any fun r => decide (r.1 = t) && decide (0 < r.2.1)) && (fitb rs e && decide (e.dep ≤ 2))
theorem fittb_ok {rs : List Row} (t : Tg) (h : fittb rs t = true) : FitT rs t := by
  cases t with
  | nm s => exact fitB h
  | «at» t e =>
    unfold fittb at h
    rw [Bool.and_eq_true, Bool.and_eq_true] at h
    exact ⟨fitC h.1, fitb_ok e h.2.1, of_decide_eq_true h.2.2⟩
def rlb (rs : List Row) (r : Rl) : Bool := PyData.strOk r.name && (fitb rs r.guard && decide (r.guard.dep ≤ 4)) && decide (r.as.length ≤ 10) && decide (0 < r.as.length) && r.as.all fun p => fittb rs p.1 && (fitb rs p.2 && decide (p.2.dep ≤ 2))
theorem rlb_ok {rs : List Row} {r : Rl} (h : rlb rs r = true) : FitR rs r := by
  unfold rlb at h
  simp only [Bool.and_eq_true, List.all_eq_true, decide_eq_true_eq] at h
  obtain ⟨⟨⟨⟨h1, h2⟩, h3⟩, h4⟩, h5⟩ := h
  exact ⟨h1, ⟨fitb_ok _ h2.1, h2.2⟩, h3, fun e => by rw [e] at h4; exact absurd h4 (by decide), fun p hp => ⟨fittb_ok _ (h5 p hp).1, fitb_ok _ (h5 p hp).2.1, (h5 p hp).2.2⟩⟩
theorem sms_fit : ∀ s ∈ sms, ∀ r ∈ s.rules, FitR s.rows r := by
  have h : sms.all (fun s => s.rules.all fun r => rlb s.rows r) = true := by decide +kernel
  intro s hs r hr
  exact rlb_ok (List.all_eq_true.mp (List.all_eq_true.mp h s hs) r hr)
end K

namespace K
open PySem L2 G
variable {M : Md}
/-! ### where the names begin -/
def spots : List Row → Int → List (Key × V)
  | [], _ => []
  | r :: rs, b => (Sum.inr r.1, .int b) :: spots rs (b + width r)
theorem spots_snoc (rs : List Row) (r : Row) : ∀ b : Int, spots (rs ++ [r]) b = spots rs b ++ [(Sum.inr r.1, .int (b + total rs))] := by
  induction rs with
  | nil => intro b; simp [spots, total]
  | cons q rs ih =>
    intro b
    have e : total (q :: rs) = width q + total rs := by simp [total]
    rw [List.cons_append, spots, spots, ih, e, List.cons_append]
    have e2 : b + ((width q : Nat) : Int) + ((total rs : Nat) : Int) = b + ((width q + total rs : Nat) : Int) := by omega
    rw [e2]
theorem spots_keys (rs : List Row) : ∀ b : Int, (spots rs b).map (·.1) = (rs.map nameOf).map (Sum.inr : Str → Key) := by
  induction rs with
  | nil => intro b; rfl
  | cons q rs ih => intro b; rw [spots, List.map_cons, ih, List.map_cons, List.map_cons]; rfl
theorem spots_len (rs : List Row) (b : Int) : (spots rs b).length = rs.length := by
  have := congrArg List.length (spots_keys rs b)
  simpa using this
theorem putK_new {kvs : List (Key × V)} {k : Key} {v : V} (h : k ∉ kvs.map (·.1)) : putK kvs k v = kvs ++ [(k, v)] := by
  unfold putK
  rw [if_neg]
  intro ha
  obtain ⟨x, hx, e⟩ := List.any_eq_true.mp ha
  exact h (List.mem_map.mpr ⟨x, hx, by simpa using e⟩)
theorem merge_new : ∀ (more kvs : List (Key × V)), ((kvs ++ more).map (·.1)).Nodup → mergeK kvs more = kvs ++ more
  | [], kvs, _ => by rw [List.append_nil]; rfl
  | p :: more, kvs, h => by
    have h1 : p.1 ∉ kvs.map (·.1) := by
      intro hp
      rw [List.map_append, List.map_cons, List.nodup_append] at h
      exact h.2.2 _ hp _ (List.mem_cons_self ..) rfl
    have h2 : mergeK (putK kvs p.1 p.2) more = (kvs ++ [p]) ++ more := by
      rw [putK_new h1]
      exact merge_new more (kvs ++ [p]) (by rw [List.append_assoc]; exact h)
    rw [List.append_assoc] at h2
    exact h2
/-- a row, where it begins -/
theorem spot_row : ∀ {rs : List Row} {s : Str} (b : Int), (∃ r ∈ rs, r.1 = s) → ∃ r ∈ rs, ∃ j : Int, r.1 = s ∧ valV (spots rs b) (Sum.inr s : Key) = some (.int j) ∧ ∀ key, fIdx rs s key b = hit r key j
  | [], _, _, h => by obtain ⟨r, hr, _⟩ := h; cases hr
  | q :: rs, s, b, h => by
    by_cases e : q.1 = s
    · refine ⟨q, List.mem_cons_self .., b, e, ?_, fun key => ?_⟩
      · rw [spots]
        exact valV_pos (by rw [e])
      · rw [fIdx, if_pos e]
    · obtain ⟨r, hr, er⟩ := h
      rcases List.mem_cons.mp hr with rfl | hr
      · exact absurd er e
      obtain ⟨r2, h2, j, e2, h3, h4⟩ := spot_row (b + width q) ⟨r, hr, er⟩
      refine ⟨r2, List.mem_cons_of_mem _ h2, j, e2, ?_, fun key => ?_⟩
      · rw [spots, valV_neg (fun z => e (Sum.inr.inj z))]
        exact h3
      · rw [fIdx, if_neg e]
        exact h4 key
def spSpots (K : PySem.W.Frag) : Sp := fun vs H Q _ => ∃ (rs : List Row) (v : V), vs = [v] ∧ Dt K H v (cellsD rs) ∧ (rs.map nameOf).Nodup ∧ rs.length ≤ 10 ∧ ∀ p H', Same H H' → H p = none → H' p = some (.dK (spots rs 0)) → Q (.ref p) H'
theorem ok_spots {f fd} (F : Fun M.K "_law_spots" "_law_spots" s__law_spots f fd) (b : Bl M) : FnG M.prog M.w M.K M.mg M.base CX0 1 f fd ["_law_rows_here"] (spSpots M.K) := by
  refine fn_ok F sc__law_spots (fun vs H Q E h => ?_) (fun H vs Q E h => ?_)
  · obtain ⟨rs, v, rfl, _⟩ := h
    rfl
  obtain ⟨rs, v, rfl, hc, nd, few, k⟩ := h
  obtain ⟨a, xs, rfl, hxs, hrs⟩ := hc.tupE
  have hle := hrs.len
  rw [List.length_map] at hle
  refine b_cut (fun σ1 H' => ∃ p, σ1 = [some (.ref a), some (.ref p), some (.int 0), none] ∧ Same H H' ∧ H p = none ∧ H' p = some (.dK [])) ?_ ?_
  · tm_at "go"
    refine e_dnew fun p hp => ?_
    tm_at "go"
    exact ⟨same_new hp, hp, upd_same⟩
  rintro _ H1 ⟨p, rfl, s1, n1, g1⟩
  tm_at "go"
  refine s_forT ?_
  tm_at "go"
  refine ⟨a, xs, rfl, (tp_same s1).sqt hxs, fun i σ1 H' => ∃ v3, σ1 = [some (.ref a), some (.ref p), some (.int (total (rs.take i))), v3] ∧ Same H H' ∧ Tp H H' ∧ H' p = some (.dK (spots (rs.take i) 0)), ⟨none, rfl, s1, tp_same s1, g1⟩, ?_, ?_, ?_⟩
  · rintro i σ' H' _ ⟨v3, rfl, s, t, g⟩
    exact t.sqt hxs
  · rintro i x σ' H' hx ⟨v3, rfl, s, t, g⟩
    obtain ⟨d, hd, hx'⟩ := hrs.getV hx
    rw [List.getElem?_map] at hd
    obtain ⟨r, hr, rfl⟩ := Option.map_eq_some_iff.mp hd
    obtain ⟨z1, z2⟩ := List.getElem?_eq_some_iff.mp hr
    have et := List.take_succ_eq_append_getElem z1
    rw [z2] at et
    have hx2 := hx'.mono t
    refine g_name (by tm_at "at") ?_
    tm_at "go"
    refine s_dput ?_
    tm_at "go"
    have gl : (spots (rs.take i) 0).length ≤ 10 := by rw [spots_len, List.length_take]; omega
    have nk : (Sum.inr r.1 : Key) ∉ (spots (rs.take i) 0).map (·.1) := by
      rw [spots_keys]
      intro hm
      obtain ⟨y, hy, e⟩ := List.mem_map.mp hm
      have e := Sum.inr.inj e
      subst e
      have nd2 : ((rs.take (i + 1)).map nameOf).Nodup := by
        rw [List.map_take]
        exact nd.sublist (List.take_sublist ..)
      rw [et, List.map_append, List.nodup_append] at nd2
      exact nd2.2.2 _ hy _ (List.mem_singleton.mpr rfl) rfl
    refine ⟨p, _, rfl, DPut.k (k := Sum.inr r.1) g (Nat.lt_of_le_of_lt gl (by decide)), ?_⟩
    rw [putK_new nk]
    have ku := kp_fd (o' := .dK (spots (rs.take i) 0 ++ [(Sum.inr r.1, .int (total (rs.take i)))])) g
    have hx3 := hx2.mono ku.t
    tm_at "go"
    refine ⟨some x, ?_, same_mut s n1, t.trans ku.t, ?_⟩
    · have e1 : total (rs.take (i + 1)) = total (rs.take i) + width r := by rw [et]; simp [total]
      have e2 : (if ((r.2.1 : Nat) : Int) > 1 then ((r.2.1 : Nat) : Int) else 1) = ((width r : Nat) : Int) := by unfold width; split <;> omega
      rw [e1, e2]
      rfl
    · rw [et, spots_snoc, Int.zero_add]
      exact upd_same
  · rintro σ' H' ⟨v3, rfl, s, t, g⟩
    rw [List.take_of_length_le (by omega)] at g
    tm_at "go"
    exact k _ _ s n1 g
end K

namespace K
open PySem PySem.Spec PyProof.Rows L2 G
section
variable {X : Cx}
/-- d.update(e), dicts with ints and texts for keys -/
def rUpdK : V → List V → Hp → VK → Prop := fun o args H Q => ∃ (d e : Addr) (kvs more : List (Key × V)), o = .ref d ∧ args = [.ref e] ∧ d ≠ e ∧ H d = some (.dK kvs) ∧ H e = some (.dK more) ∧ kvs.length + more.length ≤ 1000 ∧ Q .non (upd H d (.dK (mergeK kvs more)))
theorem mt_updK : MtR X "dict.update" rUpdK := by
  intro pins st σ H o args ov us Q J ro rargs z
  obtain ⟨d, e, kvs, more, rfl, rfl, ne, hd, he, few, k⟩ := z
  cases ro
  obtain rfl := Vals.ref1 rargs
  obtain ⟨_, nd, vs, rel, dd⟩ := dk_of J.hok hd
  obtain ⟨_, ned, ws, rel2, de⟩ := dk_of J.hok he
  have n1 := KV.length rel
  have n2 := KV.length rel2
  have fits : (mergeK kvs more).length ≤ sizeLine := by
    have := length_mergeK more kvs
    rw [sizeLine_eq]
    omega
  refine call_meetsIn PySem.F.slot_dict_update dd.typeIs PySem.F.entry_dict_update (PySem.F.args_dict_update_2 _ _) (meets_dict_update (mixKind X.prog X.w) d e ne ned) ⟨vs, ws, dd, de, by rw [sizeLine_eq]; omega, fun h' m1 _ sb => ?_⟩
  have J2 : Inv X pins σ (upd H d (.dK (mergeK kvs more))) { st with heap := h', toks := st.toks } := d_write J (by rw [hd]; exact True.intro) sb (let ⟨o, _, _, g, _⟩ := m1; ⟨o, g⟩) (dk_new fits nd (KV.merge rel2 rel) m1)
  exact ⟨.non, _, J2, rfl, k⟩
end
variable {M : Md}
theorem e_upd {c : Cd} {σ : L2.St} {H : Hp} {Q : VK} {o e : Expr} {apos pos : Pos} (q : RE c o σ H fun x H1 => ∃ d kvs, x = .ref d ∧ H1 d = some (.dK kvs) ∧ RE c e σ H1 fun y H2 => ∃ e kvs more, y = .ref e ∧ d ≠ e ∧ H2 d = some (.dK kvs) ∧ H2 e = some (.dK more) ∧ kvs.length + more.length ≤ 1000 ∧ Q .non (upd H2 d (.dK (mergeK kvs more))))
    (hbase : ∀ env, attributeBase o "update" env (eval o env) = eval o env := by intro _; rfl)
    (hfew : ∀ env, ((backTo pos (starEach [e] env)).all (fun x => !x.1) && (backToKw pos (keywordEach [] env)).all (fun x => x.1.isSome)
      && decide (([e] : List Expr).length + ([] : List Keyword).length + (if ([] : List Keyword).isEmpty then 0 else 1) < 30)) = true := by intro _; rfl)
    (hline : (apos.endLine == pos.line) = true := by rfl) (hs : ∀ env, starEach [e] env = (false, eval e env) :: starEach [] env := by intro _; rfl) (hpl : ∀ env, (backTo pos (starEach [] env)).any (·.1) = false := by intro _; rfl) :
    RE c (.Call (.Attribute o "update" apos) [e] [] pos) σ H Q := by
  refine e_bm PySem.F.plainAttrs_dict PySem.F.slot_dict_update PySem.F.type_dict_update (RE.mono (fun x H1 z => ?_) q) hbase hfew hline hs hpl
  obtain ⟨d, kvs, rfl, hd, z⟩ := z
  refine ⟨Or.inr (Or.inr (Or.inl ⟨rfl, Or.inl ⟨kvs, hd⟩⟩)), a_cons (RE.mono (fun y H2 z => a_nil ?_) z) hs⟩
  obtain ⟨e, kvs, more, rfl, ne, h1, h2, few, k⟩ := z
  exact rm_of (fun X h => mt_updK) ⟨d, e, kvs, more, rfl, rfl, ne, h1, h2, few, k⟩
/-! ### the law's own counting -/
def cnt1 (a b : Int) : List (Key × V) := [(Sum.inr "+", .int (a + b)), (Sum.inr "-", .int (a - b)), (Sum.inr "*", .int (a * b)), (Sum.inr "least", .int (if b < a then b else a)), (Sum.inr "most", .int (if b > a then b else a)), (Sum.inr "=", .int (if a = b then 1 else 0))]
def cnt2 (a b : Int) : List (Key × V) := [(Sum.inr "<", .int (if a < b then 1 else 0)), (Sum.inr "<=", .int (if a ≤ b then 1 else 0))]
def cws : List Str := ["+", "-", "*", "least", "most", "=", "<", "<="]
def rCnt : List PyData → PyData → Prop := fun ds d => ∃ (op : Str) (a b : Int), ds = [.str op, .int a, .int b] ∧ (a.natAbs < 2 ^ 400 ∧ b.natAbs < 2 ^ 400) ∧ (op ∈ cws ∨ (op ∈ kks ∧ 1 ≤ b ∧ b < 1000)) ∧ d = .int (bin2 op a b)
theorem cws_kks : ∀ op ∈ cws, op ∉ kks := by decide +kernel
theorem cnt_at (a b : Int) : ∀ op ∈ cws, valV (cnt1 a b ++ cnt2 a b) (Sum.inr op : Key) = some (.int (bin2 op a b)) := by
  intro op h
  have hs : op = "+" ∨ op = "-" ∨ op = "*" ∨ op = "least" ∨ op = "most" ∨ op = "=" ∨ op = "<" ∨ op = "<=" := by simpa [cws] using h
  have c1 : cmp2 "=" a b = decide (a = b) := by unfold cmp2; rw [if_pos rfl]
  have c2 : cmp2 "<" a b = decide (a < b) := by unfold cmp2; rw [if_neg (by decide +kernel), if_pos rfl]
  have c3 : cmp2 "<=" a b = decide (a ≤ b) := by unfold cmp2; rw [if_neg (by decide +kernel), if_neg (by decide +kernel)]
  unfold cnt1 cnt2 bin2
  rcases hs with rfl | rfl | rfl | rfl | rfl | rfl | rfl | rfl <;>
  · simp only [List.cons_append, List.nil_append]
    repeat rw [valV_neg (by dsimp only; decide +kernel)]
    rw [valV_pos rfl]
    refine congrArg (fun z => some (V.int z)) (Eq.symm ?_)
    repeat (first | rw [if_neg (by decide +kernel)] | rw [if_pos (by decide +kernel)])
    try simp only [c1, c2, c3, decide_eq_true_eq]
set_option maxHeartbeats 2000000 in
theorem ok_counted {f fd} (F : Fun M.K "_law_counted" "_law_counted" s__law_counted f fd) (b : Bl M) : FnG M.prog M.w M.K M.mg M.base CX0 1 f fd ["_law_word", "_law_a", "_law_b"] (spF rCnt M.K) := by
  refine fn_ok F sc__law_counted (fun vs H Q E h => ?_) (fun H vs Q E h => ?_)
  · obtain ⟨ds, d, h, ⟨op, x, y, rfl, _⟩, _⟩ := h
    exact h.len
  obtain ⟨ds, d, h, ⟨op, x, y, rfl, hb, hop, rfl⟩, k⟩ := h
  obtain _ | ⟨h1, h⟩ := h
  obtain _ | ⟨h2, h⟩ := h
  obtain _ | ⟨h3, h⟩ := h
  cases h
  cases h1
  cases h2
  cases h3
  refine b_cut (fun σ1 H' => σ1 = [some (.str op), some (.int x), some (.int y), none] ∧ Same H H' ∧ op ∈ cws) ?_ ?_
  · tm_at "go"
    refine e_tupD ?_
    tm_at "go"
    refine tupend (ds := kks.map .str) (dtStrs kks) (Nat.le_of_ble_eq_true rfl) fun v6 H6 s6 hv6 => ?_
    refine ro_inST hv6 ?_
    refine ⟨_, rfl, ifd (fun c1 => ?_) (fun c1 => ?_)⟩
    · have hy : 1 ≤ y ∧ y < 1000 := by
        rcases hop with h | h
        · exact absurd c1 (cws_kks op h)
        · exact h.2
      tm_at "go"
      refine ifd (fun c2 => ?_) (fun c2 => ?_)
      · subst c2
        tm_at "go"
        refine ro_div (by omega) (by omega) ?_
        exact k _ _ s6 (.int _)
      · have e : op = "mod" := by
          rcases List.mem_cons.mp c1 with e | e
          · exact absurd e c2
          · exact List.mem_singleton.mp e
        subst e
        tm_at "go"
        refine ro_mod (by omega) ?_
        exact k _ _ s6 (.int _)
    · tm_at "go"
      exact ⟨rfl, s6, hop.elim id fun h => absurd h.1 c1⟩
  rintro _ H1 ⟨rfl, s1, hw⟩
  tm_at "go"
  refine e_disp (fun X h => pps_cons (pe_re h) (pe_re h) (pps_cons (pe_re h) (pe_re h) (pps_cons (pe_re h) (pe_re h) (pps_cons (pe_re h) (pe_re h) (pps_cons (pe_re h) (pe_re h) (pps_cons (pe_re h) (pe_re h) pps_nil)))))) rfl rfl (by intro e; cases e) (by decide) ?_
  intro p hp
  simp only [tPairs]
  tm_at "go"
  refine ro_mulW (wide_mul hb.1 hb.2 (by decide) (by decide) (by decide)) ?_
  tm_at "go"
  refine ⟨upd_same, cnt1 x y, by unfold cnt1; simp only [decide_eq_true_eq]; rfl, (Nat.le_of_ble_eq_true rfl), ?_⟩
  have nd1 : (([] ++ cnt1 x y).map fun z : Key × V => z.1).Nodup := by
    show ([Sum.inr "+", Sum.inr "-", Sum.inr "*", Sum.inr "least", Sum.inr "most", Sum.inr "="] : List Key).Nodup
    decide +kernel
  rw [merge_new (cnt1 x y) [] nd1, List.nil_append]
  have s2 : Same H1 (upd (upd H1 p (.dK [])) p (.dK (cnt1 x y))) := same_mut (same_new hp) hp
  have g2 : (upd (upd H1 p (.dK [])) p (.dK (cnt1 x y))) p = _ := upd_same
  generalize upd (upd H1 p (.dK [])) p (.dK (cnt1 x y)) = H2 at *
  refine b_cons (s_expr ?_)
  refine e_upd ?_
  tm_at "go"
  refine ⟨p, _, rfl, g2, ?_⟩
  refine e_disp (fun X h => pps_cons (pe_re h) (pe_re h) (pps_cons (pe_re h) (pe_re h) pps_nil)) rfl rfl (by intro e; cases e) (by decide) ?_
  intro p2 hp2
  simp only [tPairs]
  tm_at "go"
  refine ⟨upd_same, cnt2 x y, by unfold cnt2; simp only [decide_eq_true_eq]; rfl, (Nat.le_of_ble_eq_true rfl), ?_⟩
  have nd2 : (([] ++ cnt2 x y).map fun z : Key × V => z.1).Nodup := by
    show ([Sum.inr "<", Sum.inr "<="] : List Key).Nodup
    decide +kernel
  rw [merge_new (cnt2 x y) [] nd2, List.nil_append]
  have s3 : Same H2 (upd (upd H2 p2 (.dK [])) p2 (.dK (cnt2 x y))) := same_mut (same_new hp2) hp2
  have g3 : (upd (upd H2 p2 (.dK [])) p2 (.dK (cnt2 x y))) p2 = _ := upd_same
  have np : p ≠ p2 := ne_of_none g2 hp2
  generalize upd (upd H2 p2 (.dK [])) p2 (.dK (cnt2 x y)) = H3 at *
  refine ⟨p2, cnt1 x y, cnt2 x y, rfl, np, s3 _ _ g2, g3, (Nat.le_of_ble_eq_true rfl), ?_⟩
  have nd3 : ((cnt1 x y ++ cnt2 x y).map fun z : Key × V => z.1).Nodup := by
    show ([Sum.inr "+", Sum.inr "-", Sum.inr "*", Sum.inr "least", Sum.inr "most", Sum.inr "=", Sum.inr "<", Sum.inr "<="] : List Key).Nodup
    decide +kernel
  rw [merge_new (cnt2 x y) (cnt1 x y) nd3]
  refine b_one (s_ret (e_dgetK ?_))
  tm_at "go"
  have np1 : H1 p = none := hp
  exact ⟨p, _, Sum.inr op, _, rfl, upd_same, rfl, cnt_at x y op hw, k _ _ (s1.trans (same_mut (s2.trans s3) np1)) (.int _)⟩
end K

namespace K
open PySem PySem.Spec PyProof.Rows L2 G
variable {M : Md}
/-! ### dicts out of lists of pairs -/
def entD (p : Int × Int) : PyData := .tuple [.int p.1, .int p.2]
def kvE (p : Int × Int) : Key × V := (Sum.inl p.1, .int p.2)
def kvS (p : Str × Int) : Key × V := (Sum.inr p.1, .int p.2)
def prD (p : Str × Int) : PyData := .tuple [.str p.1, .int p.2]
theorem ents_refs {K : PySem.W.Frag} {H : Hp} : ∀ {es : List (Int × Int)} {us : List V}, DtAll K H us (es.map entD) → ∃ ts : List Addr, us = ts.map V.ref ∧ Paired (fun p kv => SqT K H p [kV kv.1, kv.2]) ts (es.map kvE)
  | [], _, h => by cases h; exact ⟨[], rfl, .nil⟩
  | (i, j) :: es, _, h => by
    obtain _ | ⟨h1, h2⟩ := h
    obtain ⟨ts, rfl, hp⟩ := ents_refs h2
    obtain ⟨a, xs, rfl, ht, hd⟩ := (show Dt K H _ (.tuple [.int i, .int j]) from h1).tupE
    obtain _ | ⟨e1, hd⟩ := hd
    obtain _ | ⟨e2, hd⟩ := hd
    cases hd
    cases e1
    cases e2
    exact ⟨a :: ts, rfl, .cons ht hp⟩
theorem ents_strs {K : PySem.W.Frag} {H : Hp} : ∀ {es : List (Str × Int)} {us : List V}, DtAll K H us (es.map prD) → ∃ ts : List Addr, us = ts.map V.ref ∧ Paired (fun p kv => SqT K H p [kV kv.1, kv.2]) ts (es.map kvS)
  | [], _, h => by cases h; exact ⟨[], rfl, .nil⟩
  | (i, j) :: es, _, h => by
    obtain _ | ⟨h1, h2⟩ := h
    obtain ⟨ts, rfl, hp⟩ := ents_strs h2
    obtain ⟨a, xs, rfl, ht, hd⟩ := (show Dt K H _ (.tuple [.str i, .int j]) from h1).tupE
    obtain _ | ⟨e1, hd⟩ := hd
    obtain _ | ⟨e2, hd⟩ := hd
    cases hd
    cases e1
    cases e2
    exact ⟨a :: ts, rfl, .cons ht hp⟩
theorem rc_dictL {c : Cd} {H : Hp} {Q : VK} {a : Addr} {ts : List Addr} {kvs : List (Key × V)} (hl : SqL c.K H a (ts.map V.ref)) (hp : Paired (fun p kv => SqT c.K H p [kV kv.1, kv.2]) ts kvs) (q : ∀ p H', Same H H' → H p = none → H' p = some (.dK (mergeK [] kvs)) → Q (.ref p) H') : RC c (.type "dict") [.ref a] H Q :=
  rc_of (r := fun xs H Q => ∃ (a : Addr) (ps : List Addr) (kvs : List (Key × V)), xs = [.ref a] ∧ SqL c.K H a (ps.map V.ref) ∧ Paired (fun p kv => SqT c.K H p [kV kv.1, kv.2]) ps kvs ∧ ∀ p, H p = none → Q (.ref p) (upd H p (.dK (mergeK [] kvs)))) (fun X h => by rw [← h.K]; exact call_dictP h.calm) ⟨a, ts, kvs, rfl, hl, hp, fun p hn => q p _ (same_new hn) hn upd_same⟩
/-! ### the size of a table -/
def szE (r : Row) : Str × Int := (r.1, r.2.1)
theorem sizes_at {r : Row} : ∀ {rs : List Row}, (rs.map nameOf).Nodup → r ∈ rs → valV ((rs.map szE).map kvS) (Sum.inr r.1 : Key) = some (.int r.2.1)
  | q :: rs, nd, h => by
    rw [List.map_cons, List.nodup_cons] at nd
    rw [List.map_cons, List.map_cons]
    rcases List.mem_cons.mp h with rfl | h
    · exact valV_pos rfl
    · have ne : ¬ q.1 = r.1 := fun e => nd.1 (List.mem_map.mpr ⟨r, h, e.symm⟩)
      rw [valV_neg (fun z => ne (Sum.inr.inj z))]
      exact sizes_at nd.2 h
theorem row_same {rs : List Row} (nd : (rs.map nameOf).Nodup) {r q : Row} (h1 : r ∈ rs) (h2 : q ∈ rs) (e : r.1 = q.1) : r = q := by
  induction rs with
  | nil => cases h1
  | cons x rs ih =>
    rw [List.map_cons, List.nodup_cons] at nd
    rcases List.mem_cons.mp h1 with e1 | h3
    · rcases List.mem_cons.mp h2 with e2 | h4
      · rw [e1, e2]
      · refine absurd (show nameOf x ∈ rs.map nameOf from List.mem_map.mpr ⟨q, h4, ?_⟩) nd.1
        rw [← e1]
        exact e.symm
    · rcases List.mem_cons.mp h2 with e2 | h4
      · refine absurd (show nameOf x ∈ rs.map nameOf from List.mem_map.mpr ⟨r, h3, ?_⟩) nd.1
        rw [← e2]
        exact e
      · exact ih nd.2 h3 h4
def gSz : PyData → Option PyData
  | .tuple (n :: s :: _) => some (.tuple [n, s])
  | _ => none
theorem gSz_all (rs : List Row) : (rs.map rowD).filterMap gSz = (rs.map szE).map prD := by
  induction rs with
  | nil => rfl
  | cons r rs ih => rw [List.map_cons, List.filterMap_cons, List.map_cons, List.map_cons, ← ih]; rfl
theorem sizes_nd {rs : List Row} (nd : (rs.map nameOf).Nodup) : (([] ++ (rs.map szE).map kvS).map fun z : Key × V => z.1).Nodup := by
  have e : (([] ++ (rs.map szE).map kvS).map fun z : Key × V => z.1) = (rs.map nameOf).map (Sum.inr : Str → Key) := by simp [kvS, szE, nameOf, Function.comp_def]
  rw [e, List.nodup_iff_pairwise_ne, List.pairwise_map]
  exact (List.nodup_iff_pairwise_ne.mp nd).imp fun h e => h (Sum.inr.inj e)
/-! ### _law_at -/
def atR (rs : List Row) (st : St1) (t : Str) (o : Option Int) : Res := thn1 (keyed rs t (o, [])) fun j => (some (gt st j), [j])
theorem ev_at {rs : List Row} {st : St1} {t : Str} {e : Ex} : ev rs st (.at t e) = ((atR rs st t (ev rs st e).1).1, (ev rs st e).2 ++ (atR rs st t (ev rs st e).1).2) := by
  rw [ev, atR]
  unfold keyed
  cases h : (ev rs st e).1 with
  | none => exact congrArg (Prod.mk none) (List.append_nil _).symm
  | some v =>
    show thn1 (fIdx rs t (some v) 0, (ev rs st e).2) _ = ((thn1 (fIdx rs t (some v) 0, []) _).1, (ev rs st e).2 ++ (thn1 (fIdx rs t (some v) 0, []) _).2)
    cases h2 : fIdx rs t (some v) 0 with
    | none => exact congrArg (Prod.mk none) (List.append_nil _).symm
    | some j => rfl
/-- what a def does that writes looks down -/
def Wrote (K : PySem.W.Frag) (st : St1) (lk : Addr) (us : List V) (H : Hp) (js : List Int) (H' : Hp) : Prop := Kp lk H H' ∧ ∃ ws, H' lk = some (.lst (us ++ ws)) ∧ DtAll K H' ws (js.map (lookD st))
theorem Wrote.nil {K : PySem.W.Frag} {st : St1} {lk : Addr} {us : List V} {H H' : Hp} (g : H lk = some (.lst us)) (s : Same H H') : Wrote K st lk us H [] H' := ⟨kp_same s, [], by rw [List.append_nil]; exact s _ _ g, .nil⟩
theorem Wrote.same {K : PySem.W.Frag} {st : St1} {lk : Addr} {us : List V} {H H1 H' : Hp} {js : List Int} (h : Wrote K st lk us H js H1) (s : Same H1 H') : Wrote K st lk us H js H' := by
  obtain ⟨k, ws, g, d⟩ := h
  exact ⟨k.trans (kp_same s), ws, s _ _ g, d.mono (tp_same s)⟩
theorem Wrote.pre {K : PySem.W.Frag} {st : St1} {lk : Addr} {us : List V} {H H1 H' : Hp} {js : List Int} (s : Same H H1) (h : Wrote K st lk us H1 js H') : Wrote K st lk us H js H' := by
  obtain ⟨k, ws, g, d⟩ := h
  exact ⟨(kp_same s).trans k, ws, g, d⟩
def spAt (K : PySem.W.Frag) : Sp := fun vs H Q _ => ∃ (rs : List Row) (st : St1) (t : Str) (o : Option Int) (v1 v2 v4 : V) (lk : Addr) (us : List V), vs = [v1, v2, .str t, v4, .ref lk] ∧ Dt K H v1 (cellsD rs) ∧ Dt K H v2 (stD st) ∧ Dt K H v4 (optD o) ∧ H lk = some (.lst us) ∧ us.length ≤ 5000 ∧ StOk rs st ∧ (∃ r ∈ rs, r.1 = t) ∧
  ∀ v H', Wrote K st lk us H (atR rs st t o).2 H' → Dt K H' v (optD (atR rs st t o).1) → Q v H'
set_option maxHeartbeats 2000000 in
theorem ok_at {f fd} (F : Fun M.K "_law_at" "_law_at" s__law_at f fd) (b : Bl M) (ds : Dc M "_law_spots" ["_law_rows_here"] 1 (spSpots M.K)) : FnG M.prog M.w M.K M.mg M.base CX0 2 f fd ["_law_rows_here", "_law_state_in", "_law_name_in", "_law_which", "_law_looks"] (spAt M.K) := by
  refine fn_ok F sc__law_at (fun vs H Q E h => ?_) (fun H vs Q E h => ?_)
  · obtain ⟨rs, st, t, o, v1, v2, v4, lk, us, rfl, _⟩ := h
    rfl
  obtain ⟨rs, st, t, o, v1, v2, v4, la, us, rfl, hc, hst, ho, gl, few, S, ht, k⟩ := h
  obtain ⟨r, hr, j0, er, hsp, hfx⟩ := spot_row (rs := rs) (s := t) 0 ht
  have hsz := sizes_at S.nd hr
  rw [er] at hsz
  have rl := S.ri.len
  refine b_cut (fun σ1 H' => σ1 = [some v1, some v2, some (.str t), some v4, some (.ref la), some (.int r.2.1), none, none] ∧ Same H H') ?_ ?_
  · refine s_set (by tm_at "at") (e_dgetK ?_)
    tm_at "go"
    refine e_lc (own := [("_law_own", 7)]) (Blk.of (N := N__law_at) (sc := defScope s__law_at) rfl rfl (by decide +kernel)) ?_
    refine lcT_F gSz ?_
    tm_at "go"
    refine ⟨rs.map rowD, hc, by rw [List.length_map]; omega, fun d x H' hd s hx => ?_, fun l us H1 s1 n1 g1 h1 => ?_⟩
    · obtain ⟨q, hq, rfl⟩ := List.mem_map.mp hd
      refine g_name (by tm_at "at") ⟨rfl, rfl, ts_nil ⟨Same.refl _, ift ?_⟩⟩
      refine e_tupD ?_
      tm_at "go"
      refine tupend (ds := [.str q.1, .int q.2.1]) (by tm_at "dts") (Nat.le_of_ble_eq_true rfl) fun v9 H9 s9 h9 => ?_
      exact ⟨s9, _, rfl, h9⟩
    rw [gSz_all] at h1
    obtain ⟨ts, rfl, hp⟩ := ents_strs h1
    tm_at "go"
    refine rc_dictL (.of g1) hp fun p H2 s2 n2 g2 => ?_
    rw [merge_new _ [] (sizes_nd S.nd), List.nil_append] at g2
    tm_at "go"
    exact ⟨p, _, Sum.inr t, _, rfl, g2, rfl, hsz, rfl, s1.trans s2⟩
  rintro _ H1 ⟨rfl, s1⟩
  rcases optN ho with ⟨rfl, rfl⟩ | ⟨w, rfl, rfl⟩
  · tm_at "go"
    have e : atR rs st t none = (none, []) := rfl
    rw [e] at k
    exact k _ _ (Wrote.nil gl s1) .non
  have ea : atR rs st t (some w) = thn1 (hit r (some w) j0, []) fun j => (some (gt st j), [j]) := by
    unfold atR keyed
    show thn1 (fIdx rs t (some w) 0, []) _ = _
    rw [hfx]
  rw [ea, hit] at k
  have out : ¬ (0 ≤ w ∧ w < r.2.1) → Q .non H1 := fun h => by
    rw [if_neg h] at k
    exact k _ _ (Wrote.nil gl s1) .non
  tm_at "go"
  refine ifd (fun c1 => ?_) (fun c1 => ?_)
  · tm_at "go"
    refine ifnd (fun c2 => ?_) (fun c2 => ?_)
    · tm_at "go"
      exact out fun h => c2 h.2
    · have hj : fIdx rs t (some w) 0 = some (j0 + w) := by rw [hfx, hit, if_pos ⟨c1, c2⟩]
      obtain ⟨x0, x1⟩ := fIdx_in hj
      rw [if_pos ⟨c1, c2⟩] at k
      refine b_nil ?_
      refine b_cons (s_set (by tm_at "at") (e_bin (e_dgetK ?_)))
      refine e_call ds ?_
      tm_at "go"
      refine ⟨rs, v1, rfl, hc.mono (tp_same s1), S.nd, rl, fun p H2 s2 n2 g2 => ?_⟩
      tm_at "go"
      refine ⟨p, _, Sum.inr t, _, rfl, g2, rfl, hsp, ?_⟩
      tm_at "go"
      have s12 := s1.trans s2
      refine s_expr ?_
      refine e_app ?_
      tm_at "go"
      refine ⟨la, us, rfl, s12 _ _ gl, ?_⟩
      refine e_tupD ?_
      tm_at "go"
      refine rx_int (hst.mono (tp_same s12)) (gt_at S (by omega) (by omega)) ?_
      tm_at "go"
      refine tupend (ds := [.int (j0 + w), .int (gt st (j0 + w))]) (by tm_at "dts") (Nat.le_of_ble_eq_true rfl) fun v9 H9 s9 h9 => ?_
      have s19 := s12.trans s9
      have g9 := s19 _ _ gl
      have ku := kp_upd (o' := .lst (us ++ [v9])) g9 (fun _ e => nomatch e) (fun _ _ e => nomatch e)
      refine ⟨us, g9, by omega, ?_⟩
      tm_at "go"
      refine rx_int (hst.mono ((tp_same s19).trans ku.t)) (gt_at S (by omega) (by omega)) ?_
      exact k _ _ ⟨(kp_same s19).trans ku, [v9], upd_same, .cons (h9.mono ku.t) .nil⟩ (.int _)
  · tm_at "go"
    exact out fun h => c1 h.1
end K

namespace K
open PySem PySem.Spec PyProof.Rows L2 G
variable {M : Md}
theorem Wrote.seq {K : PySem.W.Frag} {st : St1} {lk : Addr} {us ws : List V} {H H1 H2 : Hp} {js js' : List Int} (k1 : Kp lk H H1) (d1 : DtAll K H1 ws (js.map (lookD st))) (h : Wrote K st lk (us ++ ws) H1 js' H2) : Wrote K st lk us H (js ++ js') H2 := by
  obtain ⟨k2, ws2, g2, d2⟩ := h
  refine ⟨k1.trans k2, ws ++ ws2, by rw [← List.append_assoc]; exact g2, ?_⟩
  rw [List.map_append]
  exact (d1.mono k2.t).app d2
def spVal (n : Nat) (K : PySem.W.Frag) : Sp := fun vs H Q _ => ∃ (rs : List Row) (st : St1) (e : Ex) (v1 v2 v3 : V) (lk : Addr) (us : List V), vs = [v1, v2, v3, .ref lk] ∧ Dt K H v1 (cellsD rs) ∧ Dt K H v2 (stD st) ∧ Dt K H v3 e.d ∧ H lk = some (.lst us) ∧ us.length + 2 ^ (n + 1) ≤ 5000 ∧ EvIn rs st e n ∧
  ∀ v H', Wrote K st lk us H (ev rs st e).2 H' → Dt K H' v (optD (ev rs st e).1) → Q v H'
def spLaz (n : Nat) (K : PySem.W.Frag) : Sp := fun vs H Q _ => ∃ (rs : List Row) (st : St1) (e : Ex) (v1 v2 v3 : V) (lk : Addr) (us : List V), vs = [v1, v2, v3, .ref lk] ∧ Dt K H v1 (cellsD rs) ∧ Dt K H v2 (stD st) ∧ Dt K H v3 e.d ∧ H lk = some (.lst us) ∧ us.length + 2 ^ (n + 2) ≤ 5000 ∧ EvIn rs st e (n + 1) ∧ lazyE e ∧
  ∀ v H', Wrote K st lk us H (ev rs st e).2 H' → Dt K H' v (optD (ev rs st e).1) → Q v H'
abbrev dcVal (M : Md) (n : Nat) : Prop := Dc M "_law_value" ["_law_rows_here", "_law_state_in", "_law_e", "_law_looks"] (2 * n + 3) (spVal n M.K)
abbrev dcLaz (M : Md) (n : Nat) : Prop := Dc M "_law_lazy" ["_law_rows_here", "_law_state_in", "_law_e", "_law_looks"] (2 * n + 4) (spLaz n M.K)
/-- a call of _law_value that a def makes on its own list of looks -/
theorem looks_le {rs : List Row} {st : St1} {e : Ex} {n : Nat} {K : PySem.W.Frag} {H : Hp} {ws : List V} (hd : e.dep ≤ n) (d : DtAll K H ws ((ev rs st e).2.map (lookD st))) : ws.length ≤ 2 ^ (n + 1) := by
  rw [d.len, List.length_map]
  exact evL e n hd
set_option maxHeartbeats 4000000 in
theorem ok_laz (n : Nat) {f fd} (F : Fun M.K "_law_lazy" "_law_lazy" s__law_lazy f fd) (b : Bl M) (dv : dcVal M n) : FnG M.prog M.w M.K M.mg M.base CX0 (2 * n + 4) f fd ["_law_rows_here", "_law_state_in", "_law_e", "_law_looks"] (spLaz n M.K) := by
  refine fn_ok F sc__law_lazy (fun vs H Q E h => ?_) (fun H vs Q E h => ?_)
  · obtain ⟨rs, st, e, v1, v2, v3, lk, us, rfl, _⟩ := h
    rfl
  obtain ⟨rs, st, e, v1, v2, v3, la, us, rfl, hc, hst, he, gl, few, hi, lz, k⟩ := h
  have S := hi.S
  have n4 := hi.n8
  have q0 := Nat.two_pow_pos n
  have p2 : 2 ^ (n + 2) = 2 ^ (n + 1) + 2 ^ (n + 1) := by rw [Nat.pow_succ 2 (n + 1)]; omega
  cases e with
  | int => exact lz.elim
  | nm => exact lz.elim
  | «at» => exact lz.elim
  | un => exact lz.elim
  | kk => exact lz.elim
  | ite ea eb ed =>
    have da : EvIn rs st ea n := ⟨S, hi.fit.1, by have := hi.dep; unfold Ex.dep at this; omega, by omega, hi.vb.2.1⟩
    have db : EvIn rs st eb n := ⟨S, hi.fit.2.1, by have := hi.dep; unfold Ex.dep at this; omega, by omega, hi.vb.2.2.1⟩
    have dd : EvIn rs st ed n := ⟨S, hi.fit.2.2, by have := hi.dep; unfold Ex.dep at this; omega, by omega, hi.vb.2.2.2⟩
    refine b_cons (s_set (by tm_at "at") ?_)
    refine e_call dv ?_ (by show 2 * n + 3 ≤ 2 * n + 3; omega)
    tm_at "go"
    refine rx_tup he (d := ea.d) rfl fun v2 h2 => ?_
    tm_at "go"
    refine ⟨rs, st, ea, _, _, _, la, us, rfl, hc, hst, h2, gl, by omega, da, fun va H1 w1 ha => ?_⟩
    obtain ⟨k1, ws, g1, d1⟩ := w1
    have lw := looks_le da.dep d1
    show RB _ _ _ _ _
    rcases optN ha with ⟨eo, rfl⟩ | ⟨x, eo, rfl⟩
    · tm_at "go"
      have e : ev rs st (.ite ea eb ed) = (none, (ev rs st ea).2) := by rw [ev, thn1_none eo]
      rw [e] at k
      exact k _ _ ⟨k1, ws, g1, d1⟩ .non
    · have e : ev rs st (.ite ea eb ed) = ((if x ≠ 0 then ev rs st eb else ev rs st ed).1, (ev rs st ea).2 ++ (if x ≠ 0 then ev rs st eb else ev rs st ed).2) := by rw [ev, thn1_val eo]
      rw [e] at k
      have he1 : Dt M.K H1 v3 (.tuple [.str "if", ea.d, eb.d, ed.d]) := he.mono k1.t
      tm_at "go"
      refine e_call dv ?_ (by show 2 * n + 3 ≤ 2 * n + 3; omega)
      tm_at "go"
      refine ifnd (fun c => ?_) (fun c => ?_)
      · rw [if_pos c] at k
        tm_at "go"
        refine rx_tup he1 (d := eb.d) rfl fun v5 h5 => ?_
        tm_at "go"
        exact ⟨rs, st, eb, _, _, _, la, us ++ ws, rfl, hc.mono k1.t, hst.mono k1.t, h5, g1, by rw [List.length_append]; omega, db, fun vb H2 w2 hb => k _ _ (Wrote.seq k1 d1 w2) hb⟩
      · rw [if_neg (fun h => h c)] at k
        tm_at "go"
        refine rx_tup he1 (d := ed.d) rfl fun v5 h5 => ?_
        tm_at "go"
        exact ⟨rs, st, ed, _, _, _, la, us ++ ws, rfl, hc.mono k1.t, hst.mono k1.t, h5, g1, by rw [List.length_append]; omega, dd, fun vb H2 w2 hb => k _ _ (Wrote.seq k1 d1 w2) hb⟩
  | bin op ea eb =>
    have da : EvIn rs st ea n := ⟨S, hi.fit.2.1, by have := hi.dep; unfold Ex.dep at this; omega, by omega, hi.vb.2.1⟩
    have db : EvIn rs st eb n := ⟨S, hi.fit.2.2, by have := hi.dep; unfold Ex.dep at this; omega, by omega, hi.vb.2.2⟩
    have hop : op = "and" ∨ op = "or" := by
      have h : isLazy op = true := lz
      unfold isLazy at h
      simpa using h
    have nif : ¬ op = "if" := by rcases hop with rfl | rfl <;> decide +kernel
    refine b_cons (s_set (by tm_at "at") ?_)
    refine e_call dv ?_ (by show 2 * n + 3 ≤ 2 * n + 3; omega)
    tm_at "go"
    refine rx_tup he (d := ea.d) rfl fun v2 h2 => ?_
    tm_at "go"
    refine ⟨rs, st, ea, _, _, _, la, us, rfl, hc, hst, h2, gl, by omega, da, fun va H1 w1 ha => ?_⟩
    obtain ⟨k1, ws, g1, d1⟩ := w1
    have lw := looks_le da.dep d1
    show RB _ _ _ _ _
    have ev1 : ev rs st (.bin op ea eb) = thn1 (ev rs st ea) fun v => if decide (v ≠ 0) = decide (op = "or") then (some (b2 (v ≠ 0)), []) else thn1 (ev rs st eb) fun w => (some (b2 (w ≠ 0)), []) := by
      rw [ev, if_pos (show isLazy op = true from lz)]
    rcases optN ha with ⟨eo, rfl⟩ | ⟨x, eo, rfl⟩
    · tm_at "go"
      rw [ev1, thn1_none eo] at k
      exact k _ _ ⟨k1, ws, g1, d1⟩ .non
    · rw [ev1, thn1_val eo] at k
      have he1 : Dt M.K H1 v3 (.tuple [.str op, ea.d, eb.d]) := he.mono k1.t
      tm_at "go"
      refine ifF nif ?_
      tm_at "go"
      have nx : (!decide (x = 0)) = decide (x ≠ 0) := by simp
      rw [nx]
      refine ifd (fun c => ?_) (fun c => ?_)
      · rw [if_pos c] at k
        tm_at "go"
        have e9 : (if decide (op = "or") = true then (1 : Int) else 0) = b2 (x ≠ 0) := by rw [← c]; exact dib
        rw [e9]
        exact k _ _ (Wrote.seq k1 d1 (Wrote.nil g1 (Same.refl _))) (.int _)
      · rw [if_neg c] at k
        tm_at "go"
        refine e_call dv ?_ (by show 2 * n + 3 ≤ 2 * n + 3; omega)
        tm_at "go"
        refine rx_tup he1 (d := eb.d) rfl fun v5 h5 => ?_
        tm_at "go"
        refine ⟨rs, st, eb, _, _, _, la, us ++ ws, rfl, hc.mono k1.t, hst.mono k1.t, h5, g1, by rw [List.length_append]; omega, db, fun vb H2 w2 hb => ?_⟩
        show RB _ _ _ _ _
        rcases optN hb with ⟨eb2, rfl⟩ | ⟨y, eb2, rfl⟩
        · rw [thn1_none eb2] at k
          tm_at "go"
          exact k _ _ (Wrote.seq k1 d1 w2) .non
        · rw [thn1_val eb2] at k
          simp only [List.append_nil] at k
          tm_at "go"
          have ny : (!decide (y = 0)) = decide (y ≠ 0) := by simp
          rw [ny, dib]
          exact k _ _ (Wrote.seq k1 d1 w2) (.int _)
end K

namespace K
open PySem PySem.Spec PyProof.Rows L2 G
variable {M : Md}
theorem cws_of {op : Str} (h : op ∈ bins) (hl : ¬ isLazy op = true) : op ∈ cws := by
  have : ∀ op ∈ bins, ¬ isLazy op = true → op ∈ cws := by decide +kernel
  exact this op h hl
theorem bins_un : ∀ op ∈ bins, op ∉ uns ∧ op ≠ "at" := by decide +kernel
theorem kks_un : ∀ op ∈ kks, op ∉ uns ∧ op ≠ "at" ∧ op ∉ lazyW := by decide +kernel
theorem uns_un : ∀ op ∈ uns, op ≠ "at" ∧ op ∉ lazyW ∧ (op = "not" ∨ op = "neg") := by decide +kernel
theorem lazy_bin : ∀ op ∈ bins, (op ∈ lazyW ↔ isLazy op = true) := by decide +kernel
set_option maxHeartbeats 8000000 in
theorem ok_val (n : Nat) {f fd} (F : Fun M.K "_law_value" "_law_value" s__law_value f fd) (b : Bl M) (ds : Dc M "_law_spots" ["_law_rows_here"] 1 (spSpots M.K)) (da : Dc M "_law_at" ["_law_rows_here", "_law_state_in", "_law_name_in", "_law_which", "_law_looks"] 2 (spAt M.K)) (dc : Dc M "_law_counted" ["_law_word", "_law_a", "_law_b"] 1 (spF rCnt M.K))
    (rec : ∀ m, n = m + 1 → dcVal M m ∧ dcLaz M m) : FnG M.prog M.w M.K M.mg M.base CX0 (2 * n + 3) f fd ["_law_rows_here", "_law_state_in", "_law_e", "_law_looks"] (spVal n M.K) := by
  refine fn_ok F sc__law_value (fun vs H Q E h => ?_) (fun H vs Q E h => ?_)
  · obtain ⟨rs, st, e, v1, v2, v3, lk, us, rfl, _⟩ := h
    rfl
  obtain ⟨rs, st, e, v1, v2, v3, la, us, rfl, hc, hst, he, gl, few, hi, k⟩ := h
  have S := hi.S
  have n4 := hi.n8
  have q0 := Nat.two_pow_pos n
  have rl := S.ri.len
  refine b_cut (fun σ1 H' => isIntD e.d = false ∧ Same H H' ∧ σ1 = [some v1, some v2, some v3, some (.ref la), none, none, none]) ?_ ?_
  · tm_at "go"
    refine t_val ?_
    tm_at "go"
    refine rc_isiD e.plain he ?_
    refine ⟨_, rfl, ifb (fun c1 => ?_) (fun c1 => ?_)⟩
    · tm_at "go"
      cases e with
      | int i =>
        rw [ev] at k
        exact k _ _ (Wrote.nil gl (Same.refl _)) he
      | nm => cases c1
      | «at» => cases c1
      | un => cases c1
      | bin => cases c1
      | kk => cases c1
      | ite => cases c1
    · tm_at "go"
      exact ⟨c1, Same.refl _, rfl⟩
  rintro _ H1 ⟨ci, s1, rfl⟩
  have he1 := he.mono (tp_same s1)
  have hc1 := hc.mono (tp_same s1)
  have hst1 := hst.mono (tp_same s1)
  have gl1 := s1 _ _ gl
  cases e with
  | int => cases ci
  | nm s =>
    cases he1
    tm_at "go"
    refine t_val ?_
    tm_at "go"
    refine rc_isi (.base (.str s)) rfl ?_
    refine ⟨true, rfl, ift ?_⟩
    obtain ⟨hx, x0, x1⟩ := ix_ok S.nd hi.fit
    obtain ⟨r, hr, er, e0⟩ := hi.fit
    obtain ⟨r2, hr2, j0, er2, hsp, hfx⟩ := spot_row (rs := rs) (s := s) 0 ⟨r, hr, er⟩
    obtain rfl := row_same S.nd hr hr2 (er.trans er2.symm)
    have ej : j0 = ix rs s := by
      have h := hfx none
      rw [hx, hit, if_pos (by omega)] at h
      exact (Option.some.inj h).symm
    subst ej
    rw [ev] at k
    refine b_cons (s_set (by tm_at "at") (e_dgetK ?_))
    refine e_call ds ?_
    tm_at "go"
    refine ⟨rs, v1, rfl, hc1, S.nd, rl, fun p H2 s2 n2 g2 => ?_⟩
    tm_at "go"
    refine ⟨p, _, Sum.inr s, _, rfl, g2, rfl, hsp, ?_⟩
    have s12 := s1.trans s2
    show RB _ _ _ _ _
    refine b_cons (s_expr ?_)
    refine e_app ?_
    tm_at "go"
    refine ⟨la, us, rfl, s12 _ _ gl, ?_⟩
    refine e_tupD ?_
    tm_at "go"
    refine rx_int (hst.mono (tp_same s12)) (gt_at S (by omega) (by omega)) ?_
    tm_at "go"
    refine tupend (ds := [.int (ix rs s), .int (gt st (ix rs s))]) (by tm_at "dts") (Nat.le_of_ble_eq_true rfl) fun v9 H9 s9 h9 => ?_
    have s19 := s12.trans s9
    have g9 := s19 _ _ gl
    have ku := kp_upd (o' := .lst (us ++ [v9])) g9 (fun _ e => nomatch e) (fun _ _ e => nomatch e)
    refine ⟨us, g9, by omega, ?_⟩
    tm_at "go"
    refine rx_int (hst.mono ((tp_same s19).trans ku.t)) (gt_at S (by omega) (by omega)) ?_
    exact k _ _ ⟨(kp_same s19).trans ku, [v9], upd_same, .cons (h9.mono ku.t) .nil⟩ (.int _)
  | «at» t e =>
    obtain ⟨m, rfl⟩ : ∃ m, n = m + 1 := ⟨n - 1, by have := hi.dep; unfold Ex.dep at this; omega⟩
    obtain ⟨dv, dl⟩ := rec m rfl
    have ie : EvIn rs st e m := ⟨S, hi.fit.2, by have := hi.dep; unfold Ex.dep at this; omega, by omega, hi.vb.2⟩
    obtain ⟨ae, xe, rfl, hte, hde⟩ := he1.tupE
    rw [ev_at] at k
    tm_at "go"
    refine t_val ?_
    tm_at "go"
    refine rc_isi (ty_tup hte) rfl ?_
    refine ⟨false, rfl, iff0 ?_⟩
    tm_at "go"
    refine e_call da ?_ (by show 2 ≤ 2 * (m + 1) + 2; omega)
    tm_at "go"
    refine e_call dv ?_ (by show 2 * m + 3 ≤ 2 * (m + 1) + 2; omega)
    tm_at "go"
    refine rx_tup he1 (d := e.d) rfl fun v5 h5 => ?_
    tm_at "go"
    have lim : us.length + 2 ^ (m + 1) ≤ 5000 := by rw [Nat.pow_succ 2 (m + 1)] at few; omega
    refine ⟨rs, st, e, _, _, _, la, us, rfl, hc1, hst1, h5, gl1, lim, ie, fun vw H2 w2 hw => ?_⟩
    obtain ⟨k2, ws, g2, d2⟩ := w2
    have lw := looks_le ie.dep d2
    tm_at "go"
    refine ⟨rs, st, t, _, _, _, _, la, us ++ ws, rfl, hc1.mono k2.t, hst1.mono k2.t, hw, g2, by rw [List.length_append]; omega, S, ?_, fun v H3 w3 hv => ?_⟩
    · obtain ⟨r, hr, er, _⟩ := hi.fit.1
      exact ⟨r, hr, er⟩
    · exact k _ _ (Wrote.pre s1 (Wrote.seq k2 d2 w3)) hv
  | ite ea eb ed =>
    obtain ⟨m, rfl⟩ : ∃ m, n = m + 1 := ⟨n - 1, by have := hi.dep; unfold Ex.dep at this; omega⟩
    obtain ⟨dv, dl⟩ := rec m rfl
    obtain ⟨ae, xe, rfl, hte, hde⟩ := he1.tupE
    tm_at "go"
    refine t_val ?_
    tm_at "go"
    refine rc_isi (ty_tup hte) rfl ?_
    refine ⟨false, rfl, iff0 ?_⟩
    tm_at "go"
    refine e_tupD ?_
    tm_at "go"
    refine tupend (ds := lazyW.map .str) (dtStrs lazyW) (Nat.le_of_ble_eq_true rfl) fun v6 H6 s6 hv6 => ?_
    refine ro_inST hv6 ?_
    refine ⟨_, rfl, ifT (by decide +kernel) ?_⟩
    tm_at "go"
    refine e_call dl ?_ (by show 2 * m + 4 ≤ 2 * (m + 1) + 2; omega)
    tm_at "go"
    refine ⟨rs, st, _, _, _, _, la, us, rfl, hc1.mono (tp_same s6), hst1.mono (tp_same s6), he1.mono (tp_same s6), s6 _ _ gl1, few, hi, trivial, fun v H3 w3 hv => ?_⟩
    exact k _ _ (Wrote.pre (s1.trans s6) w3) hv
  | bin op ea eb =>
    obtain ⟨m, rfl⟩ : ∃ m, n = m + 1 := ⟨n - 1, by have := hi.dep; unfold Ex.dep at this; omega⟩
    obtain ⟨dv, dl⟩ := rec m rfl
    have ia : EvIn rs st ea m := ⟨S, hi.fit.2.1, by have := hi.dep; unfold Ex.dep at this; omega, by omega, hi.vb.2.1⟩
    have ib : EvIn rs st eb m := ⟨S, hi.fit.2.2, by have := hi.dep; unfold Ex.dep at this; omega, by omega, hi.vb.2.2⟩
    obtain ⟨ae, xe, rfl, hte, hde⟩ := he1.tupE
    have hop := bins_un op hi.fit.1
    tm_at "go"
    refine t_val ?_
    tm_at "go"
    refine rc_isi (ty_tup hte) rfl ?_
    refine ⟨false, rfl, iff0 ?_⟩
    tm_at "go"
    refine ifd (fun c => absurd c hop.2) (fun _ => ?_)
    tm_at "go"
    refine e_tupD ?_
    tm_at "go"
    refine tupend (ds := lazyW.map .str) (dtStrs lazyW) (Nat.le_of_ble_eq_true rfl) fun v6 H6 s6 hv6 => ?_
    refine ro_inST hv6 ?_
    refine ⟨_, rfl, ifd (fun c2 => ?_) (fun c2 => ?_)⟩
    · tm_at "go"
      refine e_call dl ?_ (by show 2 * m + 4 ≤ 2 * (m + 1) + 2; omega)
      tm_at "go"
      refine ⟨rs, st, _, _, _, _, la, us, rfl, hc1.mono (tp_same s6), hst1.mono (tp_same s6), he1.mono (tp_same s6), s6 _ _ gl1, few, hi, (lazy_bin op hi.fit.1).mp c2, fun v H3 w3 hv => ?_⟩
      exact k _ _ (Wrote.pre (s1.trans s6) w3) hv
    · have nl : ¬ isLazy op = true := fun h => c2 ((lazy_bin op hi.fit.1).mpr h)
      have ev1 : ev rs st (.bin op ea eb) = thn1 (ev rs st ea) fun v => thn1 (ev rs st eb) fun w => (some (bin2 op v w), []) := by rw [ev, if_neg nl]
      rw [ev1] at k
      have s16 := s1.trans s6
      have he6 : Dt M.K H6 (.ref ae) (.tuple [.str op, ea.d, eb.d]) := he1.mono (tp_same s6)
      have lim : us.length + 2 ^ (m + 1) + 2 ^ (m + 1) ≤ 5000 := by rw [Nat.pow_succ 2 (m + 1)] at few; omega
      refine b_nil ?_
      refine b_cons (s_set (by tm_at "at") ?_)
      refine e_call dv ?_ (by show 2 * m + 3 ≤ 2 * (m + 1) + 2; omega)
      tm_at "go"
      refine rx_tup he6 (d := ea.d) rfl fun v5 h5 => ?_
      tm_at "go"
      refine ⟨rs, st, ea, _, _, _, la, us, rfl, hc1.mono (tp_same s6), hst1.mono (tp_same s6), h5, s6 _ _ gl1, by omega, ia, fun vx H7 w7 hx => ?_⟩
      obtain ⟨k7, ws, g7, d7⟩ := w7
      have lw := looks_le ia.dep d7
      have he7 := he6.mono k7.t
      show RB _ _ _ _ _
      rcases optN hx with ⟨eo, rfl⟩ | ⟨x, eo, rfl⟩
      · rw [thn1_none eo] at k
        tm_at "go"
        exact k _ _ (Wrote.pre s16 ⟨k7, ws, g7, d7⟩) .non
      · rw [thn1_val eo] at k
        tm_at "go"
        refine e_tupD ?_
        tm_at "go"
        refine tupend (ds := uns.map .str) (dtStrs uns) (Nat.le_of_ble_eq_true rfl) fun v8 H8 s8 hv8 => ?_
        refine ro_inST hv8 ?_
        refine ⟨_, rfl, ifF hop.1 ?_⟩
        have he8 := he7.mono (tp_same s8)
        have k8 := k7.trans (kp_same (m := la) s8)
        have d8 := d7.mono (tp_same s8)
        refine b_nil ?_
        refine b_cons (s_set (by tm_at "at") ?_)
        refine e_call dv ?_ (by show 2 * m + 3 ≤ 2 * (m + 1) + 2; omega)
        tm_at "go"
        refine rx_tup he8 (d := eb.d) rfl fun v9 h9 => ?_
        tm_at "go"
        refine ⟨rs, st, eb, _, _, _, la, us ++ ws, rfl, hc1.mono ((tp_same s6).trans k8.t), hst1.mono ((tp_same s6).trans k8.t), h9, s8 _ _ g7, by rw [List.length_append]; omega, ib, fun vy H9 w9 hy => ?_⟩
        obtain ⟨k9, ws2, g9, d9⟩ := w9
        have he9 := he8.mono k9.t
        show RB _ _ _ _ _
        rcases optN hy with ⟨eo2, rfl⟩ | ⟨y, eo2, rfl⟩
        · rw [thn1_none eo2] at k
          tm_at "go"
          exact k _ _ (Wrote.pre s16 (Wrote.seq k8 d8 ⟨k9, ws2, g9, d9⟩)) .non
        · rw [thn1_val eo2] at k
          simp only [List.append_nil] at k
          have hb1 := ia.vb.own _ eo
          have hb2 := ib.vb.own _ eo2
          tm_at "go"
          refine e_callF dc ?_ (by show 1 ≤ 2 * (m + 1) + 2; omega)
          tm_at "go"
          exact ⟨_, _, .cons (.str _) (.cons (.int _) (.cons (.int _) .nil)), ⟨op, x, y, rfl, ⟨hb1, hb2⟩, .inl (cws_of hi.fit.1 nl), rfl⟩, fun vz H10 s10 hz => k _ _ (Wrote.same (Wrote.pre s16 (Wrote.seq k8 d8 ⟨k9, ws2, g9, d9⟩)) s10) hz⟩
  | un op ea =>
    obtain ⟨m, rfl⟩ : ∃ m, n = m + 1 := ⟨n - 1, by have := hi.dep; unfold Ex.dep at this; omega⟩
    obtain ⟨dv, dl⟩ := rec m rfl
    have ia : EvIn rs st ea m := ⟨S, hi.fit.2, by have := hi.dep; unfold Ex.dep at this; omega, by omega, hi.vb.2⟩
    obtain ⟨ae, xe, rfl, hte, hde⟩ := he1.tupE
    have hop := uns_un op hi.fit.1
    rw [ev] at k
    tm_at "go"
    refine t_val ?_
    tm_at "go"
    refine rc_isi (ty_tup hte) rfl ?_
    refine ⟨false, rfl, iff0 ?_⟩
    tm_at "go"
    refine ifd (fun c => absurd c hop.1) (fun _ => ?_)
    tm_at "go"
    refine e_tupD ?_
    tm_at "go"
    refine tupend (ds := lazyW.map .str) (dtStrs lazyW) (Nat.le_of_ble_eq_true rfl) fun v6 H6 s6 hv6 => ?_
    refine ro_inST hv6 ?_
    refine ⟨_, rfl, ifF hop.2.1 ?_⟩
    have s16 := s1.trans s6
    have he6 : Dt M.K H6 (.ref ae) (.tuple [.str op, ea.d]) := he1.mono (tp_same s6)
    have lim : us.length + 2 ^ (m + 1) ≤ 5000 := by rw [Nat.pow_succ 2 (m + 1)] at few; omega
    refine b_nil ?_
    refine b_cons (s_set (by tm_at "at") ?_)
    refine e_call dv ?_ (by show 2 * m + 3 ≤ 2 * (m + 1) + 2; omega)
    tm_at "go"
    refine rx_tup he6 (d := ea.d) rfl fun v5 h5 => ?_
    tm_at "go"
    refine ⟨rs, st, ea, _, _, _, la, us, rfl, hc1.mono (tp_same s6), hst1.mono (tp_same s6), h5, s6 _ _ gl1, by omega, ia, fun vx H7 w7 hx => ?_⟩
    obtain ⟨k7, ws, g7, d7⟩ := w7
    have he7 := he6.mono k7.t
    show RB _ _ _ _ _
    rcases optN hx with ⟨eo, rfl⟩ | ⟨x, eo, rfl⟩
    · rw [thn1_none eo] at k
      tm_at "go"
      exact k _ _ (Wrote.pre s16 ⟨k7, ws, g7, d7⟩) .non
    · rw [thn1_val eo] at k
      simp only [List.append_nil] at k
      tm_at "go"
      refine e_tupD ?_
      tm_at "go"
      refine tupend (ds := uns.map .str) (dtStrs uns) (Nat.le_of_ble_eq_true rfl) fun v8 H8 s8 hv8 => ?_
      refine ro_inST hv8 ?_
      refine ⟨_, rfl, ifT hi.fit.1 ?_⟩
      have he8 := he7.mono (tp_same s8)
      tm_at "go"
      refine e_lstD ?_
      tm_at "go"
      refine ⟨(Nat.le_of_ble_eq_true rfl), fun p H9 s9 n9 g9 => ?_⟩
      have he9 := he8.mono (tp_same s9)
      tm_at "go"
      have e9 : atI ([V.int (0 - x), V.int (if decide (x = 0) = true then 1 else 0)] : List V) (if decide (op = "not") = true then 1 else 0) = some (.int (un1 op x)) := by
        unfold un1
        by_cases h : op = "not"
        · rw [if_pos (decide_eq_true h), if_pos h, dib]
          rfl
        · rw [decide_eq_false h, if_neg h, Int.zero_sub]
          rfl
      refine rx_list (.of g9) e9 ?_
      exact k _ _ (Wrote.same (Wrote.pre s16 ⟨k7, ws, g7, d7⟩) (s8.trans s9)) (.int _)
  | kk op ea kn =>
    obtain ⟨m, rfl⟩ : ∃ m, n = m + 1 := ⟨n - 1, by have := hi.dep; unfold Ex.dep at this; omega⟩
    obtain ⟨dv, dl⟩ := rec m rfl
    have ia : EvIn rs st ea m := ⟨S, hi.fit.2.1, by have := hi.dep; unfold Ex.dep at this; omega, by omega, hi.vb.2⟩
    have hkn := hi.fit.2.2
    have ib : EvIn rs st (.int kn) m := ⟨S, by show -1000000 ≤ kn ∧ kn ≤ 1000000; omega, Nat.zero_le _, by omega, vb_int (by omega)⟩
    obtain ⟨ae, xe, rfl, hte, hde⟩ := he1.tupE
    have hop := kks_un op hi.fit.1
    rw [ev] at k
    tm_at "go"
    refine t_val ?_
    tm_at "go"
    refine rc_isi (ty_tup hte) rfl ?_
    refine ⟨false, rfl, iff0 ?_⟩
    tm_at "go"
    refine ifd (fun c => absurd c hop.2.1) (fun _ => ?_)
    tm_at "go"
    refine e_tupD ?_
    tm_at "go"
    refine tupend (ds := lazyW.map .str) (dtStrs lazyW) (Nat.le_of_ble_eq_true rfl) fun v6 H6 s6 hv6 => ?_
    refine ro_inST hv6 ?_
    refine ⟨_, rfl, ifF hop.2.2 ?_⟩
    have s16 := s1.trans s6
    have he6 : Dt M.K H6 (.ref ae) (.tuple [.str op, ea.d, .int kn]) := he1.mono (tp_same s6)
    have lim : us.length + 2 ^ (m + 1) + 2 ^ (m + 1) ≤ 5000 := by rw [Nat.pow_succ 2 (m + 1)] at few; omega
    refine b_nil ?_
    refine b_cons (s_set (by tm_at "at") ?_)
    refine e_call dv ?_ (by show 2 * m + 3 ≤ 2 * (m + 1) + 2; omega)
    tm_at "go"
    refine rx_tup he6 (d := ea.d) rfl fun v5 h5 => ?_
    tm_at "go"
    refine ⟨rs, st, ea, _, _, _, la, us, rfl, hc1.mono (tp_same s6), hst1.mono (tp_same s6), h5, s6 _ _ gl1, by omega, ia, fun vx H7 w7 hx => ?_⟩
    obtain ⟨k7, ws, g7, d7⟩ := w7
    have lw := looks_le ia.dep d7
    have he7 := he6.mono k7.t
    show RB _ _ _ _ _
    rcases optN hx with ⟨eo, rfl⟩ | ⟨x, eo, rfl⟩
    · rw [thn1_none eo] at k
      tm_at "go"
      exact k _ _ (Wrote.pre s16 ⟨k7, ws, g7, d7⟩) .non
    · rw [thn1_val eo] at k
      tm_at "go"
      refine e_tupD ?_
      tm_at "go"
      refine tupend (ds := uns.map .str) (dtStrs uns) (Nat.le_of_ble_eq_true rfl) fun v8 H8 s8 hv8 => ?_
      refine ro_inST hv8 ?_
      refine ⟨_, rfl, ifF hop.1 ?_⟩
      have he8 := he7.mono (tp_same s8)
      have k8 := k7.trans (kp_same (m := la) s8)
      have d8 := d7.mono (tp_same s8)
      refine b_nil ?_
      refine b_cons (s_set (by tm_at "at") ?_)
      refine e_call dv ?_ (by show 2 * m + 3 ≤ 2 * (m + 1) + 2; omega)
      tm_at "go"
      refine ⟨rs, st, .int kn, _, _, _, la, us ++ ws, rfl, hc1.mono ((tp_same s6).trans k8.t), hst1.mono ((tp_same s6).trans k8.t), .int kn, s8 _ _ g7, by rw [List.length_append]; omega, ib, fun vy H9 w9 hy => ?_⟩
      rw [ev] at w9 hy
      cases (show Dt _ _ vy (.int kn) from hy)
      have w9' := Wrote.seq k8 d8 w9
      obtain ⟨k9, ws2, g9, d9⟩ := w9
      have he9 := he8.mono k9.t
      have hb1 := ia.vb.own _ eo
      have hb2 : kn.natAbs < 2 ^ 400 := Nat.lt_of_lt_of_le (show kn.natAbs < 1000 by omega) (by decide)
      show RB _ _ _ _ _
      tm_at "go"
      refine e_callF dc ?_ (by show 1 ≤ 2 * (m + 1) + 2; omega)
      tm_at "go"
      exact ⟨_, _, .cons (.str _) (.cons (.int _) (.cons (.int _) .nil)), ⟨op, x, kn, rfl, ⟨hb1, hb2⟩, .inr ⟨hi.fit.1, by omega, by omega⟩, rfl⟩, fun vz H10 s10 hz => k _ _ (Wrote.same (Wrote.pre s16 w9') s10) hz⟩
end K

namespace K
open PySem PySem.Spec PyProof.Rows L2 G
variable {M : Md}
theorem ro_notInDL {c : Cd} {H : Hp} {Q : VK} {x : V} {d : PyData} {l : Addr} {us : List V} {ds : List PyData} {n : Nat} (hx : Dt c.K H x d) (hl : H l = some (.lst us)) (hd : DtAll c.K H us ds) (s1 : Shp n d) (s2 : ∀ e ∈ ds, Shp n e) (hn : n + 1 ≤ 64) (q : Q (.bl (!ds.any fun z => PyData.eqv z d)) H) : RQ c .NotIn x (.ref l) H Q :=
  rq_of (r := rNotInD c.K) (fun X h => by rw [← h.K]; exact op_notInD (by have := h.room.un; omega)) ⟨d, ds, hx.dp, .lst (.of hl) hd.dp, s1.ok (by omega), (shp_lst s2).ok hn, q⟩
theorem lookShp (st : St1) (j : Int) : Shp 2 (lookD st j) := by
  refine shp_tup fun d hd => ?_
  rcases List.mem_cons.mp hd with rfl | hd
  · exact shp_int _
  · rw [List.mem_singleton.mp hd]
    exact shp_int _
theorem look_eqv {st : St1} {i j : Int} : PyData.eqv (lookD st i) (lookD st j) = decide (i = j) := by
  by_cases h : i = j
  · subst h
    rw [decide_eq_true rfl]
    exact PySem.SeqAt.eqv_refl _ (lookShp st i).lay
  · rw [decide_eq_false h]
    unfold lookD
    simp [PyData.eqv, PyData.eqvAll, h]
theorem looks_any {st : St1} {j : Int} (ks : List Int) : ((ks.map (lookD st)).any fun z => PyData.eqv z (lookD st j)) = decide (j ∈ ks) := by
  rw [Bool.eq_iff_iff, List.any_eq_true, decide_eq_true_iff]
  constructor
  · rintro ⟨z, hz, h⟩
    obtain ⟨i, hi, rfl⟩ := List.mem_map.mp hz
    rw [look_eqv, decide_eq_true_iff] at h
    rw [← h]; exact hi
  · intro h
    exact ⟨_, List.mem_map.mpr ⟨j, h, rfl⟩, by rw [look_eqv, decide_eq_true rfl]⟩
/-- the law's own list of first looks -/
def spFl (K : PySem.W.Frag) : Sp := fun vs H Q _ => ∃ (st : St1) (lk : Addr) (us : List V) (js : List Int), vs = [.ref lk] ∧ H lk = some (.lst us) ∧ DtAll K H us (js.map (lookD st)) ∧ js.length ≤ 2000 ∧ ∀ v H', Same H H' → Dt K H' v (looksD st js) → Q v H'
theorem ok_lfl {f fd} (F : Fun M.K "_law_first_looks" "_law_first_looks" s__law_first_looks f fd) (b : Bl M) : FnG M.prog M.w M.K M.mg M.base CX0 1 f fd ["_law_looks"] (spFl M.K) := by
  refine fn_ok F sc__law_first_looks (fun vs H Q E h => ?_) (fun H vs Q E h => ?_)
  · obtain ⟨st, lk, us, js, rfl, _⟩ := h
    rfl
  obtain ⟨st, lk, us, js, rfl, gl, hd, few, k⟩ := h
  have hle := hd.len
  rw [List.length_map] at hle
  tm_at "go"
  refine e_lstD ?_
  tm_at "go"
  refine ⟨by decide, fun l H1 s1 n1 g1 => ?_⟩
  tm_at "go"
  refine s_forL ?_
  tm_at "go"
  refine ⟨lk, us, rfl, .of (s1 _ _ gl), fun i σ1 H' => ∃ (v3 : Option V) (ws : List V), σ1 = [some (.ref lk), some (.ref l), v3] ∧ Same H H' ∧ H' l = some (.lst ws) ∧ DtAll M.K H' ws ((firsts (js.take i)).map (lookD st)), ⟨_, _, rfl, s1, g1, .nil⟩, ?_, ?_, ?_⟩
  · rintro i σ' H' _ ⟨v3, ws, rfl, s, _⟩
    exact .of (s _ _ gl)
  · rintro i x σ' H2 hx ⟨v3, ws, rfl, s2, g2, d2⟩
    obtain ⟨d, hdd, hx'⟩ := hd.getV hx
    rw [List.getElem?_map] at hdd
    obtain ⟨j, hj, rfl⟩ := Option.map_eq_some_iff.mp hdd
    have hx2 := hx'.mono (tp_same s2)
    refine g_name (by tm_at "at") ?_
    tm_at "go"
    refine ro_notInDL (n := 2) hx2 g2 d2 (lookShp st j) (fun e he => ?_) (by decide) ?_
    · obtain ⟨j2, _, rfl⟩ := List.mem_map.mp he
      exact lookShp st j2
    rw [looks_any]
    refine ⟨_, rfl, ifnd (fun c1 => ?_) (fun c1 => ?_)⟩
    · refine b_one (s_expr ?_)
      refine e_app ?_
      tm_at "go"
      refine ⟨l, _, rfl, g2, ?_⟩
      tm_at "go"
      have lw := d2.len
      rw [List.length_map] at lw
      have ku := kp_upd (o' := .lst (ws ++ [x])) g2 (fun _ e => nomatch e) (fun _ _ e => nomatch e)
      refine ⟨_, g2, by have := firsts_len (js.take i); have : (js.take i).length ≤ js.length := by rw [List.length_take]; omega
                        omega, ?_⟩
      refine ⟨_, _, rfl, same_mut s2 n1, upd_same, ?_⟩
      rw [firsts_snoc hj, if_neg c1, List.map_append]
      exact (d2.mono ku.t).app (.cons (hx2.mono ku.t) .nil)
    · tm_at "go"
      refine ⟨_, _, rfl, s2, g2, ?_⟩
      rw [firsts_snoc hj, if_pos c1]
      exact d2
  · rintro σ' H2 ⟨v3, ws, rfl, s2, g2, d2⟩
    rw [List.take_of_length_le (by omega)] at d2
    tm_at "go"
    refine rc_tupL (.of g2) d2 fun v7 H7 s7 h7 => ?_
    exact k _ _ (s2.trans s7) h7
end K

namespace K
open PySem PySem.Spec PyProof.Rows L2 G
variable {M : Md}
/-! ### texts of numbers; the written names of cells -/
theorem txt_len {i : Int} (h : i.natAbs < 10 ^ 12) : (toString i : Str).length ≤ 13 := PyData.shown_int_le h
theorem log_of {i : Int} (h : i.natAbs < 10 ^ 12) : i.natAbs.log2 < 1920 := by
  have h2 : i.natAbs.log2 < 40 := PySem.Flt.log2_lt_of (by decide) (Nat.lt_of_lt_of_le h (by decide))
  omega
theorem str_empty (y : Str) : Str.empty ++ y = y := by
  show Str.mk (Str.empty.cps ++ y.cps) = y
  cases y
  simp [Str.empty]
theorem len_app (x y : Str) : (x ++ y).length = x.length + y.length := Str.length_append x y
theorem e_fs3 {c : Cd} {σ : L2.St} {H : Hp} {Q : VK} {a b : Expr} {s : Str} {j} {p1 p2 p3 pos : Pos} (hs : s.length ≤ 100)
    (q : RE c a σ H fun x H1 => ∃ y, x = .str y ∧ y.length ≤ 100 ∧ RE c b σ H1 fun z H2 => ∃ i : Int, z = .int i ∧ i.natAbs < 10 ^ 12 ∧ Q (.str (y ++ s ++ toString i)) H2) :
    RE c (.JoinedStr [.FormattedValue a (-1) none p1, .Constant (.str s) j p2, .FormattedValue b (-1) none p3] pos) σ H Q := by
  refine re_of (t := fun σ H Q => tJs [tFmt (RE c a), fun σ H Q => Q (.str s) H, tFmt (RE c b)] Str.empty σ H fun out H1 => Q (.str out) H1) (fun X h => pe_joined (.cons (pe_fmt (pe_re h)) (.cons pe_str (.cons (pe_fmt (pe_re h)) .nil)))) ?_
  refine RE.mono (fun x H1 z => ?_) q
  obtain ⟨y, rfl, hy, z⟩ := z
  refine .inl ⟨y, rfl, by rw [sizeLine_eq]; omega, y, rfl, by rw [str_empty, sizeLine_eq]; omega, s, rfl, by rw [str_empty, len_app, sizeLine_eq]; omega, ?_⟩
  refine RE.mono (fun x H2 z => ?_) z
  obtain ⟨i, rfl, hi, z⟩ := z
  refine .inr ⟨i, rfl, log_of hi, _, rfl, ?_, ?_⟩
  · have := txt_len hi
    rw [str_empty, len_app, len_app, sizeLine_eq]; omega
  · show Q (.str (Str.empty ++ y ++ s ++ toString i)) H2
    rw [str_empty]
    exact z
def nmK (r : Row) (k : Int) : Str := r.1 ++ "." ++ toString k
def cnm (r : Row) : List Str := if (r.2.1 : Int) = 0 then [r.1] else (List.range r.2.1).map fun k : Nat => nmK r k
def cnms (rs : List Row) : List Str := rs.flatMap cnm
structure Nms (rs : List Row) : Prop where
  few : rs.length ≤ 10
  ok : ∀ r ∈ rs, r.1.length ≤ 20 ∧ r.2.1 ≤ 10
theorem cnm_len {r : Row} (h : r.2.1 ≤ 10) : (cnm r).length ≤ 10 := by
  unfold cnm
  split
  · exact (by decide : 1 ≤ 10)
  · rw [List.length_map, List.length_range]; exact h
theorem cnms_len : ∀ {rs : List Row}, (∀ r ∈ rs, r.2.1 ≤ 10) → (cnms rs).length ≤ 10 * rs.length
  | [], _ => Nat.le_refl _
  | r :: rs, h => by
    have h1 := cnm_len (h r (List.mem_cons_self ..))
    have h2 := cnms_len fun q hq => h q (List.mem_cons_of_mem _ hq)
    unfold cnms at h2 ⊢
    rw [List.flatMap_cons, List.length_append, List.length_cons]
    omega
def plc (r : Row) : List PyData := if (r.2.1 : Int) = 0 then [.str r.1] else (List.range r.2.1).map fun k : Nat => .tuple [.str r.1, .int k]
def plcs (rs : List Row) : List PyData := rs.flatMap plc
theorem plc_len {r : Row} (h : r.2.1 ≤ 10) : (plc r).length ≤ 10 := by
  unfold plc
  split
  · exact (by decide : 1 ≤ 10)
  · rw [List.length_map, List.length_range]; exact h
theorem plcs_len : ∀ {rs : List Row}, (∀ r ∈ rs, r.2.1 ≤ 10) → (plcs rs).length ≤ 10 * rs.length
  | [], _ => Nat.le_refl _
  | r :: rs, h => by
    have h1 := plc_len (h r (List.mem_cons_self ..))
    have h2 := plcs_len fun q hq => h q (List.mem_cons_of_mem _ hq)
    unfold plcs at h2 ⊢
    rw [List.flatMap_cons, List.length_append, List.length_cons]
    omega
/-- the written name of a place -/
def txD : PyData → Str
  | .str s => s
  | .tuple [.str s, .int k] => s ++ "." ++ toString k
  | _ => ""
theorem plc_txt (r : Row) : (plc r).map txD = cnm r := by
  unfold plc cnm
  split
  · rfl
  · rw [List.map_map]; rfl
theorem plcs_txt (rs : List Row) : (plcs rs).map txD = cnms rs := by
  induction rs with
  | nil => rfl
  | cons r rs ih =>
    unfold plcs cnms at ih ⊢
    rw [List.flatMap_cons, List.flatMap_cons, List.map_append, ih, plc_txt]
/-- a place of rows whose names are short -/
def PlOk : PyData → Prop
  | .str s => s.length ≤ 20
  | .tuple [.str s, .int k] => s.length ≤ 20 ∧ k.natAbs < 10 ^ 12
  | _ => False
theorem plcs_ok {rs : List Row} (h : Nms rs) : ∀ d ∈ plcs rs, PlOk d := by
  intro d hd
  obtain ⟨r, hr, hd⟩ := List.mem_flatMap.mp hd
  obtain ⟨a, b⟩ := h.ok r hr
  unfold plc at hd
  split at hd
  · rw [List.mem_singleton.mp hd]; exact a
  · obtain ⟨k, hk, rfl⟩ := List.mem_map.mp hd
    have hk := List.mem_range.mp hk
    exact ⟨a, Nat.lt_of_le_of_lt (show ((k : Int)).natAbs ≤ 10 by omega) (by decide)⟩
def isStrD : PyData → Bool
  | .str _ => true
  | _ => false
theorem rc_isiS {c : Cd} {H : Hp} {Q : VK} {v : V} {x : PyData} (hp : PlOk x) (hx : Dt c.K H v x) (q : Q (.bl (isStrD x)) H) : RC c (.builtin "isinstance") [v, .ty "str"] H Q := by
  cases x with
  | str s =>
    cases hx
    exact rc_isi (.base (.str s)) rfl q
  | tuple ds =>
    obtain ⟨a, xs, rfl, ht, _⟩ := hx.tupE
    exact rc_isi (ty_tup ht) rfl q
  | none => exact hp.elim
  | bool => exact hp.elim
  | list => exact hp.elim
  | dict => exact hp.elim
  | int => exact hp.elim
def rPlc : List PyData → PyData → Prop := fun ds d => ∃ rs : List Row, ds = [cellsD rs] ∧ Nms rs ∧ d = .tuple (plcs rs)
theorem ok_places {f fd} (F : Fun M.K "cell_places" "cell_places" s_cell_places f fd) (b : Bl M) : FnG M.prog M.w M.K M.mg M.base CX0 1 f fd ["cells"] (spF rPlc M.K) := by
  refine fn_ok F sc_cell_places (fun vs H Q E h => ?_) (fun H vs Q E h => ?_)
  · obtain ⟨ds, d, h, ⟨rs, rfl, _⟩, _⟩ := h
    exact h.len
  obtain ⟨ds, d, h, ⟨rs, rfl, nm, rfl⟩, k⟩ := h
  obtain _ | ⟨hc, h⟩ := h
  cases h
  obtain ⟨a, xs, rfl, hxs, hrs⟩ := hc.tupE
  have hle := hrs.len
  rw [List.length_map] at hle
  have few := nm.few
  tm_at "go"
  refine e_lstD ?_
  tm_at "go"
  refine ⟨by decide, fun l0 H0 s0 n0 g0 => ?_⟩
  tm_at "go"
  refine s_forT ?_
  tm_at "s"
  refine ⟨a, xs, rfl, (tp_same s0).sqt hxs, fun i σ1 H1 => ∃ (l : Addr) (us : List V) (v v' : Option V), σ1 = [some (.ref a), some (.ref l), v, v'] ∧ Same H H1 ∧ H1 l = some (.lst us) ∧ DtAll M.K H1 us (plcs (rs.take i)), ⟨l0, [], _, _, rfl, s0, g0, .nil⟩, ?_, ?_, ?_⟩
  · rintro i σ' H' _ ⟨l, us, v, v', rfl, s, _⟩
    exact (tp_same s).sqt hxs
  · rintro i x σ' H' hx ⟨l, us, v, v', rfl, s, hl1, hu⟩
    obtain ⟨d, hd, hx'⟩ := hrs.getV hx
    rw [List.getElem?_map] at hd
    obtain ⟨r, hr, rfl⟩ := Option.map_eq_some_iff.mp hd
    have hmem := List.mem_of_getElem? hr
    obtain ⟨z1, z2⟩ := List.getElem?_eq_some_iff.mp hr
    have et := List.take_succ_eq_append_getElem z1
    rw [z2] at et
    have ec : plcs (rs.take (i + 1)) = plcs (rs.take i) ++ plc r := by
      unfold plcs
      rw [et, List.flatMap_append, List.flatMap_cons, List.flatMap_nil, List.append_nil]
    have hul := hu.len
    have hcl := plcs_len (rs := rs.take i) fun q hq => (nm.ok q (List.take_subset _ _ hq)).2
    rw [List.length_take] at hcl
    have hn10 := nm.ok r hmem
    have hx2 := hx'.mono (tp_same s)
    refine g_name (by tm_at "at") ?_
    tm_at "go"
    refine ifd (fun c1 => ?_) (fun c1 => ?_)
    · tm_at "go"
      refine e_lstD ?_
      tm_at "go"
      refine ⟨(Nat.le_of_ble_eq_true rfl), fun l2 H3 s3 n3 g3 => ?_⟩
      refine ro_cat (s3 _ _ hl1) g3 (by show _ + 1 ≤ _; omega) fun l6 H6 s6 n6 g6 => ?_
      tm_at "go"
      refine ⟨l6, _, _, _, rfl, s.trans (s3.trans s6), g6, ?_⟩
      rw [ec]
      refine (hu.mono (tp_same (s3.trans s6))).app ?_
      unfold plc
      rw [if_pos c1]
      exact .cons (.str _) .nil
    · tm_at "go"
      refine e_lc (own := [("key", 3)]) (Blk.of (N := N_cell_places) (sc := defScope s_cell_places) rfl rfl (by decide +kernel)) ?_
      refine lcR1_F (fun t => some (.tuple [.str r.1, .int t])) b.range ?_
      tm_at "go"
      refine ⟨by omega, fun t H' ht sH => ?_, fun p us6 H6 s6 n6 g6 h6 => ?_⟩
      · refine g_name (by tm_at "at") ⟨rfl, rfl, ts_nil ⟨Same.refl _, ift ?_⟩⟩
        refine e_tupD ?_
        tm_at "go"
        refine tupend (ds := [.str r.1, .int (t : Int)]) (by tm_at "dts") (Nat.le_of_ble_eq_true rfl) fun v9 H9 s9 h9 => ?_
        exact ⟨s9, _, rfl, h9⟩
      · refine ro_cat (s6 _ _ hl1) g6 (by have := h6.len; have := List.length_filterMap_le (fun t : Nat => some (PyData.tuple [.str r.1, .int (t : Int)])) (List.range ((r.2.1 : Nat) : Int).toNat); rw [List.length_range] at this; omega) fun l7 H7 s7 n7 g7 => ?_
        tm_at "go"
        refine ⟨l7, _, _, _, rfl, s.trans (s6.trans s7), g7, ?_⟩
        rw [ec]
        refine (hu.mono (tp_same (s6.trans s7))).app ?_
        have h7 := h6.mono (tp_same s7)
        rw [List.filterMap_eq_map'] at h7
        unfold plc
        rw [if_neg c1]
        exact h7
  · rintro σ' H' ⟨l, us, v, v', rfl, s, hl1, hu⟩
    rw [hle, List.take_length] at hu
    tm_at "go"
    refine rc_tupL (.of hl1) hu fun v2 H2 s2 h2 => ?_
    exact k _ _ (s.trans s2) h2
def rNames : List PyData → PyData → Prop := fun ds d => ∃ rs : List Row, ds = [cellsD rs] ∧ Nms rs ∧ d = .tuple ((cnms rs).map PyData.str)
theorem ok_names {f fd} (F : Fun M.K "cell_names" "cell_names" s_cell_names f fd) (b : Bl M) (dpl : Dc M "cell_places" ["cells"] 1 (spF rPlc M.K)) : FnG M.prog M.w M.K M.mg M.base CX0 2 f fd ["cells"] (spF rNames M.K) := by
  refine fn_ok F sc_cell_names (fun vs H Q E h => ?_) (fun H vs Q E h => ?_)
  · obtain ⟨ds, d, h, ⟨rs, rfl, _⟩, _⟩ := h
    exact h.len
  obtain ⟨ds, d, h, ⟨rs, rfl, nm, rfl⟩, k⟩ := h
  obtain _ | ⟨hc, h⟩ := h
  cases h
  have few := nm.few
  have len := plcs_len fun q hq => (nm.ok q hq).2
  tm_at "go"
  refine e_callF dpl ?_
  tm_at "go"
  refine ⟨_, _, .cons hc .nil, ⟨rs, rfl, nm, rfl⟩, fun v H1 s1 hv => ?_⟩
  tm_at "go"
  refine e_lc (own := [("place", 2)]) (Blk.of (N := N_cell_names) (sc := defScope s_cell_names) rfl rfl (by decide +kernel)) ?_
  refine lcT_F (fun d => some (.str (txD d))) ?_
  tm_at "go"
  refine ⟨plcs rs, hv, by omega, fun d x H' hd sH hx => ?_, fun p us H2 s2 n2 g2 h2 => ?_⟩
  · have ok := plcs_ok nm d hd
    refine g_name (by tm_at "at") ⟨rfl, rfl, ts_nil ⟨Same.refl _, ift ?_⟩⟩
    tm_at "go"
    refine t_val ?_
    tm_at "go"
    refine rc_isiS ok hx ?_
    match d, ok, hx with
    | .str s, ok, hx =>
      refine ⟨true, rfl, ift ?_⟩
      tm_at "go"
      exact ⟨Same.refl _, _, rfl, hx⟩
    | .tuple [.str s, .int i], ok, hx =>
      refine ⟨false, rfl, iff0 ?_⟩
      refine e_fs3 (by decide) ?_
      tm_at "go"
      refine ⟨Nat.le_trans ok.1 (by decide), ?_⟩
      tm_at "go"
      refine ⟨ok.2, ?_⟩
      exact ⟨Same.refl _, _, rfl, .str _⟩
  · rw [List.filterMap_eq_map'] at h2
    have e : (plcs rs).map (fun d => PyData.str (txD d)) = (cnms rs).map PyData.str := by rw [← plcs_txt, List.map_map]; rfl
    rw [e] at h2
    tm_at "go"
    refine rc_tupL (.of g2) h2 fun v2 H3 s3 h3 => ?_
    exact k _ _ (s1.trans (s2.trans s3)) h3
end K

namespace G
open PySem PySem.Spec PyProof.Rows L2
/-! ### an error's own attribute; a def that may raise -/
section
variable {c : Cd} {σ : L2.St} {H : Hp} {pos apos : Pos}
theorem s_ost {o value : Expr} {f : Str} {D : Ends} (q : RE c value σ H fun y H1 => RE c o σ H1 fun x H2 => ∃ a C : Addr, x = .ref a ∧ OexC c.K C ∧ PySem.W.findIn c.K (.ref C) f = some none ∧ H2 a = some (exo a C none) ∧ ∀ dx, H2 dx = none → dx ≠ a → D.nx σ (upd (upd H2 dx (exd dx [(f, y)])) a (exo a C (some dx))))
    (hs : ∀ env, swapsWith value (some (.Attribute o f apos)) pos.line env = pure false := by intro _; rfl) : RS c (.Assign [.Attribute o f apos] value pos) D σ H := by
  refine rs_of (t := tOst c.K f (RE c o) (RE c value)) (fun X h => by rw [← h.K]; exact ps_ost (pe_re h) (pe_re h) (hs _)) ?_
  refine RE.mono (fun y H1 z => RE.mono (fun x H2 z => ?_) z) q
  obtain ⟨a, C, h1, h2, h3, h4, h5⟩ := z
  exact ⟨a, C, h1, h2, h3, .inl ⟨h4, h5⟩⟩
end
/-- the context of a def that may raise -/
theorem is_cxE {M : Md} {N : List Str} {qual : Str} {sc : Scope} {f : Addr} {cdv : Value} {A : Around} {outer : List Env} {s : Shared} {H : Hp} {E : XK} {k : Nat} (hn : N.Nodup) (hr : Room k (A.deeper (envOfC qual sc s.heap.objs.size f cdv))) :
    Is ⟨M, N, sc, k, true, false, none⟩ (cxOf (L2.CX M.prog M.w) M.prog M.w M.K M.mg M.base N qual sc f cdv A outer s H E) :=
  ⟨rfl, rfl, rfl, rfl, rfl, rfl, rfl, rfl, hr, fun _ _ => rfl, passes_of rfl, hn, fun z => Bool.noConfusion z, fun _ _ z => nomatch z⟩
end G
namespace K
open PySem PySem.Spec PyProof.Rows L2 G
variable {M : Md}
/-- what is known of an error class with one attribute -/
structure Uc (K : PySem.W.Frag) (C fI : Addr) : Prop where
  ox : OexC K C
  iC : PySem.W.findIn K (.ref C) "__init__" = some (some (.ref fI))
  tI : PySem.W.typeIn K (.ref fI) = some (.type "function")
  nn : PySem.W.findIn K (.ref C) "name" = some none
def spUi (C : Addr) : Sp := fun vs H Q _ => ∃ (a : Addr) (y : V), vs = [.ref a, y] ∧ H a = some (exo a C none) ∧ ∀ dx, H dx = none → dx ≠ a → Q .non (upd (upd H dx (exd dx [("name", y)])) a (exo a C (some dx)))
theorem ok_uinit {C fI : Addr} {fd : FuncData} (F : Fun M.K "__init__" "UnknownCell.__init__" s_U_init fI fd) (U : Uc M.K C fI) : FnG M.prog M.w M.K M.mg M.base CX0 1 fI fd ["self", "name"] (spUi C) := by
  refine fn_ok F sc_U_init (fun vs H Q E h => ?_) (fun H vs Q E h => ?_)
  · obtain ⟨a, y, rfl, _⟩ := h
    rfl
  obtain ⟨a, y, rfl, ha, k⟩ := h
  refine b_one (s_ost ?_)
  tm_at "go"
  exact ⟨a, C, rfl, U.ox, U.nn, ha, k⟩
def spIdx (C : Addr) (K : PySem.W.Frag) : Sp := fun vs H Q E => ∃ (rs : List Row) (nm : Str) (key : Option Int), DtAll K H vs [cellsD rs, .str nm, optD key] ∧
  (∀ j, fIdx rs nm key 0 = some j → ∀ H', Same H H' → Q (.int j) H') ∧ (fIdx rs nm key 0 = none → ∀ d H', Same H H' → H' d = some (.xd [("name", .str nm)]) → E (.ref C) (some d) H')
theorem ok_indexE {C fI f : Addr} {fd fdI : FuncData} (F : Fun M.K "cell_index" "cell_index" s_cell_index f fd) (b : Bl M) (dfi : Dc M "found_index" ["cells", "name", "key"] 2 (spF rFound M.K)) (U : Uc M.K C fI) (hm : M.mg "UnknownCell" = some (.ref C))
    (FI : FnG M.prog M.w M.K M.mg M.base CX0 1 fI fdI ["self", "name"] (spUi C)) (bI : Binds M.K fdI ["self", "name"] []) : FnOk M.prog M.w M.K M.mg M.base (L2.CX M.prog M.w) 4 f fd ["cells", "name", "key"] (spIdx C M.K) := by
  refine F.okX sc_cell_index (fun vs H Q E h => ?_) (fun cdv A outer s H vs Q E hr h => ?_)
  · obtain ⟨rs, nm, key, h, _⟩ := h
    exact h.len
  obtain ⟨rs, nm, key, h, k1, k2⟩ := h
  obtain _ | ⟨hc, h⟩ := h
  obtain _ | ⟨hn, h⟩ := h
  obtain _ | ⟨hk, h⟩ := h
  cases h
  cases hn
  have hI := is_cxE (M := M) (qual := "cell_index") (f := f) (cdv := cdv) (outer := outer) (H := H) (E := E) sc_cell_index.nd hr
  refine ⟨_, pss_cons (ps_rs hI) (pss_cons (ps_if (pt_rt hI) (pss_one (ps_raise rfl (takes_of rfl rfl rfl rfl) (pmk_oex U.ox U.iC U.tI FI (hr.mono (by decide)) bI .nil (fun _ _ _ _ _ _ _ z => z.elim) rfl hm (pa_ra hI)))) pss_nil) (pss_one (ps_rs hI))), ?_⟩
  show RS _ _ _ _ _
  tm_at "go"
  refine e_callF dfi ?_
  tm_at "go"
  refine ⟨_, _, .cons hc (.cons (.str _) (.cons hk .nil)), ⟨rs, nm, key, rfl, rfl⟩, fun v H1 s1 hv => ?_⟩
  show RT _ _ _ _ _
  tm_at "go"
  cases e : fIdx rs nm key 0 with
  | some j =>
    rw [e] at hv
    cases hv
    refine ifF (fun z => by cases z) ?_
    show RS _ _ _ _ _
    tm_at "go"
    exact k1 j e _ s1
  | none =>
    rw [e] at hv
    cases hv
    refine ifT rfl ?_
    show RA _ _ _ _ _
    tm_at "go"
    refine ⟨(Nat.le_of_ble_eq_true rfl), fun a ha => ⟨a, .str nm, rfl, upd_same, fun dx hdx hne => ?_⟩⟩
    rw [upd_ne hne] at hdx
    refine ⟨rfl, dx, [("name", .str nm)], upd_same, by rw [upd_ne hne, upd_same], hdx, k2 e dx _ (fun x o hx => ?_) upd_same⟩
    have h1 := s1 x o hx
    have na : x ≠ a := fun z => by rw [z, ha] at h1; cases h1
    have nd : x ≠ dx := fun z => by rw [z, hdx] at h1; cases h1
    rw [upd_ne nd, del_ne na, upd_ne na, upd_ne nd, upd_ne na]
    exact h1
end K

namespace G
open PySem PySem.Spec PyProof.Rows L2
/-! ### isinstance of a caught error that has attributes -/
section
open PySem.Calls PySem.W
variable {P : Program} {w : World} {around : Around} {Err : Value → Shared → Prop} {st : Shared} {F : PySem.W.Frag} {e B : Addr} {oe : Obj} {own : Option Obj}
/-- __class__ is told by the class, whatever the object's own dict holds -/
theorem found_class {a g : Value} (h1 : PySem.W.hasDictIn F B = true) (h2 : findIn F (.ref B) "__class__" = some (some a)) (h3 : specialIn F a "__get__" = some (some g)) (h4 : takesIn F a = some true) :
    findObj F B own "__class__" = some (.bind g a) := by
  obtain ⟨c, hc, _⟩ := any_some h1
  simp only [findObj, hc, h2, h3, h4, Option.bind_some]
/-- e.__class__ is asked -/
theorem ask_class {Q : Option Value → Shared → Prop} (D : ExcC F B) (kin : F.In st.heap) (here : PySem.W.InstAt st.heap e oe B own) (q : Q (some (.ref B)) { st with toks := st.toks + 1 }) :
    wpAny (model P w) around (getAttr? (.ref e) "__class__") Q Err st := by
  have way := found_class (own := own) D.hd D.ha D.hn D.ht
  have ga := PySem.F.excAttr_ValueError.ga
  obtain ⟨heap, gens, drawn, toks, os⟩ := st
  have ty := here.type (M := model P w)
  have look1 := looks_findIn (M := model P w) kin D.hg
  have look2 := looks_findIn (M := model P w) kin D.hk
  have look3 := looks_find (M := model P w) kin here way
  have isB : Looks (model P w) heap (isInstance (.ref e) (.type "BaseException")) true := ty.andThen (looks_subIn kin D.hs)
  unfold getAttr?
  unfold getAttrBy?
  unfold getAttrBy
  apply wpAny_bind
  apply wpAny_mkText
  apply wpAny_bind
  apply wpAny_attempt
  apply wpAny_holding
  apply wpAny_bind
  apply ty.at
  apply wpAny_bind
  apply look1.at
  dsimp only
  rw [show (onTheHeap (Value.ref B) && (.builtin "BaseException.__getattribute__" == Value.builtin "object.__getattribute__")) = false from by rw [Bool.and_eq_false_iff]; exact .inr (by decide +kernel)]
  rw [if_neg (by decide)]
  unfold getAttrByItsOwn
  unfold hookBefore
  apply wpAny_bind
  rw [show onTheHeap (Value.ref B) = true from rfl, if_pos rfl]
  apply look2.at
  apply wpAny_bind
  apply wpAny_attempt
  apply wpAny_holding
  unfold callGetattribute
  dsimp only
  rw [Bool.false_and, if_neg (by decide)]
  unfold boundAndCalled
  rw [ga.bind (.ref e)]
  apply wpAny_bind
  apply wpAny_pure
  refine wpAny_call (codeAny_call_builtin ga.plain PySem.F.entry_bexc_ga ?_)
  have args := PySem.F.args_bexc_ga (.ref e) (.str "__class__" toks)
  refine @check_slot (model P w) _ _ ⟨heap, gens, drawn, toks + 1, os⟩ _ "BaseException" "__getattribute__" _ _ [] _ (by decide +kernel) (by decide +kernel) isB args ?_
  unfold Builtin.«object.__getattribute__»
  apply wpAny_bind
  refine wpAny_of_eq (a := ((Value.ref e : Value), [Value.str "__class__" toks])) (by first | rfl | (simp only [slotArgs]; rfl)) ?_
  apply wpAny_bind
  apply wpAny_pure
  apply wpAny_bind
  apply ty.at
  apply wpAny_bind
  apply look3.at
  show wpAny _ _ (holding _ (call (.builtin "getset_descriptor.__get__") [.builtin "object.__class__", .ref e, .ref B]) >>= ret) _ _ _
  apply wpAny_bind
  refine wpAny_holding (wpAny_call (class_get (s := ⟨heap, gens, drawn, toks + 1, os⟩) (ox := oe) (od := own) kin here D.hm ?_))
  apply wpAny_pure
  show wpAny _ _ (handedOut (.ref B)) _ _ _
  rw [handedOut_of (v := .ref B) rfl]
  first
    | exact wpAny_pure q
    | exact wpAny_pure (wpAny_pure q)
    | exact wpAny_pure (wpAny_bind (wpAny_pure (wpAny_pure q)))
theorem cls_there (h : PySem.W.hasDictIn F B = true) : ∃ c d cd sl, F.lookup B = some ⟨c, d, .cls cd, sl⟩ := by
  obtain ⟨cd, hc, _⟩ := any_some h
  simp only [PySem.W.clsIn] at hc
  split at hc
  · rename_i at_
    exact ⟨_, _, _, _, at_⟩
  · exact nomatch hc
theorem kit_own (D : ExcC F B) : KitX F (.ref e) (.ref B) fun h => PySem.W.InstAt h e oe B own := by
  obtain ⟨c, d, cd, sl, at_⟩ := cls_there D.hd
  refine ⟨fun _ _ _ I => I.type, fun _ _ kin _ around Q Err st keep q => ?_, fun h tp _ _ _ _ kin tup => ?_, fun kin I q => ask_class D kin I q⟩
  · simp only [isType, loadHead]
    apply wpAny_bind
    exact wpAny_loadPart (keep _ _ (kin _ _ at_)) (wpAny_pure q)
  · apply Bool.eq_false_iff.mpr
    intro same
    have same : B = tp := Value.ref.inj (beq_iff_eq.mp same)
    rw [← same, kin _ _ at_] at tup
    exact nomatch tup
end
/-- isinstance(e, c), e the error that the suite holds, dd its dict -/
def rIsD (K : PySem.W.Frag) (B a dd : Addr) : List V → Hp → VK → Prop := fun xs H Q => ∃ (c : V) (cv : Value) (b : Bool), xs = [.ref a, c] ∧ (∀ u, RelV c u → u = cv) ∧ PySem.W.kitOne K (.ref B) cv = some b ∧ (∃ fs, H dd = some (.xd fs)) ∧ Q (.bl b) H
theorem cr_isD {X : Cx} {a B dd : Addr} {oe : Obj} {pn : List (Addr × Obj)} (D : ExcC X.K B) (hz : Zc (.ref B) (some dd) oe) (hf : ∃ vs, oe.data = .fields vs) : CallR (X.suite a ((a, oe) :: pn)) (.builtin "isinstance") (rIsD X.K B a dd) := by
  rintro pins s σ H _ us Q J rv ⟨c, cv, b, rfl, only, ans, ⟨fs, hd⟩, q⟩
  match us, rv with
  | [u1, u2], .cons r1 (.cons r2 .nil) =>
    obtain rfl : u1 = Value.ref a := r1
    obtain rfl := only _ r2
    obtain ⟨held, _⟩ := J.pin (a, oe) (List.mem_append.mpr (.inl List.mem_cons_self))
    obtain ⟨vs, hv⟩ := hf
    obtain ⟨mA, ns, _⟩ := (show ObjOk X.prog X.w H s.heap dd (.xd fs) from J.hok dd _ hd)
    obtain ⟨od, ho, _⟩ := lookIn_ns ns
    have I : PySem.W.InstAt s.heap a oe B (some od) := ⟨held, hz.1, by simp only [PySem.W.notCls, hv], by rw [hz.2]; exact ho⟩
    exact PySem.W.kia_one (kit_own D) J.kIn I ans (fun z => nomatch z) fun tk => ⟨.bl b, H, J.kept (t' := tk) fun _ _ z => z, rfl, q⟩
end G

namespace K
open PySem PySem.Spec PyProof.Rows L2 LamX G
variable {M : Md}
/-- what is known of the module's error classes -/
structure Hc (K : PySem.W.Frag) (mg : Str → Option Value) (UC fI CO CP CQ CT CI CX' : Addr) : Prop where
  uc : Uc K UC fI
  ex : ExcC K UC
  xf : XfC K UC
  gU : mg "UnknownCell" = some (.ref UC)
  gO : mg "OrderError" = some (.ref CO)
  gP : mg "PaperError" = some (.ref CP)
  gQ : mg "ProgramError" = some (.ref CQ)
  gT : mg "TextError" = some (.ref CT)
  gI : mg "InvalidPaper" = some (.ref CI)
  gX : mg "InvalidText" = some (.ref CX')
  ois : PySem.W.exmOne K (.ref UC) (.ref CO) = some true
  kP : PySem.W.kitOne K (.ref UC) (.ref CP) = some false
  kQ : PySem.W.kitOne K (.ref UC) (.ref CQ) = some true
  kT : PySem.W.kitOne K (.ref UC) (.ref CT) = some false
  kI : PySem.W.kitOne K (.ref UC) (.ref CI) = some false
  kX : PySem.W.kitOne K (.ref UC) (.ref CX') = some false
  kU : PySem.W.kitOne K (.ref UC) (.ref UC) = some true
/-- what the law's hearing makes of what it asks -/
def THeard (UC : Addr) : (XK → Hp → VK → Prop) → Hp → VK → Prop := fun tl H Q =>
  tl (fun cls d H' => ∃ dd nm, cls = .ref UC ∧ d = some dd ∧ H' dd = some (.xd [("name", .str nm)]) ∧ ∀ H'' p, Same H' H'' → H'' p = some (.tup [.str "cell", .str nm]) → Q (.ref p) H'') H fun v H' => [V.str "told", v].length ≤ sizeLine ∧ ∀ p, H' p = none → Q (.ref p) (upd H' p (.tup [.str "told", v]))
theorem pss_no {X : Cx} {sts : List Stmt} : PSs X sts fun _ _ _ => False := ⟨fun _ _ _ _ _ _ h => h.elim⟩
theorem pss_ex {X : Cx} {sts : List Stmt} {α : Type} {P : α → Prop} {t : α → TS} (h : ∀ y, P y → PSs X sts (t y)) : PSs X sts fun D σ H => ∃ y, P y ∧ t y D σ H := ⟨fun pins s σ H D I ⟨y, p, z⟩ => (h y p).run pins s σ H D I z⟩
theorem pss_imp {X : Cx} {sts : List Stmt} {t t' : TS} (h : PSs X sts t) (w : ∀ D σ H, t' D σ H → t D σ H) : PSs X sts t' := ⟨fun pins s σ H D I z => h.run pins s σ H D I (w _ _ _ z)⟩
theorem pss_len {X : Cx} {sts : List Stmt} {t t' : TS} (h : PSs X sts t) (w : ∀ D σ H, σ.length = X.N.length → t' D σ H → t D σ H) : PSs X sts t' := ⟨fun pins s σ H D I z => h.run pins s σ H D I (w _ _ _ I.len z)⟩
def tryBody : Stmt → List Stmt
  | .Try bd _ _ _ _ => bd
  | _ => []
def trySuite : Stmt → List Stmt
  | .Try _ [.ExceptHandler _ _ su _] _ _ _ => su
  | _ => []
abbrev hTry : Stmt := (defBody s__law_heard).getD 0 (.Pass ⟨0, 0, 0, 0⟩)
def tHS (a dd : Addr) : TS := fun D σ H => (∃ σ' : L2.St, σ = σ'.set 1 (some (.ref a))) ∧ ∃ nm, H dd = some (.xd [("name", .str nm)]) ∧ ∀ H' p, Same H H' → H' p = some (.tup [.str "cell", .str nm]) → D.rt (.ref p) H'
theorem heard_suite {Y : Cx} {UC fI CO CP CQ CT CI CX' a dd : Addr} {oe : Obj} {pn : List (Addr × Obj)} (hN : Y.N = N__law_heard) (hS : Y.env.scope = defScope s__law_heard) (hu : Y.A.units + 64 < cLine) (hc : Hc Y.K Y.mg UC fI CO CP CQ CT CI CX') (hb : Y.mg "isinstance" = none)
    (hz : Zc (.ref UC) (some dd) oe) (hf : ∃ vs, oe.data = .fields vs) : PSs (Y.suite a ((a, oe) :: pn)) (trySuite hTry) (tHS a dd) := by
  have gl : ∀ {x : Str}, (defScope s__law_heard).names.lookup x = some .globalImplicit → Gl (Y.suite a ((a, oe) :: pn)) x := fun {x} h => by
    show Y.env.scope.names.lookup x = some .globalImplicit
    rw [hS]; exact h
  have vis : ∀ {x : Str}, (defScope s__law_heard).names.lookup x = some .local → Vis (Y.suite a ((a, oe) :: pn)).env.scope x := fun {x} h => .inl (by
    show Y.env.scope.names.lookup x = some .local
    rw [hS]; exact h)
  have nth : ∀ {i : Nat} {x : Str}, N__law_heard[i]? = some x → (Y.suite a ((a, oe) :: pn)).N[i]? = some x := fun {i x} h => by
    show Y.N[i]? = some x
    rw [hN]; exact h
  have isi : ∀ {cn : Str} {p1 p2 p3 pos : Pos} {CC : Addr}, Y.mg cn = some (.ref CC) → (defScope s__law_heard).names.lookup cn = some .globalImplicit → (cn == ("__debug__" : Str)) = false →
      PE (Y.suite a ((a, oe) :: pn)) (.Call (.Name "isinstance" p1) [.Name "_law_e" p2, .Name cn p3] [] pos) fun σ H Q => σ[1]? = some (some (.ref a)) ∧ ∃ b, PySem.W.kitOne Y.K (.ref UC) (.ref CC) = some b ∧ (∃ fs, H dd = some (.xd fs)) ∧ Q (.bl b) H := fun {cn p1 p2 p3 pos CC} hm hl hd => by
    have h := pe_callB (p := p1) (pos := pos) (cr_isD (X := Y) (pn := pn) (dd := dd) hc.ex hz hf) (gl (x := "isinstance") rfl) hb (by rfl) (pa_cons (pe_var (pos := p2) (i := 1) (nth (x := "_law_e") rfl) (vis rfl)) (pa_cons (pe_glob (v := .ref CC) (pos := p3) (gl hl) hm rfl hd) pa_nil))
    refine ⟨fun pins s σ H Q I z => h.run pins s σ H Q I ?_⟩
    obtain ⟨e, b, k, fs, q⟩ := z
    exact ⟨_, e, .ref CC, .ref CC, b, rfl, fun u r => r, k, fs, q⟩
  have fam : ∀ {b1 b2 b3 : Bool} {j1 j2 j3 : Nat} {p0 p1 p2 p3 p4 pos pos' : Pos}, PW (Y.suite a ((a, oe) :: pn)) (.BoolOp .And [.Compare (.Name "_law_families" p0) [.Eq] [.List [.Constant (.bool b1) j1 p1, .Constant (.bool b2) j2 p2, .Constant (.bool b3) j3 p3] p4] pos] pos')
      fun σ H Q => ∃ l, σ[2]? = some (some (.ref l)) ∧ H l = some (.lst [.bl false, .bl true, .bl false]) ∧ ∀ H', Same H H' → Q (PyData.eqv (.list [.bool false, .bool true, .bool false]) (.list [.bool b1, .bool b2, .bool b3])) H' := by
    intro b1 b2 b3 j1 j2 j3 p0 p1 p2 p3 p4 pos pos'
    have h := pw_and1 (pos := pos') (pt_cmpR (pos := pos) (op_eqD (X := Y.suite a ((a, oe) :: pn)) hu) (pe_var (pos := p0) (i := 2) (nth (x := "_law_families") rfl) (vis rfl)) (pe_lst (pos := p4) (pa_cons (pe_bl (b := b1) (j := j1) (pos := p1)) (pa_cons (pe_bl (b := b2) (j := j2) (pos := p2)) (pa_cons (pe_bl (b := b3) (j := j3) (pos := p3)) pa_nil)))) (nomark _))
    refine ⟨fun wh pins s σ H Q I z => h.run wh pins s σ H Q I ?_⟩
    obtain ⟨l, e, hl, q⟩ := z
    refine ⟨_, e, (Nat.le_of_ble_eq_true rfl), fun p hp => ?_⟩
    have d0 : ∀ {b : Bool} {H : Hp}, Dp Y.K H (.bl b) (.bool b) := fun {b H} => .bl b
    refine ⟨.list [.bool false, .bool true, .bool false], .list [.bool b1, .bool b2, .bool b3], .lst (.of (same_new hp _ _ hl)) (.cons d0 (.cons d0 (.cons d0 .nil))), .lst (.of upd_same) (.cons d0 (.cons d0 (.cons d0 .nil))), by rfl, by rfl, _, rfl, q _ (same_new hp)⟩
  refine pss_len (t := _) (pss_cons (ps_set (i := 2) (by show Y.N.Nodup; rw [hN]; exact sc__law_heard.nd) (nth rfl) (.inl (by show Y.env.scope.names.lookup _ = _; rw [hS]; rfl)) (pe_lst (pa_cons (isi hc.gP rfl rfl) (pa_cons (isi hc.gQ rfl rfl) (pa_cons (isi hc.gT rfl rfl) pa_nil)))) rfl (.inr (by show Y.env.scope.names.lookup _ = _; rw [hS]; rfl)))
    (pss_cons (ps_if (pw_and (pt_val (isi hc.gI rfl rfl)) fam).pt pss_no pss_nil)
      (pss_cons (ps_if (pw_and (pt_val (isi hc.gX rfl rfl)) fam).pt pss_no pss_nil)
        (pss_cons (ps_if (pw_and (pt_val (isi hc.gU rfl rfl)) fam).pt (pss_one (ps_ret (pe_tup (pa_cons pe_str (pa_cons (pe_xf hc.xf hc.uc.nn hz hf (pe_var (i := 1) (nth rfl) (vis rfl))) pa_nil))))) pss_nil) pss_no)))) ?_
  rintro D σ H h0 ⟨⟨σ', rfl⟩, nm, h2, k⟩
  have h0 : (σ'.set 1 (some (V.ref a))).length = 3 := h0.trans (by show Y.N.length = 3; rw [hN]; rfl)
  have h1 : (σ'.set 1 (some (V.ref a)))[1]? = some (some (.ref a)) := List.getElem?_set_self (by rw [List.length_set] at h0; omega)
  generalize σ'.set 1 (some (V.ref a)) = σ at h0 h1 ⊢
  refine ⟨h1, _, hc.kP, ⟨_, h2⟩, h1, _, hc.kQ, ⟨_, h2⟩, h1, _, hc.kT, ⟨_, h2⟩, (Nat.le_of_ble_eq_true rfl), fun l hl => ?_⟩
  have s1 := same_new (o := .lst [.bl false, .bl true, .bl false]) hl
  have g1 : (σ.set 2 (some (V.ref l)))[1]? = some (some (.ref a)) := by rw [List.getElem?_set_ne (by decide)]; exact h1
  have g2 : (σ.set 2 (some (V.ref l)))[2]? = some (some (.ref l)) := List.getElem?_set_self (by omega)
  have d1 := s1 _ _ h2
  refine ⟨g1, _, hc.kI, ⟨_, d1⟩, _, rfl, ?_⟩
  refine ⟨g1, _, hc.kX, ⟨_, d1⟩, _, rfl, ?_⟩
  refine ⟨g1, _, hc.kU, ⟨_, d1⟩, _, rfl, l, g2, upd_same, fun H' s2 => ?_⟩
  rw [show PyData.eqv (.list [.bool false, .bool true, .bool false]) (.list [.bool false, .bool true, .bool false]) = true from by decide +kernel]
  refine ift ?_
  refine ⟨_, g1, rfl, rfl, _, _, _, rfl, s2 _ _ d1, rfl, (Nat.le_of_ble_eq_true rfl), fun p hp => ?_⟩
  exact k _ p (s1.trans (s2.trans (same_new hp))) upd_same
theorem heard_gives {X : Cx} {UC fI CO CP CQ CT CI CX' g : Addr} {cdg : Value} {q : Str} {k : Nat} (hr : Room (k + 1) X.A) (hc : Hc X.K X.mg UC fI CO CP CQ CT CI CX') (hb : X.mg "isinstance" = none) :
    GivesTo X N__law_heard "_law_heard" (defScope s__law_heard) g cdg (defBody s__law_heard) "_law_ask" q (THeard UC) := by
  intro f c' s H Q tl act hco want
  have hu := (hr.deeper (envOfC "_law_heard" (defScope s__law_heard) s.heap.objs.size g cdg)).units
  refine ⟨_, pss_one (ps_try_as (X := (cxOf C8.CX0 X.prog X.w X.K X.mg X.base N__law_heard "_law_heard" (defScope s__law_heard) g cdg X.A X.stack s H C8.E0).nox) (c := .ref CO) (i := 1)
    (tb := fun W D σ H => ∃ Ech : XK, (∀ cls d σ' H', Ech cls d H' → W cls d σ' H') ∧ σ[0]? = some (some (.ref f)) ∧ H c' = some (CodeO c' q) ∧ tl Ech H fun v H' => [V.str "told", v].length ≤ sizeLine ∧ ∀ p, H' p = none → D.rt (.ref p) (upd H' p (.tup [.str "told", v])))
    (ts := fun a cls d D σ H => ∃ dd, (cls = .ref UC ∧ d = some dd) ∧ tHS a dd D σ H)
    rfl rfl sc__law_heard.nd rfl rfl ⟨rfl, rfl, .inl hc.gO⟩ LamX.takes0 (fun W pn xe tk _ => ?_) (fun a oe cls d pn hz hf => ?_)), ?_⟩
  · refine ⟨fun pins s' σ H' D I h' => ?_⟩
    obtain ⟨Ech, hW, h1, h2, h3⟩ := h'
    have hp := act W pn xe Ech ⟨288, 24, 288, 32⟩ ⟨288, 24, 288, 34⟩ tk hW
    have h := pss_one (ps_ret (pos := ⟨288, 8, 288, 35⟩) (pe_tup (pos := ⟨288, 15, 288, 35⟩) (x1 := 0) (pa_cons (pe_str (x := "told") (j := 0) (pos := ⟨288, 16, 288, 22⟩)) (pa_cons hp pa_nil))))
    exact h.run pins s' σ H' D I ⟨h1, h2, h3⟩
  · refine pss_ex fun dd ⟨e1, e2⟩ => ?_
    subst e1 e2
    exact heard_suite rfl rfl hu hc hb hz hf
  · refine ⟨fun cls d H' => ∃ dd nm, cls = .ref UC ∧ d = some dd ∧ H' dd = some (.xd [("name", .str nm)]) ∧ ∀ H'' p, Same H' H'' → H'' p = some (.tup [.str "cell", .str nm]) → Q (.ref p) H'', fun cls d σ' H' z => ?_, rfl, hco, ?_⟩
    · obtain ⟨dd, nm, rfl, rfl, h1, h2⟩ := z
      exact ⟨true, hc.ois, fun _ a na => ⟨dd, ⟨rfl, rfl⟩, ⟨σ', rfl⟩, nm, h1, fun H2 p s2 hp => h2 H2 p s2 hp⟩, fun z => nomatch z⟩
    · exact want
end K

namespace G
open PySem PySem.Spec PyProof.Rows L2 LamX
/-! ### a lambda that is handed to the law's hearing -/
theorem is_lam {c : Cd} {X : Cx} (h : Is c X) {A : Around} {outer : List Env} {s : Shared} {H : Hp} {E : XK} {scope : Scope} {f c' : Addr} {k : Nat} (hr : Room k (A.deeper (lamEnv X scope s.heap.objs.size f c'))) :
    Is ⟨c.toMd, c.N, scope, k, false, false, none⟩ (lamCx X A outer s H E scope f c') :=
  ⟨h.prog, h.w, h.K, h.mg, h.base, h.N, rfl, rfl, hr, fun z => Bool.noConfusion z, passes_of rfl, h.nd, fun z => Bool.noConfusion z, fun _ _ z => nomatch z⟩
section
variable {X : Cx} {k n : Nat} {f : Addr} {fd : FuncData} {ps ks : List Str} {sp : Sp} {x : Str} {p pos : Pos} {e : Expr} {es : List Expr} {kws : List Keyword} {t tk : TA} {E : XK} {CX : CXT}
/-- a def that may raise, called with places and keywords -/
theorem peE_kwP {g : List Value → List Value → List Value} {gV : List V → List V → List V} (F : FnOk X.prog X.w X.K X.mg X.base CX k f fd ps sp) (room : Room k X.A) (hx : Passes CX X E) (gl : Gl X x) (hm : X.mg x = some (.ref f)) (kp : PySem.W.keepIn X.K (.ref f) = true)
    (bn : ∀ (s : Shared) (us ws : List Value), X.K.In s.heap → us.length = n → ws.length = ks.length → BindsTo s fd ⟨us, ks.zip ws⟩ (ps.zip (g us ws))) (rel : ∀ (vs zs : List V) (us ws : List Value), Vals vs us → Vals zs ws → vs.length = n → zs.length = ks.length → Vals (gV vs zs) (g us ws))
    (ha : PA X (e :: es) t) (hkw : PK X kws tk) (h1 : (backToKw pos (keywordEach kws X.env)).all (·.1.isSome) = true) (h2 : (backToKw pos (keywordEach kws X.env)).filterMap (·.1) = ks) (hdb : (x == ("__debug__" : Str)) = false)
    (h3 : ((backTo pos (starEach (e :: es) X.env)).any (·.1) || (backToKw pos (keywordEach kws X.env)).any (·.1.isNone)) = false) (h4 : starEach (e :: es) X.env = (false, eval e X.env) :: starEach es X.env) :
    PE X (.Call (.Name x p) (e :: es) kws pos) (fun σ H Q => t σ H fun vs H1 => tk σ H1 fun zs H2 => vs.length = n ∧ zs.length = ks.length ∧ sp (gV vs zs) H2 Q E) := by
  constructor
  intro pins st σ H Q J z
  apply wpAny_Call_Name_kw
  apply ld_glob J gl hm _ hdb
  refine PySem.W.callWith_KW (h₀ := X.base) J.ok.mod.kin kp h1 ?_ h3 h4
  refine thn (ha.run pos pins st σ H _ J z) fun us s0 ⟨vs, H0, J0, rv, z0⟩ => ?_
  refine thn (hkw.run pos pins s0 σ H0 _ J0 z0) fun ws s1 ⟨zs, H1, J1, rz, lv, lz, q⟩ => ⟨J1.kIn, ?_⟩
  rw [h2]
  have r2 := rel vs zs us ws rv rz lv lz
  refine wpAny_call (codeAny_mono (F.run X.A X.stack s1 H1 ⟨us, ks.zip ws⟩ (g us ws) (gV vs zs) Q E room J1.env0 (bn s1 us ws J1.kIn (rv.length.symm.trans lv) (rz.length.symm.trans lz)) r2 q) fun r s2 z => ?_)
  match r, z with
  | .ok (.ret u), z => exact J1.after z
  | .error u, z => exact hx _ _ _ _ u s2 J1 z
/-- with keywords only -/
theorem peE_kw {g : List Value → List Value} {gV : List V → List V} (F : FnOk X.prog X.w X.K X.mg X.base CX k f fd ps sp) (room : Room k X.A) (hx : Passes CX X E) (gl : Gl X x) (hm : X.mg x = some (.ref f)) (kp : PySem.W.keepIn X.K (.ref f) = true)
    (bn : ∀ (s : Shared) (ws : List Value), ws.length = ks.length → BindsTo s fd ⟨[], ks.zip ws⟩ (ps.zip (g ws))) (rel : ∀ (zs : List V) (ws : List Value), Vals zs ws → zs.length = ks.length → Vals (gV zs) (g ws)) (hkw : PK X kws t)
    (h1 : (backToKw pos (keywordEach kws X.env)).all (·.1.isSome) = true) (h2 : (backToKw pos (keywordEach kws X.env)).filterMap (·.1) = ks) (hdb : (x == ("__debug__" : Str)) = false)
    (h3 : ((backTo pos (starEach [] X.env)).any (·.1) || (backToKw pos (keywordEach kws X.env)).any (·.1.isNone)) = false) :
    PE X (.Call (.Name x p) [] kws pos) (fun σ H Q => t σ H fun zs H2 => zs.length = ks.length ∧ sp (gV zs) H2 Q E) := by
  constructor
  intro pins st σ H Q J z
  apply wpAny_Call_Name_kw
  apply ld_glob J gl hm _ hdb
  refine PySem.W.callWith_KW0 (h₀ := X.base) J.ok.mod.kin kp h1 ?_ h3
  refine thn (hkw.run pos pins st σ H _ J z) fun ws s1 ⟨zs, H1, J1, rz, lz, q⟩ => ⟨J1.kIn, ?_⟩
  rw [h2]
  have r2 := rel zs ws rz lz
  refine wpAny_call (codeAny_mono (F.run X.A X.stack s1 H1 ⟨[], ks.zip ws⟩ (g ws) (gV zs) Q E room J1.env0 (bn s1 ws (rz.length.symm.trans lz)) r2 q) fun r s2 z => ?_)
  match r, z with
  | .ok (.ret u), z => exact J1.after z
  | .error u, z => exact hx _ _ _ _ u s2 J1 z
end
/-- a def that is called with keywords only -/
structure DcK (c : Md) (x : Str) (ps ks : List Str) (gV : List V → List V) (k : Nat) (sp : Sp) : Prop where
  ex : ∃ (f : Addr) (fd : FuncData) (g : List Value → List Value), FnG c.prog c.w c.K c.mg c.base noX k f fd ps sp ∧ c.mg x = some (.ref f) ∧ PySem.W.keepIn c.K (.ref f) = true ∧ (∀ (s : Shared) (ws : List Value), ws.length = ks.length → BindsTo s fd ⟨[], ks.zip ws⟩ (ps.zip (g ws))) ∧
    ∀ (zs : List V) (ws : List Value), Vals zs ws → zs.length = ks.length → Vals (gV zs) (g ws)
section
variable {c : Cd} {σ : L2.St} {H : Hp} {Q : VK} {pos : Pos}
theorem k_nil {Q : List V → Hp → Prop} (q : Q [] H) : RPK c [] σ H Q := rk_of (fun _ _ => pk_nil) q
theorem k_cons {Q : List V → Hp → Prop} {nm : Option Str} {e : Expr} {kpos : Pos} {kws : List Keyword} (q : RE c e σ H fun x H1 => RPK c kws σ H1 fun xs H2 => Q (x :: xs) H2) : RPK c (⟨nm, e, kpos⟩ :: kws) σ H Q :=
  rk_of (fun X h => pk_cons (pe_re h) (pk_rk h)) q
theorem e_kw {x : Str} {p : Pos} {kws : List Keyword} {ps ks : List Str} {gV : List V → List V} {k : Nat} {sp : Sp} (D : DcK c.toMd x ps ks gV k sp) (q : RPK c kws σ H fun zs H1 => zs.length = ks.length ∧ sp (gV zs) H1 Q fun _ _ _ => False) (hk : k ≤ c.k := by exact Nat.le_of_ble_eq_true rfl) (hg : c.sc.names.lookup x = some .globalImplicit := by rfl)
    (h1 : ∀ env, (backToKw pos (keywordEach kws env)).all (·.1.isSome) = true := by intro _; rfl) (h2 : ∀ env, (backToKw pos (keywordEach kws env)).filterMap (·.1) = ks := by intro _; rfl) (hdb : (x == ("__debug__" : Str)) = false := by decide)
    (h3 : ∀ env, ((backTo pos (starEach [] env)).any (·.1) || (backToKw pos (keywordEach kws env)).any (·.1.isNone)) = false := by intro _; rfl) : RE c (.Call (.Name x p) [] kws pos) σ H Q := by
  obtain ⟨f, fd, g, F, hm, hkp, hb, hr⟩ := D.ex
  refine re_of (t := fun σ H Q => RPK c kws σ H fun zs H2 => zs.length = ks.length ∧ sp (gV zs) H2 Q fun _ _ _ => False) (fun X h => ?_) q
  refine peE_kw (CX := noX) (E := fun _ _ _ => False) (k := k) (f := f) (fd := fd) (ps := ps) (ks := ks) (sp := sp) (g := g) (gV := gV) ?_ (h.room.mono hk) (fun _ _ _ _ _ _ _ z => z.elim) (gl_of h hg) (by rw [h.mg]; exact hm) (by rw [h.K]; exact hkp) hb hr (pk_rk h) (h1 _) (h2 _) hdb (h3 _)
  rw [h.prog, h.w, h.K, h.mg, h.base]; exact F
end
/-- a def that may raise, at the module's name x -/
structure DcE (c : Md) (x : Str) (ps : List Str) (k : Nat) (sp : Sp) (f : Addr) (fd : FuncData) : Prop where
  ok : FnOk c.prog c.w c.K c.mg c.base (L2.CX c.prog c.w) k f fd ps sp
  at_ : c.mg x = some (.ref f)
  kp : PySem.W.keepIn c.K (.ref f) = true
/-- a lambda's body for any error that leaves it -/
def LamB (c : Cd) (scope : Scope) (k : Nat) (body : Expr) (t : XK → TE) : Prop := ∀ X, Is c X → ∀ (A : Around) (outer : List Env) (s : Shared) (H : Hp) (E : XK) (f c' : Addr), Room k (A.deeper (lamEnv X scope s.heap.objs.size f c')) → PE (lamCx X A outer s H E scope f c') body (t E)
abbrev lamCd (c : Cd) (scope : Scope) (k : Nat) : Cd := ⟨c.toMd, c.N, scope, k, false, false, none⟩
section
variable {c : Cd} {scope : Scope} {k n : Nat} {f : Addr} {fd : FuncData} {ps ks : List Str} {sp : Sp} {x : Str} {p pos : Pos} {e : Expr} {es : List Expr} {kws : List Keyword}
theorem lam_kwP {g : List Value → List Value → List Value} {gV : List V → List V → List V} (D : DcE c.toMd x ps k sp f fd)
    (bn : ∀ (s : Shared) (us ws : List Value), c.K.In s.heap → us.length = n → ws.length = ks.length → BindsTo s fd ⟨us, ks.zip ws⟩ (ps.zip (g us ws))) (rel : ∀ (vs zs : List V) (us ws : List Value), Vals vs us → Vals zs ws → vs.length = n → zs.length = ks.length → Vals (gV vs zs) (g us ws))
    (hg : scope.names.lookup x = some .globalImplicit) (hdb : (x == ("__debug__" : Str)) = false)
    (h1 : ∀ env, (backToKw pos (keywordEach kws env)).all (·.1.isSome) = true := by intro _; rfl) (h2 : ∀ env, (backToKw pos (keywordEach kws env)).filterMap (·.1) = ks := by intro _; rfl)
    (h3 : ∀ env, ((backTo pos (starEach (e :: es) env)).any (·.1) || (backToKw pos (keywordEach kws env)).any (·.1.isNone)) = false := by intro _; rfl) (h4 : ∀ env, starEach (e :: es) env = (false, eval e env) :: starEach es env := by intro _; rfl) :
    LamB c scope k (.Call (.Name x p) (e :: es) kws pos) fun E σ H Q => RA (lamCd c scope k) (e :: es) σ H fun vs H1 => RPK (lamCd c scope k) kws σ H1 fun zs H2 => vs.length = n ∧ zs.length = ks.length ∧ sp (gV vs zs) H2 Q E := by
  intro X h A outer s H E f c' hr
  have hl := is_lam h (outer := outer) (H := H) (E := E) hr
  have tk := takes_of (X := lamCx X A outer s H E scope f c') (E := E) rfl rfl rfl rfl
  refine peE_kwP (g := g) ?_ hr (passes_call tk fun _ _ _ _ z => z) hg (by show X.mg x = _; rw [h.mg]; exact D.at_) (by show PySem.W.keepIn X.K _ = true; rw [h.K]; exact D.kp) (fun s us ws kin => bn s us ws (by rw [← h.K]; exact kin)) rel (pa_ra hl) (pk_rk hl) (h1 _) (h2 _) hdb (h3 _) (h4 _)
  show FnOk X.prog X.w X.K X.mg X.base (L2.CX X.prog X.w) _ _ _ _ _
  rw [h.prog, h.w, h.K, h.mg, h.base]; exact D.ok
theorem lam_kw {g : List Value → List Value} {gV : List V → List V} (D : DcE c.toMd x ps k sp f fd)
    (bn : ∀ (s : Shared) (ws : List Value), ws.length = ks.length → BindsTo s fd ⟨[], ks.zip ws⟩ (ps.zip (g ws))) (rel : ∀ (zs : List V) (ws : List Value), Vals zs ws → zs.length = ks.length → Vals (gV zs) (g ws))
    (hg : scope.names.lookup x = some .globalImplicit) (hdb : (x == ("__debug__" : Str)) = false)
    (h1 : ∀ env, (backToKw pos (keywordEach kws env)).all (·.1.isSome) = true := by intro _; rfl) (h2 : ∀ env, (backToKw pos (keywordEach kws env)).filterMap (·.1) = ks := by intro _; rfl)
    (h3 : ∀ env, ((backTo pos (starEach [] env)).any (·.1) || (backToKw pos (keywordEach kws env)).any (·.1.isNone)) = false := by intro _; rfl) :
    LamB c scope k (.Call (.Name x p) [] kws pos) fun E σ H Q => RPK (lamCd c scope k) kws σ H fun zs H2 => zs.length = ks.length ∧ sp (gV zs) H2 Q E := by
  intro X h A outer s H E f c' hr
  have hl := is_lam h (outer := outer) (H := H) (E := E) hr
  have tk := takes_of (X := lamCx X A outer s H E scope f c') (E := E) rfl rfl rfl rfl
  refine peE_kw (g := g) ?_ hr (passes_call tk fun _ _ _ _ z => z) hg (by show X.mg x = _; rw [h.mg]; exact D.at_) (by show PySem.W.keepIn X.K _ = true; rw [h.K]; exact D.kp) bn rel (pk_rk hl) (h1 _) (h2 _) hdb (h3 _)
  show FnOk X.prog X.w X.K X.mg X.base (L2.CX X.prog X.w) _ _ _ _ _
  rw [h.prog, h.w, h.K, h.mg, h.base]; exact D.ok
end
end G
namespace G
open PySem PySem.Spec PyProof.Rows L2 LamX
/-- a def whose own code object is known -/
theorem is_cxT {M : Md} {N : List Str} {qual : Str} {sc : Scope} {f cd : Addr} {A : Around} {outer : List Env} {s : Shared} {H : Hp} {E : XK} {k : Nat} (hn : N.Nodup) (hg : A.guards = some []) (hr : Room k (A.deeper (envOfC qual sc s.heap.objs.size f (.ref cd)))) :
    Is ⟨M, N, sc, k, true, true, some (qual ++ ".<locals>.", cd)⟩ (cxOf CX0 M.prog M.w M.K M.mg M.base N qual sc f (.ref cd) A outer s H E).nox :=
  ⟨rfl, rfl, rfl, rfl, rfl, rfl, rfl, rfl, hr, fun _ _ => rfl, PassesOwn.never, hn, fun _ => hg, fun q a z => by
    have z := Prod.mk.inj (Option.some.inj z)
    rw [← z.1, ← z.2]
    exact ⟨rfl, rfl⟩⟩
theorem fn_okT {M : Md} {x qual : Str} {st : Stmt} {f cd : Addr} {fd : FuncData} {N ps : List Str} {k : Nat} {sp : Sp} (F : Fun M.K x qual st f fd) (hcd : fd.code = .ref cd) (S : FnScope N ps (defScope st)) (len : ∀ vs H Q E, sp vs H Q E → vs.length = ps.length)
    (body : ∀ (H : Hp) (vs : List V) (Q : VK) (E : XK), sp vs H Q E → RB ⟨M, N, defScope st, k, true, true, some (qual ++ ".<locals>.", cd)⟩ (defBody st) { nx := fun _ H' => Q .non H', rt := Q } (start N vs) H) : FnQ M.prog M.w M.K M.mg M.base CX0 (k + 1) f fd ps sp := by
  obtain ⟨oc, od, kV, doc, pm, an, cdv, ct, osl, rfl, at_, cod⟩ := F.ex
  obtain rfl : cdv = .ref cd := hcd
  exact fnQ_of at_ cod S len fun A up s H vs Q E hg hr h => ⟨RB ⟨M, N, defScope st, k, true, true, some (qual ++ ".<locals>.", cd)⟩ (defBody st), (ps_rb (is_cxT S.nd hg hr)).nox, body H vs Q E h⟩
end G
namespace K
open PySem PySem.Spec PyProof.Rows L2 LamX G
/-- the law's hearing is called with a lambda -/
theorem e_heard {c : Cd} {σ : L2.St} {H : Hp} {Q : VK} {UC fI CO CP CQ CT CI CX' g cd P : Addr} {fd : FuncData} {qual : Str} {k : Nat} {p lpos pos : Pos} {params : Arguments} {body : Expr} {scope : Scope} {t : XK → TE} (F : Fun c.K "_law_heard" "_law_heard" s__law_heard g fd) (hc : Hc c.K c.mg UC fI CO CP CQ CT CI CX') (hb : c.mg "isinstance" = none)
    (hm : c.mg "_law_heard" = some (.ref g)) (kp : PySem.W.keepIn c.K (.ref g) = true) (ev : c.ev = some (qual, cd)) (TB : TabB c.base c.mg cd P) (hT : Tabs [(P, qual ++ "<lambda>")] H) (hbody : LamB c scope k body t)
    (q : ∀ H1, ExtN H H1 → Tabs [(P, qual ++ "<lambda>")] H1 → THeard UC (fun E H' Q' => t E σ H' Q') H1 Q)
    (hk : k + 2 ≤ c.k := by exact Nat.le_of_ble_eq_true rfl) (hg : c.sc.names.lookup ("_law_heard" : Str) = some .globalImplicit := by rfl) (L : lamSB c.sc scope = true := by rfl)
    (hdef : ∀ env, defaultsOf params env = ([], []) := by intro _; rfl)
    (hbind : ∀ (q : Str) (cl : List (Str × Addr)) (pm cv ctv : Value), bindArgs (PySem.W.kla_fn "<lambda>" q params body scope cl pm cv ctv) ⟨[], []⟩ = pure [] := by intros; rfl) :
    RE c (.Call (.Name "_law_heard" p) [.Lambda params body scope lpos] [] pos) σ H Q := by
  refine re_of (t := tLam [(P, qual ++ "<lambda>")] (THeard UC) t) (fun X h => ?_) ⟨hT, q⟩
  obtain ⟨oc, od, kV, doc, pm, an, cdv, ct, osl, rfl, at_, cod⟩ := F.ex
  obtain ⟨e1, e2⟩ := h.evh _ _ ev
  have room : Room (k + 2) X.A := h.room.mono hk
  refine pe_lamcall (T := [(P, qual ++ "<lambda>")]) (gl_of h hg) (by rw [h.mg]; exact hm) (by rw [h.K]; exact kp) (by rw [h.K]; exact at_) (by rw [h.K]; exact cod) ?_ sc__law_heard rfl (.inl rfl) (heard_gives room (by rw [h.K, h.mg]; exact hc) (by rw [h.mg]; exact hb)) (by rw [h.base, h.mg]; exact TB) e2
    (by rw [e1]; exact List.mem_singleton.mpr rfl) (fun z hz _ => by rw [List.mem_singleton.mp hz, e1]) room (lamS_by (by rw [h.sc]; exact L)) (hdef _) hbind (fun A outer s H E f c' hr => hbody X h A outer s H E f c' hr)
  intro s us _ hl
  match us, hl with
  | [u], _ => exact .of_eq rfl
end K

namespace K
open PySem PySem.Spec PyProof.Rows L2 LamX G
variable {M : Md}
/-! ### the law looks at the cells -/
theorem ro_addT {c : Cd} {H : Hp} {Q : VK} {x y : Str} (h : x.length + y.length ≤ 1000) (q : Q (.str (x ++ y)) H) : RO c .Add (.str x) (.str y) H Q := ro_of (fun _ _ => op_add_str) ⟨x, y, rfl, rfl, by rw [sizeLine_eq]; omega, q⟩
theorem rc_strI {c : Cd} {H : Hp} {Q : VK} {i : Int} (h : i.natAbs < 10 ^ 12) (q : Q (.str (toString i)) H) : RC c (.type "str") [.int i] H Q := rc_of (fun _ _ => call_str_int) ⟨i, rfl, log_of h, q⟩
structure SpR (rs : List Row) : Prop where
  all : RowsAll rs
  txt : ∀ r ∈ rs, r.1.length ≤ 20 ∧ r.2.1 ≤ 10 ∧ ∀ c ∈ r.1.cps.toList, c < 16 ^ 8
  no : ∀ r ∈ rs, r.1 ≠ "none" ∧ r.1 ≠ "xx"
theorem SpR.nms {rs : List Row} (S : SpR rs) : Nms rs := ⟨S.all.ri.len, fun r hr => ⟨(S.txt r hr).1, (S.txt r hr).2.1⟩⟩
theorem tp_ext {H H' : Hp} (e : ExtN H H') : Tp H H' := ⟨fun _ _ h => e _ _ h fun _ z => (nomatch z), fun _ _ _ h => e _ _ h fun _ z => (nomatch z)⟩
theorem cps_num (m : Nat) : ∀ c ∈ (toString ((m : Nat) : Int) : Str).cps.toList, c < 16 ^ 8 := by
  intro c hc
  have hc : c ∈ (PySem.Str.ofString (toString ((m : Nat) : Int))).cps.toList := hc
  rw [PySem.W.KIN.signs_num] at hc
  obtain ⟨ch, _, rfl⟩ := List.mem_map.mp hc
  exact ch.val.toNat_lt
theorem cps_app (x y : Str) : (x ++ y).cps.toList = x.cps.toList ++ y.cps.toList := by
  show (x.cps ++ y.cps).toList = _
  simp
theorem nm_repr {rs : List Row} (S : SpR rs) {s : Str} (h : s ∈ cnms rs) : (reprText s).length ≤ 400 := by
  obtain ⟨r, hr, h⟩ := List.mem_flatMap.mp h
  obtain ⟨l20, k10, cp⟩ := S.txt r hr
  unfold cnm at h
  split at h
  · rw [List.mem_singleton.mp h]
    have := PySem.StrLaws.reprText_len r.1 cp
    omega
  · obtain ⟨k, hk, rfl⟩ := List.mem_map.mp h
    have hk := List.mem_range.mp hk
    have l13 := txt_len (i := (k : Int)) (by omega)
    have hl : (nmK r k).length ≤ 34 := by
      show (r.1 ++ "." ++ toString (k : Int)).length ≤ 34
      rw [len_app, len_app]
      show r.1.length + 1 + _ ≤ _
      omega
    refine Nat.le_trans (PySem.StrLaws.reprText_len _ fun c hc => ?_) (by omega)
    have hc : c ∈ (r.1 ++ "." ++ toString (k : Int)).cps.toList := hc
    rw [cps_app, cps_app] at hc
    rcases List.mem_append.mp hc with hc | hc
    · rcases List.mem_append.mp hc with hc | hc
      · exact cp c hc
      · have hc : c ∈ [46] := hc
        rw [List.mem_singleton.mp hc]; decide
    · exact cps_num k c hc
def namesD (rs : List Row) : PyData := .tuple ((cnms rs).map PyData.str)
theorem cnms_many {rs : List Row} (S : SpR rs) : (cnms rs).length ≤ 100 := by
  have h := cnms_len fun q hq => (S.txt q hq).2.1
  have := S.all.ri.len
  omega
theorem names_shw {rs : List Row} (S : SpR rs) : Shw 1 40203 (namesD rs) := by
  refine sw_tup (m := 0) (n := 400) (k := 100) (fun d hd => ?_) (by rw [List.length_map]; exact cnms_many S)
  obtain ⟨s, hs, rfl⟩ := List.mem_map.mp hd
  exact sw_str (nm_repr S hs)
theorem rngs_shw {rs : List Row} (S : SpR rs) : Shw 2 40203 (.tuple (rngs rs)) := by
  refine (sw_tup (m := 1) (n := 33) (k := 10) (fun d hd => ?_) (by rw [rngs_len]; exact S.all.sm.tot)).up (Nat.le_refl _) (by decide)
  obtain ⟨r, hr, hd⟩ := List.mem_flatMap.mp hd
  have hd := (List.mem_replicate.mp hd).2
  subst hd
  have hp := S.all.sm.sp (r.2.2.1, r.2.2.2.1) (List.mem_flatMap.mpr ⟨r, hr, List.mem_replicate.mpr ⟨by unfold width; omega, rfl⟩⟩)
  obtain ⟨h1, h2, h3⟩ := hp
  unfold span at h1
  refine sw_tup (m := 0) (n := 13) (k := 2) (fun d hd => ?_) (Nat.le_of_ble_eq_true rfl)
  rcases List.mem_cons.mp hd with rfl | hd
  · exact sw_int (Nat.lt_of_le_of_lt (show _ ≤ 40 by omega) (by decide))
  · rw [List.mem_singleton.mp hd]
    exact sw_int (Nat.lt_of_le_of_lt (show _ ≤ 40 by omega) (by decide))
theorem if_false_of {A B : Prop} {k : Bool} (h : k = false) (b : B) : if k = true then A else B := by rw [h]; exact b
def kvO : Option Int → V
  | none => .non
  | some k => .int k
def keys : List (Option Int) := [none, some 0, some 1, some 2, some 3, some (-1), some (10 ^ 59)]
def dueD (r : Row) : Option Int → PyData
  | some m => .tuple [.str "told", .int m]
  | none => .tuple [.str "cell", .str r.1]
theorem nd_inj {a b : Row} : ∀ {rs : List Row}, (rs.map nameOf).Nodup → a ∈ rs → b ∈ rs → nameOf a = nameOf b → a = b
  | q :: rs, nd, ha, hb, e => by
    rw [List.map_cons, List.nodup_cons] at nd
    cases ha with
    | head =>
      cases hb with
      | head => rfl
      | tail _ hb => exact absurd (List.mem_map.mpr ⟨b, hb, e.symm⟩) nd.1
    | tail _ ha =>
      cases hb with
      | head => exact absurd (List.mem_map.mpr ⟨a, ha, e⟩) nd.1
      | tail _ hb => exact nd_inj nd.2 ha hb e
theorem spot_of {rs : List Row} {r : Row} (S : SpR rs) (hr : r ∈ rs) : ∃ j : Int, (0 ≤ j ∧ j ≤ 10) ∧ valV (spots rs 0) (Sum.inr r.1 : Key) = some (.int j) ∧ ∀ key, fIdx rs r.1 key 0 = hit r key j := by
  obtain ⟨r2, h2, j, e, hv, hf⟩ := spot_row (rs := rs) (s := r.1) 0 ⟨r, hr, rfl⟩
  have same : r2 = r := nd_inj S.all.nd h2 hr e
  subst same
  refine ⟨j, ?_, hv, hf⟩
  have tot := S.all.sm.tot
  by_cases h0 : (r2.2.1 : Int) = 0
  · have h1 : _ = if (r2.2.1 : Int) = 0 then some j else none := hf none
    rw [if_pos h0] at h1
    have := fIdx_in h1
    omega
  · have h1 : _ = if 0 ≤ (0 : Int) ∧ 0 < (r2.2.1 : Int) then some (j + 0) else none := hf (some 0)
    rw [if_pos (by omega)] at h1
    have := fIdx_in h1
    omega
theorem fIdx_no {nm : Str} {key : Option Int} : ∀ {rs : List Row} {b : Int}, (∀ r ∈ rs, r.1 ≠ nm) → fIdx rs nm key b = none
  | [], _, _ => rfl
  | r :: rs, b, h => by
    rw [fIdx, if_neg (h r (List.mem_cons_self ..))]
    exact fIdx_no fun q hq => h q (List.mem_cons_of_mem _ hq)
theorem due_shw {rs : List Row} {r : Row} (S : SpR rs) (hr : r ∈ rs) {o : Option Int} (h : ∀ m, o = some m → 0 ≤ m ∧ m ≤ 1000) : Shw 60 1000000 (dueD r o) := by
  have hx := PySem.StrLaws.reprText_len r.1 (S.txt r hr).2.2
  have l20 := (S.txt r hr).1
  have h8 : ∀ d : PyData, d = .str "told" ∨ d = .str "cell" → Shw 0 400 d := fun d hd => by
    rcases hd with rfl | rfl
    · exact sw_str (by decide +kernel)
    · exact sw_str (by decide +kernel)
  cases o with
  | some m =>
    have hm := h m rfl
    refine (sw_tup (m := 0) (n := 400) (k := 2) (fun d hd => ?_) (Nat.le_of_ble_eq_true rfl)).up (by decide) (by decide)
    rcases List.mem_cons.mp hd with rfl | hd
    · exact h8 _ (.inl rfl)
    · rw [List.mem_singleton.mp hd]
      exact (sw_int (Nat.lt_of_le_of_lt (show _ ≤ 1000 by omega) (by decide))).up (Nat.le_refl _) (by decide)
  | none =>
    refine (sw_tup (m := 0) (n := 400) (k := 2) (fun d hd => ?_) (Nat.le_of_ble_eq_true rfl)).up (by decide) (by decide)
    rcases List.mem_cons.mp hd with rfl | hd
    · exact h8 _ (.inr rfl)
    · rw [List.mem_singleton.mp hd]
      exact sw_str (by omega)
theorem due_ref {K : PySem.W.Frag} {H : Hp} {v : V} {r : Row} {o : Option Int} (h : Dt K H v (dueD r o)) : ∃ p, v = .ref p := by
  cases o with
  | some m =>
    obtain ⟨p, _, e, _⟩ := (show Dt K H v (.tuple [.str "told", .int m]) from h).tupE
    exact ⟨p, e⟩
  | none =>
    obtain ⟨p, _, e, _⟩ := (show Dt K H v (.tuple [.str "cell", .str r.1]) from h).tupE
    exact ⟨p, e⟩
abbrev sq : Str := ("_law_spots_right" : Str) ++ ".<locals>." ++ "<lambda>"
def spSR (P : Addr) (K : PySem.W.Frag) : Sp := fun vs H Q _ => ∃ (rs : List Row) (v : V), vs = [v] ∧ Dt K H v (cellsD rs) ∧ SpR rs ∧ Tabs [(P, sq)] H ∧ ∀ H', ExtN H H' → Tabs [(P, sq)] H' → Q (.bl true) H'
theorem rc_reprX {c : Cd} {H : Hp} {Q : VK} {a : Addr} {d : PyData} (hd : Dp c.K H (.ref a) d) (sw : Shw 60 1000000 d) (q : ∀ s : Str, s = d.shown → Q (.str s) H) (hq : c.g = true := by rfl) : RC c (.builtin "repr") [.ref a] H Q := rc_repr hd sw (q _ rfl) hq
theorem codeL {c : Addr} {q : Str} {zs : List V} : HO.lst zs ≠ CodeO c q := fun z => by
  have z : HO.lst zs = HO.ext _ := z
  cases z
theorem tabs_upd {T : List (Addr × Str)} {H : Hp} {l : Addr} {zs zs' : List V} (hT : Tabs T H) (hl : H l = some (.lst zs)) : Tabs T (upd H l (.lst zs')) := fun p hp => by
  obtain ⟨ps, h1, h2, h3⟩ := hT p hp
  refine ⟨ps, ?_, h2, fun pos cv hc => ?_⟩
  · rw [upd_ne (fun e => by rw [e, hl] at h1; cases h1)]; exact h1
  · obtain ⟨c, e1, e2⟩ := h3 pos cv hc
    refine ⟨c, e1, ?_⟩
    rw [upd_ne (fun e => by rw [e, hl] at e2; exact codeL (Option.some.inj e2))]; exact e2
def rot1 {α : Type} : List α → List α
  | [n, k, c] => [c, n, k]
  | zs => zs
def rev1 (zs : List V) : List V := zs
set_option maxHeartbeats 2000000 in
theorem ok_sr {f fd cd P g fdg UC fI CO CP CQ CT CI CX' fx fdx} (F : Fun M.K "_law_spots_right" "_law_spots_right" s__law_spots_right f fd) (hcd : fd.code = .ref cd) (TB : TabB M.base M.mg cd P) (b : Bl M) (rp : M.mg "repr" = none)
    (Fh : Fun M.K "_law_heard" "_law_heard" s__law_heard g fdg) (hc : Hc M.K M.mg UC fI CO CP CQ CT CI CX') (hm : M.mg "_law_heard" = some (.ref g)) (kp : PySem.W.keepIn M.K (.ref g) = true)
    (dlr : Dc M "_law_ranges" ["_law_rows_here"] 1 (spL rLRanges M.K)) (dsp : Dc M "_law_spots" ["_law_rows_here"] 1 (spSpots M.K)) (dnm : Dc M "cell_names" ["cells"] 2 (spF rNames M.K)) (dr : Dc M "cell_ranges" ["cells"] 2 (spF rRanges M.K))
    (knm : DcK M "cell_names" ["cells"] ["cells"] rev1 2 (spF rNames M.K)) (kr : DcK M "cell_ranges" ["cells"] ["cells"] rev1 2 (spF rRanges M.K))
    (dx : DcE M "cell_index" ["cells", "name", "key"] 4 (spIdx UC M.K) fx fdx)
    (bx2 : ∀ (s : Shared) (us ws : List Value), M.K.In s.heap → us.length = 2 → ws.length = (["key"] : List Str).length → BindsTo s fdx ⟨us, (["key"] : List Str).zip ws⟩ ((["cells", "name", "key"] : List Str).zip (us ++ ws)))
    (bx0 : ∀ (s : Shared) (us ws : List Value), M.K.In s.heap → us.length = 2 → ws.length = ([] : List Str).length → BindsTo s fdx ⟨us, ([] : List Str).zip ws⟩ ((["cells", "name", "key"] : List Str).zip (us ++ [.none])))
    (bx3 : ∀ (s : Shared) (ws : List Value), ws.length = (["name", "key", "cells"] : List Str).length → BindsTo s fdx ⟨[], (["name", "key", "cells"] : List Str).zip ws⟩ ((["cells", "name", "key"] : List Str).zip (rot1 ws))) :
    FnQ M.prog M.w M.K M.mg M.base CX0 7 f fd ["_law_rows_here"] (spSR P M.K) := by
  refine fn_okT F hcd sc__law_spots_right (fun vs H Q E h => ?_) (fun H vs Q E h => ?_)
  · obtain ⟨rs, v, rfl, _⟩ := h
    rfl
  obtain ⟨rs, v, rfl, hv, S, hT, k⟩ := h
  obtain ⟨a, xs, rfl, hxs, hrs⟩ := hv.tupE
  have hle := hrs.len
  rw [List.length_map] at hle
  have few := S.all.ri.len
  have tot := S.all.sm.tot
  refine b_cut (fun σ1 H' => ∃ ln lr ls us, σ1 = [some (.ref a), some (.ref ln), some (.ref lr), some (.ref ls), none, none, none, none, none, none] ∧ Same H H' ∧ H ln = none ∧ H' ln = some (.lst []) ∧ H' lr = some (.lst us) ∧ DtAll M.K H' us (rngs rs) ∧ H' ls = some (.dK (spots rs 0)) ∧ ln ≠ lr ∧ ln ≠ ls) ?_ ?_
  · refine s_par3 (by tm_at "at") (by tm_at "at") (by tm_at "at") ?_
    refine e_lstD ?_
    tm_at "go"
    refine ⟨(Nat.le_of_ble_eq_true rfl), fun ln H1 s1 n1 g1 => ?_⟩
    refine e_callL dlr ?_
    tm_at "go"
    refine ⟨_, _, .cons (hv.mono (tp_same s1)) .nil, ⟨rs, rfl, by omega, rfl⟩, fun lr us H2 s2 n2 g2 h2 => ?_⟩
    refine e_call dsp ?_
    tm_at "go"
    refine ⟨rs, _, rfl, hv.mono (tp_same (s1.trans s2)), S.all.nd, few, fun ls H3 s3 n3 g3 => ?_⟩
    exact ⟨ln, lr, ls, us, rfl, s1.trans (s2.trans s3), n1, s3 _ _ (s2 _ _ g1), s3 _ _ g2, h2.mono (tp_same s3), g3, (fresh_ne g1 (Same.refl _) n2).symm, (fresh_ne g1 s2 n3).symm⟩
  rintro _ H1 ⟨ln, lr, ls, us, rfl, s1, nln, g1, gr, hr, gs, ne1, ne2⟩
  refine b_cut (fun σ1 H' => ∃ us2 v9, σ1 = [some (.ref a), some (.ref ln), some (.ref lr), some (.ref ls), none, none, none, none, none, v9] ∧ Kp ln H1 H' ∧ H' ln = some (.lst us2) ∧ DtAll M.K H' us2 ((cnms rs).map PyData.str)) ?_ ?_
  · refine s_forT ?_
    tm_at "go"
    refine ⟨a, xs, rfl, (tp_same s1).sqt hxs, fun i σ1 H' => ∃ us2 v9, σ1 = [some (.ref a), some (.ref ln), some (.ref lr), some (.ref ls), none, none, none, none, none, v9] ∧ Kp ln H1 H' ∧ H' ln = some (.lst us2) ∧ DtAll M.K H' us2 ((cnms (rs.take i)).map PyData.str), ⟨[], none, rfl, Kp.refl _ _, g1, .nil⟩, ?_, ?_, ?_⟩
    · rintro i σ' H' _ ⟨us2, v9, rfl, k1, _⟩
      exact ((tp_same s1).trans k1.t).sqt hxs
    · rintro i x σ' H' hx ⟨us2, v9, rfl, k1, gn, hn⟩
      obtain ⟨d, hd, hx'⟩ := hrs.getV hx
      rw [List.getElem?_map] at hd
      obtain ⟨r, hrr, rfl⟩ := Option.map_eq_some_iff.mp hd
      have hmem := List.mem_of_getElem? hrr
      obtain ⟨z1, z2⟩ := List.getElem?_eq_some_iff.mp hrr
      have et := List.take_succ_eq_append_getElem z1
      rw [z2] at et
      have ec : cnms (rs.take (i + 1)) = cnms (rs.take i) ++ cnm r := by
        unfold cnms
        rw [et, List.flatMap_append, List.flatMap_cons, List.flatMap_nil, List.append_nil]
      have hul := hn.len
      rw [List.length_map] at hul
      have hcl := cnms_len (rs := rs.take i) fun q hq => (S.txt q (List.take_subset _ _ hq)).2.1
      rw [List.length_take] at hcl
      obtain ⟨t20, t10, _⟩ := S.txt r hmem
      have hx2 := hx'.mono ((tp_same s1).trans k1.t)
      refine g_name (by tm_at "at") ?_
      tm_at "go"
      refine s_expr ?_
      refine e_ext ?_
      tm_at "go"
      refine ⟨ln, us2, rfl, gn, ?_⟩
      tm_at "go"
      refine ifd (fun c1 => ?_) (fun c1 => ?_)
      · refine e_lc (own := [("_law_which", 4)]) (Blk.of (N := N__law_spots_right) (sc := defScope s__law_spots_right) rfl rfl (by decide +kernel)) ?_
        refine lcR1_F (fun t => some (.str (nmK r t))) b.range ?_
        tm_at "go"
        refine ⟨by omega, fun t H' ht sH => ?_, fun p us6 H6 s6 n6 g6 h6 => ?_⟩
        · refine g_name (by tm_at "at") ⟨rfl, rfl, ts_nil ⟨Same.refl _, ift ?_⟩⟩
          tm_at "go"
          refine ro_addT (by show _ + 1 ≤ _; omega) ?_
          refine e_callT (T := "str") b.str (by decide +kernel) ?_
          tm_at "go"
          have ht2 : ((t : Nat) : Int).natAbs < 10 ^ 12 := by omega
          refine rc_strI ht2 ?_
          have l13 := txt_len ht2
          refine ro_addT (by rw [len_app]; show _ + 1 + _ ≤ _; omega) ?_
          exact ⟨Same.refl _, _, rfl, .str _⟩
        · have lu := h6.len
          have b2 := List.length_filterMap_le (fun t : Nat => some (PyData.str (nmK r (t : Int)))) (List.range ((r.2.1 : Nat) : Int).toNat)
          rw [List.length_range] at b2
          have k6 := kp_upd (o' := .lst (us2 ++ us6)) (s6 _ _ gn) (fun _ e => nomatch e) (fun _ _ e => nomatch e)
          refine ⟨p, _, _, rfl, s6 _ _ gn, g6, by omega, ?_⟩
          refine ⟨_, _, rfl, k1.trans ((kp_same s6).trans k6), upd_same, ?_⟩
          rw [ec, List.map_append]
          refine (hn.mono ((tp_same s6).trans k6.t)).app ?_
          have h7 := h6.mono k6.t
          rw [List.filterMap_eq_map'] at h7
          unfold cnm
          rw [if_neg (by omega), List.map_map]
          exact h7
      · refine e_lstD ?_
        tm_at "go"
        refine ⟨(Nat.le_of_ble_eq_true rfl), fun p H6 s6 n6 g6 => ?_⟩
        have k6 := kp_upd (o' := .lst (us2 ++ [.str r.1])) (s6 _ _ gn) (fun _ e => nomatch e) (fun _ _ e => nomatch e)
        refine ⟨p, _, _, rfl, s6 _ _ gn, g6, by show _ + 1 ≤ _; omega, ?_⟩
        refine ⟨_, _, rfl, k1.trans ((kp_same s6).trans k6), upd_same, ?_⟩
        rw [ec, List.map_append]
        refine (hn.mono ((tp_same s6).trans k6.t)).app ?_
        unfold cnm
        rw [if_pos (by omega)]
        exact .cons (.str _) .nil
    · rintro σ' H' ⟨us2, v9, rfl, k1, gn, hn⟩
      rw [hle, List.take_length] at hn
      exact ⟨us2, v9, rfl, k1, gn, hn⟩
  rintro _ H2 ⟨us2, v9, rfl, k1, gn, hn⟩
  have hv2 := hv.mono ((tp_same s1).trans k1.t)
  have hr2 := hr.mono k1.t
  have gr2 := k1.k _ _ ne1.symm gr
  have gs2 := k1.k _ _ ne2.symm gs
  have TH := sw_lst (m := 2) (n := 40203) (k := 4) (ds := [namesD rs, namesD rs, .tuple (rngs rs), .tuple (rngs rs)]) (fun d hd => by
    simp only [List.mem_cons, List.not_mem_nil, or_false] at hd
    rcases hd with rfl | rfl | rfl | rfl
    · exact (names_shw S).up (by decide) (Nat.le_refl _)
    · exact (names_shw S).up (by decide) (Nat.le_refl _)
    · exact rngs_shw S
    · exact rngs_shw S) (Nat.le_refl _)
  have TH := TH.up (m' := 60) (n' := 1000000) (by decide) (by decide)
  have sH : Same H H2 := fun z o h => k1.k _ _ (fun e => by rw [e, nln] at h; cases h) (s1 _ _ h)
  refine b_cons (s_set (by tm_at "at") ?_)
  refine e_lstD ?_
  refine a_cons (e_callF dnm ?_)
  tm_at "go"
  refine ⟨_, _, .cons hv2 .nil, ⟨rs, rfl, S.nms, rfl⟩, fun v1 H3 s3 h3 => ?_⟩
  refine a_cons (e_kw knm (k_cons ?_))
  tm_at "go"
  refine k_nil ⟨rfl, _, _, .cons (hv2.mono (tp_same s3)) .nil, ⟨rs, rfl, S.nms, rfl⟩, fun v2 H4 s4 h4 => ?_⟩
  refine a_cons (e_callF dr ?_)
  tm_at "go"
  refine ⟨_, _, .cons (hv2.mono (tp_same (s3.trans s4))) .nil, ⟨rs, rfl, by omega, rfl⟩, fun v3 H5 s5 h5 => ?_⟩
  refine a_cons (e_kw kr (k_cons ?_))
  tm_at "go"
  refine k_nil ⟨rfl, _, _, .cons (hv2.mono (tp_same (s3.trans (s4.trans s5)))) .nil, ⟨rs, rfl, by omega, rfl⟩, fun v4 H6 s6 h6 => ?_⟩
  refine a_nil ⟨(Nat.le_of_ble_eq_true rfl), fun lt H7 s7 n7 g7 => ?_⟩
  have s27 := s3.trans (s4.trans (s5.trans (s6.trans s7)))
  refine b_cut (fun σ1 H' => σ1 = [some (.ref a), some (.ref ln), some (.ref lr), some (.ref ls), none, some (.ref lt), none, none, none, v9] ∧ Same H2 H') ?_ ?_
  · tm_at "go"
    refine e_callB (id := "repr") rp (by decide +kernel) ?_
    tm_at "go"
    refine rc_reprX (d := .list [namesD rs, namesD rs, .tuple (rngs rs), .tuple (rngs rs)]) (.lst (.of g7) (DtAll.dp (.cons (h3.mono (tp_same (s4.trans (s5.trans (s6.trans s7))))) (.cons (h4.mono (tp_same (s5.trans (s6.trans s7)))) (.cons (h5.mono (tp_same (s6.trans s7))) (.cons (h6.mono (tp_same s7)) .nil)))))) TH fun t1 et1 => ?_
    refine e_callB (id := "repr") rp (by decide +kernel) ?_
    refine a_cons ?_
    tm_at "go"
    refine e_lstD ?_
    refine a_cons ?_
    tm_at "go"
    refine rc_tupL (.of (s27 _ _ gn)) (hn.mono (tp_same s27)) fun w1 H8 s8 h8 => ?_
    refine a_nil ⟨(Nat.le_of_ble_eq_true rfl), fun p1 H9 s9 n9 g9 => ?_⟩
    tm_at "go"
    refine ro_rep g9 (by decide) (Nat.le_of_ble_eq_true rfl) fun p2 Ha sa na ga => ?_
    tm_at "go"
    refine e_lstD ?_
    refine a_cons ?_
    tm_at "go"
    have s2a := s27.trans (s8.trans (s9.trans sa))
    refine rc_tupL (.of (s2a _ _ gr2)) (hr2.mono (tp_same s2a)) fun w2 Hb sb hb => ?_
    refine a_nil ⟨(Nat.le_of_ble_eq_true rfl), fun p3 Hc sc nc gc => ?_⟩
    tm_at "go"
    refine ro_rep gc (by decide) (Nat.le_of_ble_eq_true rfl) fun p4 Hd sd nd gd => ?_
    have sad := sb.trans (sc.trans sd)
    refine ro_cat (sad _ _ ga) gd (Nat.le_of_ble_eq_true rfl) fun p5 He se ne ge => ?_
    tm_at "go"
    have h8e := h8.mono (tp_same (s9.trans (sa.trans (sad.trans se))))
    have hbe := hb.mono (tp_same (sc.trans (sd.trans se)))
    refine rc_reprX (d := .list [namesD rs, namesD rs, .tuple (rngs rs), .tuple (rngs rs)]) (.lst (.of ge) (DtAll.dp (.cons h8e (.cons h8e (.cons hbe (.cons hbe .nil)))))) TH fun t2 et2 => ?_
    obtain rfl : t1 = t2 := et1.trans et2.symm
    refine ro_ne rfl ?_
    rw [decide_eq_true rfl]
    tm_at "go"
    exact ⟨rfl, s2a.trans (sad.trans se)⟩
  rintro _ H8 ⟨rfl, s8⟩
  have hv8 := hv2.mono (tp_same s8)
  have gs8 := s8 _ _ gs2
  have hT8 := hT.ext fun z o h => s8 _ _ (sH _ _ h)
  have e8 : ExtN H H8 := .of fun z o h => s8 _ _ (sH _ _ h)
  clear TH hr2 gr2 gn hn h3 h4 h5 h6 g7 s27
  refine b_cut (fun σ1 H' => ∃ w4 w6 w7 w9, σ1 = [some (.ref a), some (.ref ln), some (.ref lr), some (.ref ls), w4, some (.ref lt), w6, w7, none, w9] ∧ ExtN H8 H' ∧ Tabs [(P, sq)] H') ?_ ?_
  · refine s_forT ?_
    tm_at "go"
    refine ⟨a, xs, rfl, ((tp_same s1).trans (k1.t.trans (tp_same s8))).sqt hxs, fun i σ1 H' => ∃ w4 w6 w7 w9, σ1 = [some (.ref a), some (.ref ln), some (.ref lr), some (.ref ls), w4, some (.ref lt), w6, w7, none, w9] ∧ ExtN H8 H' ∧ Tabs [(P, sq)] H', ⟨_, _, _, _, rfl, ExtN.refl _, hT8⟩, ?_, ?_, ?_⟩
    · rintro i σ' H' _ ⟨w4, w6, w7, w9, rfl, x8, _⟩
      exact ((tp_same s1).trans (k1.t.trans ((tp_same s8).trans (tp_ext x8)))).sqt hxs
    · rintro i x σ' H9 hx ⟨w4, w6, w7, w9, rfl, x8, hT9⟩
      obtain ⟨d, hd, hx'⟩ := hrs.getV hx
      rw [List.getElem?_map] at hd
      obtain ⟨r, hrr, rfl⟩ := Option.map_eq_some_iff.mp hd
      have hmem := List.mem_of_getElem? hrr
      obtain ⟨j, jb, hsp, hfx⟩ := spot_of S hmem
      obtain ⟨t20, t10, _⟩ := S.txt r hmem
      have hx2 := hx'.mono ((tp_same s1).trans (k1.t.trans ((tp_same s8).trans (tp_ext x8))))
      have hv9 := hv8.mono (tp_ext x8)
      have gs9 := x8 _ _ gs8 fun _ z => nomatch z
      refine g_name (by tm_at "at") ?_
      refine b_one ?_
      refine s_forT ?_
      refine e_tup ?_
      tm_at "go"
      refine ro_pow ⟨by decide, by decide, by decide⟩ ?_
      tm_at "go"
      refine ⟨(Nat.le_of_ble_eq_true rfl), fun p hp => ?_⟩
      have sp := same_new (o := .tup [V.non, .int 0, .int 1, .int 2, .int 3, .int (-1), .int (10 ^ Int.toNat 59)]) hp
      have hTp := hT9.ext sp
      generalize eHp : upd H9 p (HO.tup [V.non, V.int 0, V.int 1, V.int 2, V.int 3, V.int (-1), V.int (10 ^ Int.toNat 59)]) = Hp' at sp hTp ⊢
      have gp : Hp' p = some (.tup (keys.map kvO)) := by rw [← eHp]; exact upd_same
      refine ⟨p, keys.map kvO, rfl, .of gp, fun j' σ1 H' => ∃ w4 w6 w7, σ1 = [some (.ref a), some (.ref ln), some (.ref lr), some (.ref ls), w4, some (.ref lt), w6, w7, none, some x] ∧ ExtN Hp' H' ∧ Tabs [(P, sq)] H', ⟨_, _, _, rfl, ExtN.refl _, hTp⟩, ?_, ?_, ?_⟩
      · rintro j' σ' H' _ ⟨w4, w6, w7, rfl, xp, _⟩
        exact (tp_ext xp).sqt (.of gp)
      · rintro j' y σ' H_ hy ⟨w4, w6, w7, rfl, xp, hTa⟩
        obtain ⟨key, hkey, rfl⟩ := List.mem_map.mp (List.mem_of_getElem? hy)
        have hxa := hx2.mono ((tp_same sp).trans (tp_ext xp))
        have hva := hv9.mono ((tp_same sp).trans (tp_ext xp))
        have gsa := xp _ _ (sp _ _ gs9) fun _ z => nomatch z
        refine g_name (by tm_at "at") ?_
        refine b_cut (fun σ1 H' => σ1 = [some (.ref a), some (.ref ln), some (.ref lr), some (.ref ls), some (kvO key), some (.ref lt), some (.bl (hit r key j).isSome), w7, none, some x] ∧ H' = H_) ?_ ?_
        · tm_at "go"
          refine ifd (fun c1 => ?_) (fun c1 => ?_)
          · tm_at "go"
            refine ⟨?_, rfl⟩
            cases key with
            | none => rw [show hit r none j = some j from if_pos c1]; rfl
            | some m => rw [show hit r (some m) j = none from if_neg (by omega)]; rfl
          · tm_at "go"
            cases key with
            | none =>
              refine ifnF rfl ?_
              refine ⟨?_, rfl⟩
              rw [show hit r none j = none from if_neg c1]; rfl
            | some m =>
              refine ifnT (fun z => nomatch z) ?_
              tm_at "go"
              refine ifd (fun c2 => ?_) (fun c2 => ?_)
              · tm_at "go"
                refine ⟨?_, rfl⟩
                by_cases c3 : m < ((r.2.1 : Nat) : Int)
                · rw [show hit r (some m) j = some (j + m) from if_pos ⟨c2, c3⟩, decide_eq_true c3]; rfl
                · rw [show hit r (some m) j = none from if_neg fun z => c3 z.2, decide_eq_false c3]; rfl
              · refine ⟨?_, rfl⟩
                rw [show hit r (some m) j = none from if_neg fun z => c2 z.1]; rfl
        rintro _ Hq ⟨rfl, eq⟩
        rw [eq]
        clear eq Hq
        refine b_cut (fun σ1 H' => ∃ vd, σ1 = [some (.ref a), some (.ref ln), some (.ref lr), some (.ref ls), some (kvO key), some (.ref lt), some (.bl (hit r key j).isSome), some vd, none, some x] ∧ Same H_ H' ∧ Dt M.K H' vd (dueD r (hit r key j))) ?_ ?_
        · tm_at "go"
          refine t_val ?_
          tm_at "go"
          cases hh : hit r key j with
          | some m =>
            refine ift ?_
            refine e_tupD (a_cons (e_str (a_cons (e_bin (e_dgetK ?_)))))
            tm_at "go"
            refine ⟨ls, _, Sum.inr r.1, _, rfl, gsa, rfl, hsp, ?_⟩
            tm_at "go"
            cases key with
            | none =>
              have h1 : (if (r.2.1 : Int) = 0 then some j else none) = some m := hh
              split at h1
              · obtain rfl : j = m := Option.some.inj h1
                refine ifT rfl ?_
                tm_at "go"
                refine tupend (ds := [.str "told", .int j]) (.cons (.str _) (.cons (by rw [Int.add_zero]; exact .int _) .nil)) (Nat.le_of_ble_eq_true rfl) fun vd H4 s4 h4 => ?_
                exact ⟨_, rfl, s4, h4⟩
              · exact nomatch h1
            | some m' =>
              have h1 : (if 0 ≤ m' ∧ m' < (r.2.1 : Int) then some (j + m') else none) = some m := hh
              split at h1
              · obtain rfl : j + m' = m := Option.some.inj h1
                refine ifF (fun z => nomatch z) ?_
                tm_at "go"
                refine tupend (ds := [.str "told", .int (j + m')]) (.cons (.str _) (.cons (.int _) .nil)) (Nat.le_of_ble_eq_true rfl) fun vd H4 s4 h4 => ?_
                exact ⟨_, rfl, s4, h4⟩
              · exact nomatch h1
          | none =>
            refine if_false_of rfl ?_
            refine e_tupD ?_
            tm_at "go"
            refine tupend (ds := [.str "cell", .str r.1]) (by tm_at "dts") (Nat.le_of_ble_eq_true rfl) fun vd H4 s4 h4 => ?_
            exact ⟨_, rfl, s4, h4⟩
        rintro _ Hd ⟨vd, rfl, sd, hd⟩
        obtain ⟨pd, rfl⟩ := due_ref hd
        have hTd := hTa.ext sd
        tm_at "go"
        refine e_callB (id := "repr") rp (by decide +kernel) ?_
        refine a_cons ?_
        refine e_heard (c := ⟨M, N__law_spots_right, defScope s__law_spots_right, 6, true, true, some (("_law_spots_right" : Str) ++ ".<locals>.", cd)⟩) Fh hc b.isinst hm kp rfl TB hTd (lam_kwP (n := 2) (ks := ["key"]) (gV := fun vs zs => vs ++ zs) dx bx2 (fun vs zs us ws r1 r2 _ _ => r1.append r2) rfl (by decide)) (fun H1 x1 hT1 => ?_)
        have hx1 := hxa.mono ((tp_same sd).trans (tp_ext x1))
        have hv1 := hva.mono ((tp_same sd).trans (tp_ext x1))
        have hd1 := hd.mono (tp_ext x1)
        have DS := due_shw S hmem (o := hit r key j) (fun m e => by
          have := fIdx_in ((hfx key).trans e)
          omega)
        have hky : Dt M.K H1 (kvO key) (optD key) := by
          cases key with
          | none => exact .non
          | some m => exact .int m
        show RA _ _ _ _ _
        tm_at "go"
        refine k_cons ?_
        tm_at "go"
        refine k_nil ⟨rfl, rfl, rs, r.1, key, .cons hv1 (.cons (.str _) (.cons hky .nil)), fun m hm1 H3 s3 => ⟨(Nat.le_of_ble_eq_true rfl), fun q hq => ?_⟩, fun hno dd H3 s3 hdd => ⟨dd, r.1, rfl, rfl, hdd, fun H4 q s4 hq => ?_⟩⟩
        · rw [hfx key] at hm1
          rw [hm1] at DS hd1
          have s4 := same_new (o := .tup [.str "told", .int m]) hq
          refine a_nil ?_
          refine rc_reprX (d := dueD r (some m)) (Dt.tup (.of upd_same) (.cons (.str _) (.cons (.int _) .nil))).dp DS fun t1 et1 => ?_
          refine e_callB (id := "repr") rp (by decide +kernel) ?_
          tm_at "go"
          refine rc_reprX (hd1.mono (tp_same (s3.trans s4))).dp DS fun t2 et2 => ?_
          obtain rfl : t1 = t2 := et1.trans et2.symm
          refine ro_ne rfl ?_
          rw [decide_eq_true rfl]
          tm_at "go"
          refine ⟨_, _, _, rfl, xp.trans ((ExtN.of sd).trans (x1.trans (.of (s3.trans s4)))), hT1.ext (s3.trans s4)⟩
        · rw [hfx key] at hno
          rw [hno] at DS hd1
          refine a_nil ?_
          refine rc_reprX (d := dueD r none) (Dt.tup (.of hq) (.cons (.str _) (.cons (.str _) .nil))).dp DS fun t1 et1 => ?_
          refine e_callB (id := "repr") rp (by decide +kernel) ?_
          tm_at "go"
          refine rc_reprX (hd1.mono (tp_same (s3.trans s4))).dp DS fun t2 et2 => ?_
          obtain rfl : t1 = t2 := et1.trans et2.symm
          refine ro_ne rfl ?_
          rw [decide_eq_true rfl]
          tm_at "go"
          refine ⟨_, _, _, rfl, xp.trans ((ExtN.of sd).trans (x1.trans (.of (s3.trans s4)))), hT1.ext (s3.trans s4)⟩
      · rintro σ' H' ⟨w4, w6, w7, rfl, xp, hTb⟩
        exact ⟨_, _, _, _, rfl, x8.trans ((ExtN.of sp).trans xp), hTb⟩
    · rintro σ' H' ⟨w4, w6, w7, w9, rfl, x8, hT9⟩
      exact ⟨_, _, _, _, rfl, x8, hT9⟩
  rintro _ H9 ⟨w4, w6, w7, w9, rfl, x9, hT9⟩
  have hv9 := hv8.mono (tp_ext x9)
  refine b_cut (fun σ1 H' => ExtN H8 H' ∧ Tabs [(P, sq)] H') ?_ ?_
  · refine s_forT ?_
    refine e_tup ?_
    tm_at "go"
    refine ⟨(Nat.le_of_ble_eq_true rfl), fun p hp => ?_⟩
    have sp := same_new (o := .tup [V.str "none", .str "xx"]) hp
    have hTp := hT9.ext sp
    have gp : (upd H9 p (HO.tup [V.str "none", .str "xx"])) p = some (.tup [V.str "none", .str "xx"]) := upd_same
    generalize upd H9 p (HO.tup [V.str "none", .str "xx"]) = Hp' at sp hTp gp ⊢
    refine ⟨p, _, rfl, .of gp, fun j' σ1 H' => ∃ w5 w8, σ1 = [some (.ref a), some (.ref ln), some (.ref lr), some (.ref ls), w4, w5, w6, w7, w8, w9] ∧ ExtN Hp' H' ∧ Tabs [(P, sq)] H', ⟨_, _, rfl, ExtN.refl _, hTp⟩, ?_, ?_, ?_⟩
    · rintro j' σ' H' _ ⟨w5, w8, rfl, xp, _⟩
      exact (tp_ext xp).sqt (.of gp)
    · rintro j' y σ' Ha hy ⟨w5, w8, rfl, xp, hTa⟩
      obtain ⟨nm, rfl, hnm⟩ : ∃ nm : Str, y = .str nm ∧ (nm = "none" ∨ nm = "xx") := by
        have hm := List.mem_of_getElem? hy
        simp only [List.mem_cons, List.not_mem_nil, or_false] at hm
        rcases hm with rfl | rfl
        · exact ⟨_, rfl, .inl rfl⟩
        · exact ⟨_, rfl, .inr rfl⟩
      have hva := hv9.mono ((tp_same sp).trans (tp_ext xp))
      have hno : ∀ key, fIdx rs nm key 0 = none := fun key => fIdx_no (fun r hr e => by
        have h := S.no r hr
        rcases hnm with rfl | rfl
        · exact h.1 e
        · exact h.2 e)
      have D1 : Shw 1 900 (.tuple [.str "cell", .str nm]) := (sw_tup (m := 0) (n := 400) (k := 2) (fun d hd => by
        rcases List.mem_cons.mp hd with rfl | hd
        · exact sw_str (by decide +kernel)
        · rw [List.mem_singleton.mp hd]
          rcases hnm with rfl | rfl
          · exact sw_str (by decide +kernel)
          · exact sw_str (by decide +kernel)) (Nat.le_of_ble_eq_true rfl)).up (Nat.le_refl _) (by decide)
      have D2 : Shw 60 1000000 (.list [.tuple [.str "cell", .str nm], .tuple [.str "cell", .str nm]]) := (sw_lst (m := 1) (n := 900) (k := 2) (fun d hd => by
        rcases List.mem_cons.mp hd with rfl | hd
        · exact D1
        · rw [List.mem_singleton.mp hd]; exact D1) (Nat.le_of_ble_eq_true rfl)).up (by decide) (by decide)
      refine g_name (by tm_at "at") ?_
      refine b_cons (s_set (by tm_at "at") (e_lstD (a_cons ?_)))
      refine e_heard (c := ⟨M, N__law_spots_right, defScope s__law_spots_right, 6, true, true, some (("_law_spots_right" : Str) ++ ".<locals>.", cd)⟩) Fh hc b.isinst hm kp rfl TB hTa (lam_kwP (n := 2) (ks := []) (gV := fun vs _ => vs ++ [.non]) dx bx0 (fun vs zs us ws r1 r2 _ _ => r1.append (.cons (show L2.RelV V.non Value.none from rfl) .nil)) rfl (by decide)) (fun H1 x1 hT1 => ?_)
      have hv1 := hva.mono (tp_ext x1)
      show RA _ _ _ _ _
      tm_at "go"
      refine k_nil ⟨rfl, rfl, rs, nm, none, .cons hv1 (.cons (.str _) (.cons .non .nil)), fun m hm1 => (by rw [hno none] at hm1; exact nomatch hm1), fun _ dd H3 s3 hdd => ⟨dd, nm, rfl, rfl, hdd, fun H4 q s4 hq => ?_⟩⟩
      refine a_nil ⟨(Nat.le_of_ble_eq_true rfl), fun lt2 H5 s5 n5 g5 => ?_⟩
      have x5 := x1.trans (.of (s3.trans (s4.trans s5)))
      have hT5 := hT1.ext (s3.trans (s4.trans s5))
      refine b_cons (s_expr (e_app ?_))
      tm_at "go"
      refine ⟨lt2, _, rfl, g5, ?_⟩
      refine e_heard (c := ⟨M, N__law_spots_right, defScope s__law_spots_right, 6, true, true, some (("_law_spots_right" : Str) ++ ".<locals>.", cd)⟩) Fh hc b.isinst hm kp rfl TB hT5 (lam_kw (ks := ["name", "key", "cells"]) (gV := rot1) dx bx3 (fun zs ws r1 h => ?_) rfl (by decide)) (fun H6 x6 hT6 => ?_)
      · match zs, ws, r1, h with
        | [_, _, _], [_, _, _], .cons h1 (.cons h2 (.cons h3 .nil)), _ => exact .cons h3 (.cons h1 (.cons h2 .nil))
      show RPK _ _ _ _ _
      refine k_cons ?_
      tm_at "go"
      refine k_cons ?_
      tm_at "go"
      refine k_cons ?_
      tm_at "go"
      have hv6 := hva.mono (tp_ext (x5.trans x6))
      refine k_nil ⟨rfl, rs, nm, some 0, .cons hv6 (.cons (.str _) (.cons (.int _) .nil)), fun m hm1 => (by rw [hno (some 0)] at hm1; exact nomatch hm1), fun _ dd2 H7 s7 hdd2 => ⟨dd2, nm, rfl, rfl, hdd2, fun H8' q2 s8' hq2 => ?_⟩⟩
      have s68 := s7.trans s8'
      have g8 := s68 _ _ (x6 _ _ g5 fun _ z => nomatch z)
      refine ⟨_, g8, (Nat.le_of_ble_eq_true rfl), ?_⟩
      have k8 := kp_upd (o' := .lst ([V.ref q] ++ [V.ref q2])) g8 (fun _ e => nomatch e) (fun _ _ e => nomatch e)
      have dq : Dt M.K (upd H8' lt2 (.lst ([V.ref q] ++ [V.ref q2]))) (.ref q) (.tuple [.str "cell", .str nm]) := (Dt.tup (.of hq) (.cons (.str _) (.cons (.str _) .nil))).mono ((tp_same s5).trans ((tp_ext x6).trans ((tp_same s68).trans k8.t)))
      have dq2 : Dt M.K (upd H8' lt2 (.lst ([V.ref q] ++ [V.ref q2]))) (.ref q2) (.tuple [.str "cell", .str nm]) := (Dt.tup (.of hq2) (.cons (.str _) (.cons (.str _) .nil))).mono k8.t
      have gl : (upd H8' lt2 (HO.lst ([V.ref q] ++ [V.ref q2]))) lt2 = some (.lst ([V.ref q] ++ [V.ref q2])) := upd_same
      have xl : ExtN Hp' (upd H8' lt2 (.lst ([V.ref q] ++ [V.ref q2]))) := fun z o h n => by
        have h4 := (xp.trans (x1.trans (.of (s3.trans s4)))) z o h n
        rw [upd_ne (fun e => by rw [e, n5] at h4; cases h4)]
        exact (xp.trans (x5.trans (x6.trans (.of s68)))) z o h n
      have hTl : Tabs [(P, sq)] (upd H8' lt2 (.lst ([V.ref q] ++ [V.ref q2]))) := tabs_upd (hT6.ext s68) g8
      generalize upd H8' lt2 (HO.lst ([V.ref q] ++ [V.ref q2])) = Hl at dq dq2 gl xl hTl ⊢
      clear k8
      tm_at "go"
      refine e_callB (id := "repr") rp (by decide +kernel) ?_
      tm_at "go"
      refine rc_reprX (d := .list [.tuple [.str "cell", .str nm], .tuple [.str "cell", .str nm]]) (.lst (.of gl) (DtAll.dp (.cons dq (.cons dq2 .nil)))) D2 fun t1 et1 => ?_
      refine e_callB (id := "repr") rp (by decide +kernel) ?_
      refine a_cons ?_
      tm_at "go"
      refine e_lstD ?_
      refine a_cons (e_tupD ?_)
      tm_at "go"
      refine tupend (ds := [.str "cell", .str nm]) (by tm_at "dts") (Nat.le_of_ble_eq_true rfl) fun w1 Hm sm hm1 => ?_
      refine a_nil ⟨(Nat.le_of_ble_eq_true rfl), fun lm Hn sn nn gn => ?_⟩
      tm_at "go"
      refine ro_rep gn (by decide) (Nat.le_of_ble_eq_true rfl) fun lo Ho so no go_ => ?_
      refine a_nil ?_
      have hmo := hm1.mono (tp_same (sn.trans so))
      refine rc_reprX (d := .list [.tuple [.str "cell", .str nm], .tuple [.str "cell", .str nm]]) (.lst (.of go_) (DtAll.dp (.cons hmo (.cons hmo .nil)))) D2 fun t2 et2 => ?_
      obtain rfl : t1 = t2 := et1.trans et2.symm
      refine ro_ne rfl ?_
      rw [decide_eq_true rfl]
      tm_at "go"
      exact ⟨_, _, rfl, xl.trans (.of (sm.trans (sn.trans so))), hTl.ext (sm.trans (sn.trans so))⟩
    · rintro σ' H' ⟨w5, w8, rfl, xp, hTb⟩
      exact ⟨x9.trans ((ExtN.of sp).trans xp), hTb⟩
  rintro σ' H' ⟨xe, hTe⟩
  tm_at "go"
  exact k H' (e8.trans xe) hTe
end K

namespace K
open PySem PySem.Spec PyProof.Rows L2 G
variable {M : Md}
/-! ### the formulas that are tried -/
def thr (r : Row) : Ex := .at r.1 (.int ((r.2.1 : Int) - 1))
def exP (r : Row) : List Ex := [.nm r.1, .kk "div" (.un "neg" (.nm r.1)) 3, .kk "mod" (.bin "-" (.nm r.1) (.int 5)) 3, .bin "=" (.nm r.1) (.nm r.1)]
def exT (r : Row) : List Ex := [thr r, .at r.1 (.int r.2.1), .at r.1 (.int (-1)), .bin "+" (thr r) (.at r.1 (.int (-1))), .bin "and" (.int 0) (.at r.1 (.int 9)), .bin "or" (thr r) (.at r.1 (.int 9)), .at r.1 (.at r.1 (.int 0)), .ite (thr r) (thr r) (.at r.1 (.int 9)), .bin "least" (.at r.1 (.int 0)) (thr r)]
theorem exP_fit {rs : List Row} {r : Row} (hr : r ∈ rs) (h : (r.2.1 : Int) = 0) : ∀ e ∈ exP r, Fit rs e ∧ e.dep ≤ 4 := by
  have f1 : Fit rs (.nm r.1) := ⟨r, hr, rfl, by omega⟩
  have f5 : Fit rs (.int 5) := (by decide : (-1000000 : Int) ≤ 5 ∧ (5 : Int) ≤ 1000000)
  intro e he
  simp only [exP, List.mem_cons, List.not_mem_nil, or_false] at he
  rcases he with rfl | rfl | rfl | rfl
  · exact ⟨f1, Nat.zero_le _⟩
  · exact ⟨⟨by decide +kernel, ⟨by decide +kernel, f1⟩, by decide⟩, (by decide : 2 ≤ 4)⟩
  · exact ⟨⟨by decide +kernel, ⟨by decide +kernel, f1, f5⟩, by decide⟩, (by decide : 2 ≤ 4)⟩
  · exact ⟨⟨by decide +kernel, f1, f1⟩, (by decide : 1 ≤ 4)⟩
theorem exT_fit {rs : List Row} {r : Row} (hr : r ∈ rs) (h : ¬ (r.2.1 : Int) = 0) (h10 : r.2.1 ≤ 10) : ∀ e ∈ exT r, Fit rs e ∧ e.dep ≤ 4 := by
  have fa : ∀ e, Fit rs e → Fit rs (.at r.1 e) := fun e f => ⟨⟨r, hr, rfl, by omega⟩, f⟩
  have fi : ∀ i : Int, -1000000 ≤ i ∧ i ≤ 1000000 → Fit rs (.int i) := fun i h => h
  have ft : Fit rs (thr r) := fa _ (fi _ (by omega))
  have f9 := fa _ (fi 9 (by decide))
  have f0 := fa _ (fi 0 (by decide))
  have fm := fa _ (fi (-1) (by decide))
  intro e he
  simp only [exT, List.mem_cons, List.not_mem_nil, or_false] at he
  rcases he with rfl | rfl | rfl | rfl | rfl | rfl | rfl | rfl | rfl
  · exact ⟨ft, (by decide : 1 ≤ 4)⟩
  · exact ⟨fa _ (fi _ (by omega)), (by decide : 1 ≤ 4)⟩
  · exact ⟨fm, (by decide : 1 ≤ 4)⟩
  · exact ⟨⟨by decide +kernel, ft, fm⟩, (by decide : 2 ≤ 4)⟩
  · exact ⟨⟨by decide +kernel, fi 0 (by decide), f9⟩, (by decide : 2 ≤ 4)⟩
  · exact ⟨⟨by decide +kernel, ft, f9⟩, (by decide : 2 ≤ 4)⟩
  · exact ⟨fa _ f0, (by decide : 2 ≤ 4)⟩
  · exact ⟨⟨ft, ft, f9⟩, (by decide : 2 ≤ 4)⟩
  · exact ⟨⟨by decide +kernel, f0, ft⟩, (by decide : 2 ≤ 4)⟩
structure Fs (rs : List Row) (es : List Ex) (n : Nat) : Prop where
  fit : ∀ e ∈ es, Fit rs e ∧ e.dep ≤ 4
  few : es.length ≤ n
theorem Fs.app {rs : List Row} {es fs : List Ex} {n m : Nat} (a : Fs rs es n) (h : ∀ e ∈ fs, Fit rs e ∧ e.dep ≤ 4) (hl : fs.length ≤ m) : Fs rs (es ++ fs) (n + m) := ⟨fun e he => (List.mem_append.mp he).elim (a.fit e) (h e), by rw [List.length_append]; exact Nat.add_le_add a.few hl⟩
theorem ext_step {fp cl l : Addr} {H H2 H5 : Hp} {us vs : List V} {es fs : List Ex} (k2 : Kp fp H H2) (f2 : Feed M.K H2 fp cl) (nl : H l = none) (nlf : l ≠ fp) (nlc : l ≠ cl) (g2 : H2 l = some (.lst us)) (h2 : DtAll M.K H2 us (es.map Ex.d)) (s : Same H2 H5) (hv : DtAll M.K H5 vs (fs.map Ex.d)) :
    Kp fp H (upd H5 l (.lst (us ++ vs))) ∧ Feed M.K (upd H5 l (.lst (us ++ vs))) fp cl ∧ (upd H5 l (HO.lst (us ++ vs))) l = some (.lst (us ++ vs)) ∧ DtAll M.K (upd H5 l (.lst (us ++ vs))) (us ++ vs) ((es ++ fs).map Ex.d) ∧ Tp H5 (upd H5 l (.lst (us ++ vs))) := by
  have ku := kp_upd (o' := .lst (us ++ vs)) (s _ _ g2) (fun _ e => nomatch e) (fun _ _ e => nomatch e)
  refine ⟨kp_mut (k2.trans (kp_same s)) nl, (f2.same s).upd nlf nlc, upd_same, ?_, ku.t⟩
  rw [List.map_append]
  exact (h2.mono ((tp_same s).trans ku.t)).app (hv.mono ku.t)
def spFs (K : PySem.W.Frag) : Sp := fun vs H Q _ => ∃ (fp cl : Addr) (v : V) (rs : List Row), vs = [.ref fp, v] ∧ Feed K H fp cl ∧ Dt K H v (cellsD rs) ∧ RowsIn rs ∧ (∀ r ∈ rs, r.2.1 ≤ 10) ∧
  ∀ l us es H', Kp fp H H' → Feed K H' fp cl → H l = none → H' l = some (.lst us) → DtAll K H' us (es.map Ex.d) → Fs rs es 100 → Q (.ref l) H'
set_option maxHeartbeats 2000000 in
theorem ok_fs {f fd} (F : Fun M.K "_law_formulas" "_law_formulas" s__law_formulas f fd) (b : Bl M) (df : dcForm M 4) : FnG M.prog M.w M.K M.mg M.base CX0 9 f fd ["_law_feed_here", "_law_rows_here"] (spFs M.K) := by
  refine fn_ok F sc__law_formulas (fun vs H Q E h => ?_) (fun H vs Q E h => ?_)
  · obtain ⟨fp, cl, v, rs, rfl, _⟩ := h
    rfl
  obtain ⟨fp, cl, v, rs, rfl, hf, hv, ri, sz, k⟩ := h
  obtain ⟨a, xs, rfl, hxs, hrs⟩ := hv.tupE
  have hle := hrs.len
  rw [List.length_map] at hle
  have few := ri.len
  refine b_cut (fun σ1 H' => ∃ l us es, σ1 = [some (.ref fp), some (.ref a), some (.ref l), none, none, none] ∧ Kp fp H H' ∧ Feed M.K H' fp cl ∧ H l = none ∧ H' l = some (.lst us) ∧ DtAll M.K H' us (es.map Ex.d) ∧ Fs rs es 8) ?_ ?_
  · refine s_setLc (own := [("_law_k", 5)]) (by tm_at "at") (Blk.of (N := N__law_formulas) (sc := defScope s__law_formulas) rfl rfl (by decide +kernel)) ?_
    refine lc_R1 b.range ?_
    tm_at "go"
    refine ⟨by decide, fun D hD => ?_⟩
    have nD : D ≠ fp := ne_feed hf (Same.refl _) hD
    have nDc : D ≠ cl := ne_cl hf (Same.refl _) hD
    refine ⟨fun j acc H' => ∃ es : List Ex, acc.length ≤ j ∧ es.length = j ∧ Kp fp H H' ∧ Feed M.K H' fp cl ∧ H' D = some (.lst acc) ∧ DtAll M.K H' acc (es.map Ex.d) ∧ ∀ e ∈ es, Fit rs e ∧ e.dep ≤ 4, ?_, ?_, ?_, ?_⟩
    · exact ⟨[], Nat.le_refl _, rfl, kp_mut (Kp.refl _ _) hD, hf.upd nD nDc, upd_same, .nil, fun _ h => nomatch h⟩
    · rintro j acc H' ⟨es, h, _⟩
      exact h
    · rintro j acc H6 hj ⟨es, hl6, hle6, k6, f6, g6, h6, he6⟩
      refine g_name (by tm_at "at") ⟨rfl, ts_nil (ift ?_)⟩
      refine e_callD df ?_
      tm_at "go"
      refine ro_mod (by decide) ?_
      tm_at "go"
      have hj4 : 0 ≤ (j : Int) % 4 ∧ (j : Int) % 4 < 4 := ⟨Int.emod_nonneg _ (by decide), Int.emod_lt_of_pos _ (by decide)⟩
      refine ⟨fp, cl, _, _, rfl, f6, .cons (hv.mono k6.t) (.cons (.int _) .nil), ⟨rs, _, rfl, ri, by omega⟩, ?_⟩
      rintro d v7 H7 ⟨rs', deep, e, e2, rfl, fit, dep⟩ k7 f7 hv7
      obtain rfl : rs = rs' := cellsD_inj (List.cons.inj e2).1
      have ed := PyData.int.inj (List.cons.inj (List.cons.inj e2).2).1
      have g7 := k7.k _ _ nD g6
      have ku := kp_upd (o' := .lst (acc ++ [v7])) g7 (fun _ e => nomatch e) (fun _ _ e => nomatch e)
      refine ⟨g7, es ++ [e], ?_, ?_, kp_mut (k6.trans k7) hD, f7.upd nD nDc, upd_same, ?_, ?_⟩
      · rw [List.length_append]; exact Nat.succ_le_succ hl6
      · rw [List.length_append]; exact congrArg Nat.succ hle6
      · rw [List.map_append]
        exact (h6.mono (k7.t.trans ku.t)).app (.cons (hv7.mono ku.t) .nil)
      · intro e' he'
        rcases List.mem_append.mp he' with he' | he'
        · exact he6 e' he'
        · rw [List.mem_singleton.mp he']
          exact ⟨fit, by omega⟩
    · rintro acc H' ⟨es, h1, h2, h3, h4, h5, h6, h7⟩
      exact ⟨D, acc, es, rfl, h3, h4, hD, h5, h6, h7, Nat.le_of_eq h2⟩
  rintro _ H1 ⟨l, us, es, rfl, k1, f1, nl, g1, h1, F1⟩
  have nlf : l ≠ fp := fun e => by obtain ⟨_, _, _, _, z, _⟩ := hf; rw [e, z] at nl; cases nl
  have nlc : l ≠ cl := fun e => by obtain ⟨_, _, _, _, _, z, _⟩ := hf; rw [e, z] at nl; cases nl
  refine b_cut (fun σ1 H' => ∃ us es w3 w4, σ1 = [some (.ref fp), some (.ref a), some (.ref l), w3, w4, none] ∧ Kp fp H H' ∧ Feed M.K H' fp cl ∧ H' l = some (.lst us) ∧ DtAll M.K H' us (es.map Ex.d) ∧ Fs rs es 98) ?_ ?_
  · refine s_forT ?_
    tm_at "go"
    refine ⟨a, xs, rfl, k1.t.sqt hxs, fun i σ1 H' => ∃ us es w3 w4, σ1 = [some (.ref fp), some (.ref a), some (.ref l), w3, w4, none] ∧ Kp fp H H' ∧ Feed M.K H' fp cl ∧ H' l = some (.lst us) ∧ DtAll M.K H' us (es.map Ex.d) ∧ Fs rs es (8 + 9 * i), ⟨us, es, _, _, rfl, k1, f1, g1, h1, F1⟩, ?_, ?_, ?_⟩
    · rintro i σ' H' _ ⟨us, es, w3, w4, rfl, k2, _⟩
      exact k2.t.sqt hxs
    · rintro i x σ' H2 hx ⟨us, es, w3, w4, rfl, k2, f2, g2, h2, F2⟩
      obtain ⟨d, hd, hx'⟩ := hrs.getV hx
      rw [List.getElem?_map] at hd
      obtain ⟨r, hrr, rfl⟩ := Option.map_eq_some_iff.mp hd
      have hmem := List.mem_of_getElem? hrr
      have hi := (List.getElem?_eq_some_iff.mp hrr).1
      have r10 := sz r hmem
      have hx2 := hx'.mono k2.t
      have l2 := h2.len
      rw [List.length_map] at l2
      have l2' := F2.few
      refine g_name (by tm_at "at") ?_
      tm_at "go"
      refine ifd (fun c1 => ?_) (fun c1 => ?_)
      · refine b_cons (s_expr (e_ext ?_))
        tm_at "go"
        refine ⟨l, _, rfl, g2, ?_⟩
        refine e_lstD ?_
        tm_at "go"
        refine e_tupD ?_
        tm_at "go"
        refine e_tupD ?_
        tm_at "go"
        refine tupend (ds := [.str "neg", .str r.1]) (by tm_at "dts") (Nat.le_of_ble_eq_true rfl) fun w1 J1 q1 j1 => ?_
        tm_at "go"
        refine tupend (ds := [.str "div", .tuple [.str "neg", .str r.1], .int 3]) (by tm_at "dts") (Nat.le_of_ble_eq_true rfl) fun w2 J2 q2 j2 => ?_
        tm_at "go"
        refine ⟨(Nat.le_of_ble_eq_true rfl), fun p3 K3 s3 n3 gp3 => ?_⟩
        have t3 := q1.trans (q2.trans s3)
        obtain ⟨k3, f3, g3, h3, tt3⟩ := ext_step (fs := [.nm r.1, .kk "div" (.un "neg" (.nm r.1)) 3]) k2 f2 nl nlf nlc g2 h2 t3 (vs := [.str r.1, w2]) (.cons (.str _) (.cons (j2.mono (tp_same (s3))) .nil))
        refine ⟨p3, _, _, rfl, t3 _ _ g2, gp3, by simp only [List.length_append, List.length_cons, List.length_nil]; omega, ?_⟩
        have hx3 := hx2.mono ((tp_same t3).trans tt3)
        clear tt3
        generalize upd K3 l _ = H3 at k3 f3 g3 h3 hx3 ⊢
        refine b_one (s_expr (e_ext ?_))
        tm_at "go"
        refine ⟨l, _, rfl, g3, ?_⟩
        refine e_lstD ?_
        tm_at "go"
        refine e_tupD ?_
        tm_at "go"
        refine e_tupD ?_
        tm_at "go"
        refine tupend (ds := [.str "-", .str r.1, .int 5]) (by tm_at "dts") (Nat.le_of_ble_eq_true rfl) fun w3 J3 q3 j3 => ?_
        tm_at "go"
        refine tupend (ds := [.str "mod", .tuple [.str "-", .str r.1, .int 5], .int 3]) (by tm_at "dts") (Nat.le_of_ble_eq_true rfl) fun w4 J4 q4 j4 => ?_
        tm_at "go"
        refine e_tupD ?_
        tm_at "go"
        refine tupend (ds := [.str "=", .str r.1, .str r.1]) (by tm_at "dts") (Nat.le_of_ble_eq_true rfl) fun w5 J5 q5 j5 => ?_
        tm_at "go"
        refine ⟨(Nat.le_of_ble_eq_true rfl), fun p4 K4 s4 n4 gp4 => ?_⟩
        have t4 := q3.trans (q4.trans (q5.trans s4))
        obtain ⟨k4, f4, g4, h4, tt4⟩ := ext_step (fs := [.kk "mod" (.bin "-" (.nm r.1) (.int 5)) 3, .bin "=" (.nm r.1) (.nm r.1)]) k3 f3 nl nlf nlc g3 h3 t4 (vs := [w4, w5]) (.cons (j4.mono (tp_same (q5.trans s4))) (.cons (j5.mono (tp_same (s4))) .nil))
        refine ⟨p4, _, _, rfl, t4 _ _ g3, gp4, by simp only [List.length_append, List.length_cons, List.length_nil]; omega, ?_⟩
        have hx4 := hx3.mono ((tp_same t4).trans tt4)
        clear tt4
        generalize upd K4 l _ = H4 at k4 f4 g4 h4 hx4 ⊢
        refine ⟨_, es ++ exP r, _, _, rfl, k4, f4, g4, ?_, by have h := F2.app (m := 9) (exP_fit hmem c1) (by show 4 ≤ 9; decide); exact ⟨h.fit, by have := h.few; omega⟩⟩
        rw [show es ++ exP r = (es ++ [.nm r.1, .kk "div" (.un "neg" (.nm r.1)) 3]) ++ [.kk "mod" (.bin "-" (.nm r.1) (.int 5)) 3, .bin "=" (.nm r.1) (.nm r.1)] from by simp [exP]]
        exact h4
      · refine b_cons (s_set (by tm_at "at") (e_tupD ?_))
        tm_at "go"
        refine tupend (ds := [.str "at", .str r.1, .int ((r.2.1 : Int) - 1)]) (by tm_at "dts") (Nat.le_of_ble_eq_true rfl) fun vth H2b s2b hth2 => ?_
        have hth2 : Dt M.K H2b vth (thr r).d := hth2
        have k2 := k2.trans (kp_same s2b)
        have f2 := f2.same s2b
        have g2 := s2b _ _ g2
        have h2 := h2.mono (tp_same s2b)
        have hx2 := hx2.mono (tp_same s2b)
        refine b_cons (s_expr (e_ext ?_))
        tm_at "go"
        refine ⟨l, _, rfl, g2, ?_⟩
        refine e_lstD ?_
        tm_at "go"
        refine e_tupD ?_
        tm_at "go"
        refine tupend (ds := [.str "at", .str r.1, .int r.2.1]) (by tm_at "dts") (Nat.le_of_ble_eq_true rfl) fun w21 J21 q21 j21 => ?_
        tm_at "go"
        refine e_tupD ?_
        tm_at "go"
        refine tupend (ds := [.str "at", .str r.1, .int (-1)]) (by tm_at "dts") (Nat.le_of_ble_eq_true rfl) fun w22 J22 q22 j22 => ?_
        tm_at "go"
        refine e_tupD ?_
        tm_at "go"
        refine e_tupD ?_
        tm_at "go"
        refine tupend (ds := [.str "at", .str r.1, .int (-1)]) (by tm_at "dts") (Nat.le_of_ble_eq_true rfl) fun w23 J23 q23 j23 => ?_
        tm_at "go"
        refine tupend (ds := [.str "+", (thr r).d, .tuple [.str "at", .str r.1, .int (-1)]]) (by tm_at "dts") (Nat.le_of_ble_eq_true rfl) fun w24 J24 q24 j24 => ?_
        tm_at "go"
        refine ⟨(Nat.le_of_ble_eq_true rfl), fun p3 K3 s3 n3 gp3 => ?_⟩
        have t3 := q21.trans (q22.trans (q23.trans (q24.trans s3)))
        obtain ⟨k3, f3, g3, h3, tt3⟩ := ext_step (fs := [thr r, .at r.1 (.int r.2.1), .at r.1 (.int (-1)), .bin "+" (thr r) (.at r.1 (.int (-1)))]) k2 f2 nl nlf nlc g2 h2 t3 (vs := [vth, w21, w22, w24]) (.cons (hth2.mono (tp_same t3)) (.cons (j21.mono (tp_same (q22.trans (q23.trans (q24.trans s3))))) (.cons (j22.mono (tp_same (q23.trans (q24.trans s3)))) (.cons (j24.mono (tp_same (s3))) .nil))))
        refine ⟨p3, _, _, rfl, t3 _ _ g2, gp3, by simp only [List.length_append, List.length_cons, List.length_nil]; omega, ?_⟩
        have hx3 := hx2.mono ((tp_same t3).trans tt3)
        have hth3 := hth2.mono ((tp_same t3).trans tt3)
        clear tt3
        generalize upd K3 l _ = H3 at k3 f3 g3 h3 hx3 hth3 ⊢
        refine b_cons (s_expr (e_ext ?_))
        tm_at "go"
        refine ⟨l, _, rfl, g3, ?_⟩
        refine e_lstD ?_
        tm_at "go"
        refine e_tupD ?_
        tm_at "go"
        refine e_tupD ?_
        tm_at "go"
        refine tupend (ds := [.str "at", .str r.1, .int 9]) (by tm_at "dts") (Nat.le_of_ble_eq_true rfl) fun w25 J25 q25 j25 => ?_
        tm_at "go"
        refine tupend (ds := [.str "and", .int 0, .tuple [.str "at", .str r.1, .int 9]]) (by tm_at "dts") (Nat.le_of_ble_eq_true rfl) fun w26 J26 q26 j26 => ?_
        tm_at "go"
        refine e_tupD ?_
        tm_at "go"
        refine e_tupD ?_
        tm_at "go"
        refine tupend (ds := [.str "at", .str r.1, .int 9]) (by tm_at "dts") (Nat.le_of_ble_eq_true rfl) fun w27 J27 q27 j27 => ?_
        tm_at "go"
        refine tupend (ds := [.str "or", (thr r).d, .tuple [.str "at", .str r.1, .int 9]]) (by tm_at "dts") (Nat.le_of_ble_eq_true rfl) fun w28 J28 q28 j28 => ?_
        tm_at "go"
        refine ⟨(Nat.le_of_ble_eq_true rfl), fun p4 K4 s4 n4 gp4 => ?_⟩
        have t4 := q25.trans (q26.trans (q27.trans (q28.trans s4)))
        obtain ⟨k4, f4, g4, h4, tt4⟩ := ext_step (fs := [.bin "and" (.int 0) (.at r.1 (.int 9)), .bin "or" (thr r) (.at r.1 (.int 9))]) k3 f3 nl nlf nlc g3 h3 t4 (vs := [w26, w28]) (.cons (j26.mono (tp_same (q27.trans (q28.trans s4)))) (.cons (j28.mono (tp_same (s4))) .nil))
        refine ⟨p4, _, _, rfl, t4 _ _ g3, gp4, by simp only [List.length_append, List.length_cons, List.length_nil]; omega, ?_⟩
        have hx4 := hx3.mono ((tp_same t4).trans tt4)
        have hth4 := hth3.mono ((tp_same t4).trans tt4)
        clear tt4
        generalize upd K4 l _ = H4 at k4 f4 g4 h4 hx4 hth4 ⊢
        refine b_cons (s_expr (e_ext ?_))
        tm_at "go"
        refine ⟨l, _, rfl, g4, ?_⟩
        refine e_lstD ?_
        tm_at "go"
        refine e_tupD ?_
        tm_at "go"
        refine e_tupD ?_
        tm_at "go"
        refine tupend (ds := [.str "at", .str r.1, .int 0]) (by tm_at "dts") (Nat.le_of_ble_eq_true rfl) fun w29 J29 q29 j29 => ?_
        tm_at "go"
        refine tupend (ds := [.str "at", .str r.1, .tuple [.str "at", .str r.1, .int 0]]) (by tm_at "dts") (Nat.le_of_ble_eq_true rfl) fun w30 J30 q30 j30 => ?_
        tm_at "go"
        refine ⟨(Nat.le_of_ble_eq_true rfl), fun p5 K5 s5 n5 gp5 => ?_⟩
        have t5 := q29.trans (q30.trans s5)
        obtain ⟨k5, f5, g5, h5, tt5⟩ := ext_step (fs := [.at r.1 (.at r.1 (.int 0))]) k4 f4 nl nlf nlc g4 h4 t5 (vs := [w30]) (.cons (j30.mono (tp_same (s5))) .nil)
        refine ⟨p5, _, _, rfl, t5 _ _ g4, gp5, by simp only [List.length_append, List.length_cons, List.length_nil]; omega, ?_⟩
        have hx5 := hx4.mono ((tp_same t5).trans tt5)
        have hth5 := hth4.mono ((tp_same t5).trans tt5)
        clear tt5
        generalize upd K5 l _ = H5 at k5 f5 g5 h5 hx5 hth5 ⊢
        refine b_one (s_expr (e_ext ?_))
        tm_at "go"
        refine ⟨l, _, rfl, g5, ?_⟩
        refine e_lstD ?_
        tm_at "go"
        refine e_tupD ?_
        tm_at "go"
        refine e_tupD ?_
        tm_at "go"
        refine tupend (ds := [.str "at", .str r.1, .int 9]) (by tm_at "dts") (Nat.le_of_ble_eq_true rfl) fun w31 J31 q31 j31 => ?_
        tm_at "go"
        refine tupend (ds := [.str "if", (thr r).d, (thr r).d, .tuple [.str "at", .str r.1, .int 9]]) (by tm_at "dts") (Nat.le_of_ble_eq_true rfl) fun w32 J32 q32 j32 => ?_
        tm_at "go"
        refine e_tupD ?_
        tm_at "go"
        refine e_tupD ?_
        tm_at "go"
        refine tupend (ds := [.str "at", .str r.1, .int 0]) (by tm_at "dts") (Nat.le_of_ble_eq_true rfl) fun w33 J33 q33 j33 => ?_
        tm_at "go"
        refine tupend (ds := [.str "least", .tuple [.str "at", .str r.1, .int 0], (thr r).d]) (by tm_at "dts") (Nat.le_of_ble_eq_true rfl) fun w34 J34 q34 j34 => ?_
        tm_at "go"
        refine ⟨(Nat.le_of_ble_eq_true rfl), fun p6 K6 s6 n6 gp6 => ?_⟩
        have t6 := q31.trans (q32.trans (q33.trans (q34.trans s6)))
        obtain ⟨k6, f6, g6, h6, tt6⟩ := ext_step (fs := [.ite (thr r) (thr r) (.at r.1 (.int 9)), .bin "least" (.at r.1 (.int 0)) (thr r)]) k5 f5 nl nlf nlc g5 h5 t6 (vs := [w32, w34]) (.cons (j32.mono (tp_same (q33.trans (q34.trans s6)))) (.cons (j34.mono (tp_same (s6))) .nil))
        refine ⟨p6, _, _, rfl, t6 _ _ g5, gp6, by simp only [List.length_append, List.length_cons, List.length_nil]; omega, ?_⟩
        have hx6 := hx5.mono ((tp_same t6).trans tt6)
        have hth6 := hth5.mono ((tp_same t6).trans tt6)
        clear tt6
        generalize upd K6 l _ = H6 at k6 f6 g6 h6 hx6 hth6 ⊢
        refine ⟨_, es ++ exT r, _, _, rfl, k6, f6, g6, ?_, by have h := F2.app (m := 9) (exT_fit hmem c1 r10) (by show 9 ≤ 9; decide); exact ⟨h.fit, by have := h.few; omega⟩⟩
        rw [show es ++ exT r = (((es ++ [thr r, .at r.1 (.int r.2.1), .at r.1 (.int (-1)), .bin "+" (thr r) (.at r.1 (.int (-1)))]) ++ [.bin "and" (.int 0) (.at r.1 (.int 9)), .bin "or" (thr r) (.at r.1 (.int 9))]) ++ [.at r.1 (.at r.1 (.int 0))]) ++ [.ite (thr r) (thr r) (.at r.1 (.int 9)), .bin "least" (.at r.1 (.int 0)) (thr r)] from by simp [exT]]
        exact h6
    · rintro σ' H' ⟨us, es, w3, w4, rfl, k2, f2, g2, h2, F2⟩
      exact ⟨us, es, w3, w4, rfl, k2, f2, g2, h2, F2.fit, by have := F2.few; omega⟩
  rintro _ H2 ⟨us, es, w3, w4, rfl, k2, f2, g2, h2, F2⟩
  tm_at "go"
  exact k l us es H2 k2 f2 nl g2 h2 ⟨F2.fit, by have := F2.few; omega⟩
end K

namespace G
open PySem PySem.Spec PyProof.Rows L2
/-! ### enumerate over a text -/
/-- the signs of z, each in a new pair behind its place -/
def Ites (z : Str) : It := ⟨fun i _ => i < z.cps.size, fun i H v H' => ∃ (T : Addr) (c : Nat), v = .ref T ∧ H T = none ∧ H' = upd H T (.tup [.int (i : Nat), .str ⟨#[c]⟩]) ∧ z.cps[i]? = some c, fun i _ => z.cps.size ≤ i⟩
section
variable {P : Program} {w : World} {K : PySem.W.Frag}
theorem turn_enumS {elts : List Expr} {kk : Nat} {tpos : Pos} (z : Str) (tz : Tok) (en si : Addr) (apart : en ≠ si) :
    Turn P w K (.Tuple elts kk tpos) (Ites z) [en, si] en (fun i h => (∃ old, IsEnum h en si ((i : Nat) : Int) old) ∧ h.IsStrIter si (strIterType z) z tz i ∧ i ≤ z.cps.size) := by
  have both : ∀ {b : Addr}, b ∈ [en, si] → b = en ∨ b = si := fun {b} h => by simpa using h
  refine { mem := by simp, obj := ?_, keep := ?_, item := ?_, done := ?_, self := ?_ }
  · rintro i h ⟨⟨old, he⟩, ⟨o, ho, _, hd⟩, _⟩ b hb
    rcases both hb with rfl | rfl
    · exact ⟨_, he, fun v q => nomatch q⟩
    · exact ⟨o, ho, fun v q => by rw [hd] at q; exact nomatch q⟩
  · rintro i h h' ⟨⟨old, he⟩, ⟨o, ho, r⟩, le⟩ kept
    exact ⟨⟨old, kept en (by simp) _ he⟩, ⟨o, kept si (by simp) _ ho, r⟩, le⟩
  · rintro X rfl rfl rfl calm i pins st σ H E I far ⟨⟨old, he⟩, hs, _⟩ go
    have D := Draws.text (prog := X.prog) (w := X.w) (A := X.A.in1) (I.ok.hd calm) si z tz
    have lt1 := Heap.lt_size he
    have lt2 : si < st.heap.objs.size := by obtain ⟨_, q, _⟩ := hs; exact Heap.lt_size q
    refine wpAny_pyNext_enum_itemD D he hs go apart (by simpa using apart) fun x h1 tk sign out hs1 pair _ stay => ?_
    obtain ⟨c, u, hc, rfl⟩ := sign
    refine ⟨_, rfl, wpAny_letOwnedTupleGo_enum (s := { st with heap := h1, toks := tk + 1 }) out fun h2 he2 but => ?_⟩
    have pair2 : h2.get? st.heap.objs.size = some { cls := .type "tuple", data := .seq #[.int i tk, .str ⟨#[c]⟩ u] } := (but.2 _ (Nat.ne_of_gt lt1)).trans pair
    have made : ObjOk X.prog X.w (upd H st.heap.objs.size (.tup [.int (i : Nat), .str ⟨#[c]⟩])) h2 st.heap.objs.size (.tup [.int (i : Nat), .str ⟨#[c]⟩]) :=
      ⟨by show 2 ≤ sizeLine; decide, _, .cons ⟨_, rfl⟩ (.cons ⟨_, rfl⟩ .nil), ⟨_, pair2, rfl, _, rfl⟩⟩
    have J : Inv X pins σ (upd H st.heap.objs.size (.tup [.int (i : Nat), .str ⟨#[c]⟩])) { st with heap := h2, toks := tk + 1 } := by
      refine I.turnedNew (ch := [en, si]) (fun b o nb q => ?_) far (Nat.le_refl _) made
      have n1 : b ≠ en := fun e => nb (by simp [e])
      have n2 : b ≠ si := fun e => nb (by simp [e])
      exact (but.2 b n1).trans (stay b o n1 n2 q)
    have hs2 : h2.IsStrIter si (strIterType z) z tz (i + 1) := by
      obtain ⟨o, ho, r⟩ := hs1
      exact ⟨o, (but.2 si apart.symm).trans ho, r⟩
    refine ⟨.ref st.heap.objs.size, _, J, rfl, ⟨_, c, rfl, I.hok.fresh (Nat.le_refl _), rfl, hc⟩, ⟨⟨Value.str ⟨#[c]⟩ u, ?_⟩, hs2, go⟩, fun b hb => ?_⟩
    · have e1 : ((i + 1 : Nat) : Int) = (i : Int) + 1 := by omega
      rw [e1]
      exact he2
    · have lb : b < st.heap.objs.size := by
        rcases both hb with rfl | rfl
        · exact lt1
        · exact lt2
      rw [upd_ne (Nat.ne_of_lt lb)]
      exact (far b hb).1
  · rintro X rfl rfl rfl calm i pins st σ H E I far ⟨⟨old, he⟩, hs, le⟩ stop
    have D := Draws.text (prog := X.prog) (w := X.w) (A := X.A.in1) (I.ok.hd calm) si z tz
    obtain ⟨f0, f1, _, f3, f4, f5⟩ := far si (by simp)
    obtain rfl : i = z.cps.size := Nat.le_antisymm le stop
    exact wpAny_pyNext_enum_endD D he hs fun h' but => ⟨rfl, I.turned (t' := st.toks) (fun b o nb q => but b o nb q) f0 f1 f3 f4 f5⟩
  · rintro A i st Q E ⟨⟨_, he⟩, _, _⟩ q
    exact wpAny_pyIter_enum he q
theorem pi_enumS {X : Cx} {e : Expr} {ta : TA} {p pos tpos : Pos} {elts : List Expr} {kk : Nat} (gl : Gl X "enumerate") (none_ : X.mg "enumerate" = none) (ha : PA X [e] ta) (hs : starEach [e] X.env = [(false, eval e X.env)]) :
    PI X (.Tuple elts kk tpos) (.Call (.Name "enumerate" p) [e] [] pos) (fun σ H R => ta σ H fun vs H1 => ∃ z, vs = [.str z] ∧ R (Ites z) H1) := by
  constructor
  intro pins st σ H R I want
  have args := ha.run pos pins st σ H _ I want
  refine Call_ (ld_blt I gl none_ boot_enumerate ?_)
  refine PyProof.Rows.callWith_type1 (thn args fun us s1 got => ?_) hs rfl
  obtain ⟨vs, H1, I1, rv, z, rfl, q⟩ := got
  match us, rv with
  | [_], .cons ⟨tz, rfl⟩ .nil =>
    refine call_enumerate_str fun h' he hsi hsz keep => wpAny_pyIter_enum he ?_
    have I2 : Inv X pins σ H1 { s1 with heap := h' } := I1.kept (t' := s1.toks) keep
    have T := turn_enumS (P := X.prog) (w := X.w) (K := X.K) (elts := elts) (kk := kk) (tpos := tpos) z tz (s1.heap.objs.size + 1) s1.heap.objs.size (Nat.succ_ne_self _)
    refine ⟨_, _, _, _, H1, rfl, I2, T, ⟨⟨.none, he⟩, hsi, Nat.zero_le _⟩, fun b hb => ?_, q⟩
    have old : s1.heap.objs.size ≤ b := by
      rcases (by simpa using hb : b = s1.heap.objs.size + 1 ∨ b = s1.heap.objs.size) with rfl | rfl
      · exact Nat.le_succ _
      · exact Nat.le_refl _
    exact I1.fpOk old (I1.hok.fresh old)
end
theorem i_enumS {c : Cd} {σ : L2.St} {H : Hp} {pos : Pos} {e : Expr} {p tpos : Pos} {elts : List Expr} {kk : Nat} {R : It → Hp → Prop} (hm : c.mg "enumerate" = none) (q : RE c e σ H fun x H1 => ∃ z, x = .str z ∧ R (Ites z) H1) (hg : c.sc.names.lookup ("enumerate" : Str) = some .globalImplicit := by rfl) (hs : ∀ env, starEach [e] env = [(false, eval e env)] := by intro _; rfl) :
    RI c (.Tuple elts kk tpos) (.Call (.Name "enumerate" p) [e] [] pos) σ H R := by
  refine ri_of (t := fun σ H R => RA c [e] σ H fun vs H1 => ∃ z, vs = [.str z] ∧ R (Ites z) H1) (fun X h => pi_enumS (gl_of h hg) (by rw [h.mg]; exact hm) (pa_ra h) (hs _)) ?_
  refine a_cons (RE.mono (fun x H1 z => a_nil ?_) q) (fun env => by rw [hs]; rfl)
  obtain ⟨z, rfl, h⟩ := z
  exact ⟨z, rfl, h⟩
theorem i_text {c : Cd} {σ : L2.St} {H : Hp} {tg e : Expr} {R : It → Hp → Prop} (q : RE c e σ H fun x H1 => ∃ z, x = .str z ∧ R (Its z) H1) : RI c tg e σ H R := ri_of (t := iStr (RE c e)) (fun X h => pi_str (pe_re h)) q
section
variable {c : Cd} {σ : L2.St} {H : Hp} {Q : VK} {pos : Pos} {elt iter : Expr} {ifs : List Expr} {scope : Scope} {vs : List Nat}
/-- a comprehension over the numbered signs of a text -/
theorem lc_ES {e : Expr} {p tpos ppos : Pos} {elts : List Expr} {kk : Nat} (hm : c.mg "enumerate" = none) (q : RE c e σ H fun x H1 => ∃ z : Str, x = .str z ∧ z.cps.size ≤ 1000 ∧ ∀ D, H1 D = none → ∃ Pv : Nat → List V → Hp → Prop, Pv 0 [] (upd H1 D (.lst [])) ∧ (∀ i acc H', Pv i acc H' → acc.length ≤ i) ∧
      (∀ (i : Nat) ch acc H' T H'', z.cps[i]? = some ch → Pv i acc H' → Same H' H'' → H'' T = some (.tup [.int (i : Nat), .str ⟨#[ch]⟩]) → Turn1 (blkCd c scope) (.Tuple elts kk tpos) ifs elt vs σ D (.ref T) H'' acc (Pv (i + 1))) ∧ ∀ acc H', Pv z.cps.size acc H' → Q (.ref D) H')
    (hg : c.sc.names.lookup ("enumerate" : Str) = some .globalImplicit := by rfl) (hs : ∀ env, starEach [e] env = [(false, eval e env)] := by intro _; rfl) :
    tLc (RI c (.Tuple elts kk tpos) (.Call (.Name "enumerate" p) [e] [] ppos)) (RG (blkCd c scope) (.Tuple elts kk tpos)) (RTs (blkCd c scope) ifs) (RE (blkCd c scope) elt) vs σ H Q := by
  refine i_enumS hm (RE.mono (fun x H1 got => ?_) q) hg hs
  obtain ⟨z, rfl, few, w⟩ := got
  refine ⟨z, rfl, fun D hD => ?_⟩
  obtain ⟨Pv, p0, pk, pt, pe⟩ := w D hD
  refine ⟨fun i m H' => m = z.cps.size - i ∧ i ≤ z.cps.size ∧ ∃ acc, Pv i acc H', ⟨z.cps.size, by simp, Nat.zero_le _, _, p0⟩, ?_⟩
  rintro i m H' ⟨rfl, hi, acc, hp⟩
  by_cases more : i < z.cps.size
  · refine .inr ⟨more, fun H' => ∃ acc, Pv (i + 1) acc H', fun H' p' => ⟨z.cps.size - (i + 1), by omega, rfl, more, p'⟩, fun x H2 got => ?_⟩
    obtain ⟨T, ch, rfl, hT, rfl, hc⟩ := got
    have la := pk i acc _ hp
    refine RG.mono (fun σ2 H2 got => ?_) (pt i ch acc H' T _ hc hp (same_new hT) upd_same)
    refine ⟨got.1, RTs.mono (fun b H3 got => ?_) got.2⟩
    cases b with
    | false => exact ⟨_, got⟩
    | true => exact RE.mono (fun y H4 got => ⟨acc, got.1, Nat.lt_of_le_of_lt la (Nat.lt_of_lt_of_le more (Nat.le_trans few (by decide))), _, got.2⟩) got
  · obtain rfl : i = z.cps.size := by omega
    exact .inl ⟨Nat.le_refl _, pe acc H' hp⟩
/-- for sign in text -/
theorem s_forX {nx : L2.St → Hp → Prop} {rt : VK} {bk ct : L2.St → Hp → Prop} {tg : Expr} {body : List Stmt} (q : RE c iter σ H fun x H1 => ∃ z : Str, x = .str z ∧ ∃ Pv : Nat → L2.St → Hp → Prop, Pv 0 σ H1 ∧
      (∀ (i : Nat) ch σ' H', z.cps[i]? = some ch → Pv i σ' H' → RG c tg (.str ⟨#[ch]⟩) σ' H' fun σ2 H2 => RB c body ⟨Pv (i + 1), rt, nx, Pv (i + 1)⟩ σ2 H2) ∧ ∀ σ' H', Pv z.cps.size σ' H' → nx σ' H')
    (hs : ∀ env x, foldedSetIterable iter env x = pure x := by intro _ _; rfl) : RS c (.For tg iter body [] pos) ⟨nx, rt, bk, ct⟩ σ H := by
  refine s_for (i_text (RE.mono (fun x H1 got => ?_) q)) hs
  obtain ⟨z, rfl, Pv, p0, step, fin⟩ := got
  refine ⟨z, rfl, fun i m σ' H' => m = z.cps.size - i ∧ i ≤ z.cps.size ∧ Pv i σ' H', ⟨_, rfl, Nat.zero_le _, p0⟩, ?_⟩
  rintro i m σ' H' ⟨rfl, hi, hp⟩
  by_cases more : i < z.cps.size
  · refine .inr ⟨more, Pv (i + 1), fun σ2 H2 p' => ⟨z.cps.size - (i + 1), by omega, rfl, more, p'⟩, fun x H2 got => ?_⟩
    obtain ⟨rfl, ch, hc, rfl⟩ := got
    exact step i ch σ' _ hc hp
  · obtain rfl : i = z.cps.size := by omega
    exact .inl ⟨Nat.le_refl _, fin σ' H' hp⟩
end
end G

namespace K
open PySem PySem.Spec PyProof.Rows L2 LamX G
variable {M : Md}
/-! ### ten cells, and a formula that is nested eight deep -/
theorem sw_big {i : Int} (h : i.natAbs < 2 ^ 400) : Shw 0 200 (.int i) := by
  have h2 : i.natAbs < 10 ^ 121 := Nat.lt_of_lt_of_le h (by decide)
  refine ⟨?_, ?_, by simp only [PyData.depth]; exact Nat.le_refl _, by simp only [PyData.hasDict]⟩
  · simp only [PyData.showable, decide_eq_true_eq]
    have h3 : i.natAbs.log2 < 400 := PySem.Flt.log2_lt_of (by decide) h
    omega
  · have e := PySem.int_text_length_le10 (k := 121) (by decide) h2
    show (Str.ofString (toString i)).length ≤ 200
    rw [PySem.ofString_length]
    omega
theorem due2_shw {rs : List Row} {st : St1} {e : Ex} {n : Nat} (hi : EvIn rs st e n) : Shw 60 1000000 (.list [optD (ev rs st e).1, looksD st (ev rs st e).2]) := by
  have hl := lenLooks8 (rs := rs) (st := st) (e := e) hi.dep hi.n8
  rw [List.length_map] at hl
  have h2 : Shw 2 60000 (looksD st (ev rs st e).2) := by
    refine (sw_tup (m := 1) (n := 33) (k := 512) (fun d hd => ?_) (by rw [List.length_map]; exact Nat.le_trans (firsts_len _) hl)).up (by decide) (by decide)
    obtain ⟨j, hj, rfl⟩ := List.mem_map.mp hd
    have hv := gt_val hi.S j
    have hj2 := ev_in hi.S e hi.fit j (firsts_mem.mp hj)
    have tot := hi.S.tot
    refine sw_tup (m := 0) (n := 13) (k := 2) (fun d hd => ?_) (Nat.le_of_ble_eq_true rfl)
    rcases List.mem_cons.mp hd with rfl | hd
    · exact sw_int (Nat.lt_of_le_of_lt (show _ ≤ 40 by omega) (by decide))
    · rw [List.mem_singleton.mp hd]
      exact sw_int (Nat.lt_of_le_of_lt (show _ ≤ 40 by omega) (by decide))
  have h1 : Shw 2 60000 (optD (ev rs st e).1) := by
    cases ho : (ev rs st e).1 with
    | none => exact sw_none.up (by decide) (by decide)
    | some v => exact (sw_big (hi.vb.own v ho)).up (by decide) (by decide)
  refine (sw_lst (m := 2) (n := 60000) (k := 2) (fun d hd => ?_) (Nat.le_of_ble_eq_true rfl)).up (by decide) (by decide)
  rcases List.mem_cons.mp hd with rfl | hd
  · exact h1
  · rw [List.mem_singleton.mp hd]; exact h2
def rt (k : Nat) (s : Str) : Row := (s, 0, (k : Int), (k : Int) + (if decide ((k : Int) < 2) = true then 1 else 0), false, false, (k : Int))
def abc : Str := "abcdefghij"
def sgn (k : Nat) : Str := ⟨#[97 + k]⟩
def rowsT : List Row := (List.range 10).map fun k => rt k (sgn k)
def dp : Nat → Ex
  | 0 => .nm (sgn 0)
  | n + 1 => .bin "+" (dp n) (.nm (sgn (n + 1)))
theorem abc_at : ∀ i < 10, abc.cps[i]? = some (97 + i) := by decide +kernel
theorem bi_at : ∀ i < 8, ("bcdefghi" : Str).cps[i]? = some (98 + i) := by decide +kernel
theorem rowsT_all : RowsAll rowsT := all_of rowsT (by decide +kernel)
theorem rowsT_sp : SpR rowsT := by
  have h : rowsT.all (fun r => decide (r.1.length ≤ 20) && decide (r.2.1 ≤ 10) && r.1.cps.toList.all (fun c => decide (c < 16 ^ 8)) && decide (r.1 ≠ "none") && decide (r.1 ≠ "xx")) = true := by decide +kernel
  simp only [List.all_eq_true, Bool.and_eq_true, decide_eq_true_eq] at h
  exact ⟨rowsT_all, fun r hr => ⟨(h r hr).1.1.1.1, (h r hr).1.1.1.2, (h r hr).1.1.2⟩, fun r hr => ⟨(h r hr).1.2, (h r hr).2⟩⟩
theorem nm_fit : ∀ k < 10, Fit rowsT (.nm (sgn k)) := by
  intro k hk
  refine ⟨rt k (sgn k), List.mem_map.mpr ⟨k, List.mem_range.mpr hk, rfl⟩, rfl, rfl⟩
theorem dp_fit : ∀ n ≤ 8, Fit rowsT (dp n) ∧ (dp n).dep ≤ n
  | 0, _ => ⟨nm_fit 0 (by decide), Nat.le_refl _⟩
  | n + 1, h => by
    obtain ⟨h1, h2⟩ := dp_fit n (by omega)
    exact ⟨⟨by decide +kernel, h1, nm_fit (n + 1) (by omega)⟩, by show max (dp n).dep 0 + 1 ≤ _; omega⟩
theorem nm_b {st : St1} (S : StOk rowsT st) (s : Str) : ∀ v, (ev rowsT st (.nm s)).1 = some v → v.natAbs ≤ 10 := fun v h => by
  unfold ev at h
  cases h
  have := gt_val S (ix rowsT s)
  omega
theorem nm_vb {st : St1} (S : StOk rowsT st) (s : Str) : Vb rowsT st (.nm s) := fun v h => Nat.lt_of_le_of_lt (nm_b S s v h) (by decide)
theorem two_b {st : St1} {op : Str} {a b : Ex} {n m : Nat} (h : op = "+" ∨ op = "-") (ha : ∀ v, (ev rowsT st a).1 = some v → v.natAbs ≤ n) (hb : ∀ v, (ev rowsT st b).1 = some v → v.natAbs ≤ m) : ∀ v, (ev rowsT st (.bin op a b)).1 = some v → v.natAbs ≤ n + m := by
  intro v hv
  have hl : isLazy op = false := by rcases h with rfl | rfl <;> decide +kernel
  unfold ev at hv
  rw [hl, if_neg (by decide)] at hv
  obtain ⟨x, h1, h2⟩ := thn1_some hv
  obtain ⟨y, h3, h4⟩ := thn1_some h2
  have b1 := ha x h1
  have b2 := hb y h3
  rcases h with rfl | rfl
  · have e : v = x + y := by
      cases h4
      rfl
    omega
  · have e : v = x - y := by
      cases h4
      rfl
    omega
theorem dp_vb {st : St1} (S : StOk rowsT st) : ∀ n ≤ 8, Vb rowsT st (dp n) ∧ ∀ v, (ev rowsT st (dp n)).1 = some v → v.natAbs ≤ 10 * (n + 1)
  | 0, _ => ⟨nm_vb S _, nm_b S _⟩
  | n + 1, hn => by
    obtain ⟨h1, h2⟩ := dp_vb S n (by omega)
    have hb := two_b (op := "+") (a := dp n) (b := .nm (sgn (n + 1))) (.inl rfl) h2 (nm_b S _)
    exact ⟨⟨fun v h => Nat.lt_of_le_of_lt (hb v h) (Nat.lt_of_le_of_lt (show 10 * (n + 1) + 10 ≤ 100 by omega) (by decide)), h1, nm_vb S _⟩, fun v h => Nat.le_trans (hb v h) (by omega)⟩
def exTen : List Ex := [dp 8, .nm (sgn 9), .bin "-" (.nm (sgn 8)) (.nm (sgn 9))]
theorem exTen_in {st : St1} (S : StOk rowsT st) : ∀ e ∈ exTen, EvIn rowsT st e 8 := by
  intro e he
  simp only [exTen, List.mem_cons, List.not_mem_nil, or_false] at he
  rcases he with rfl | rfl | rfl
  · exact ⟨S, (dp_fit 8 (Nat.le_refl _)).1, (dp_fit 8 (Nat.le_refl _)).2, Nat.le_refl _, (dp_vb S 8 (Nat.le_refl _)).1⟩
  · exact ⟨S, nm_fit 9 (by decide), Nat.zero_le _, Nat.le_refl _, nm_vb S _⟩
  · exact ⟨S, ⟨by decide +kernel, nm_fit 8 (by decide), nm_fit 9 (by decide)⟩, (by decide : 1 ≤ 8), Nat.le_refl _, fun v h => Nat.lt_of_le_of_lt (two_b (.inr rfl) (nm_b S _) (nm_b S _) v h) (by decide), nm_vb S _, nm_vb S _⟩
def spTen (P : Addr) : Sp := fun vs H Q _ => vs = [] ∧ Tabs [(P, sq)] H ∧ ∀ H', ExtN H H' → Tabs [(P, sq)] H' → Q (.bl true) H'
set_option maxHeartbeats 2000000 in
theorem ok_ten {f fd P} (F : Fun M.K "_law_ten_right" "_law_ten_right" s__law_ten_right f fd) (b : Bl M) (rp : M.mg "repr" = none) (en : M.mg "enumerate" = none) (dst : Dc M "_law_states" ["_law_rows_here"] 2 (spL rStates M.K)) (dv : dcVal M 8) (dfl : Dc M "_law_first_looks" ["_law_looks"] 1 (spFl M.K))
    (dva : Dc M "value_in" ["cells", "state", "expression"] 21 (spF (rVal 8) M.K)) (dlo : Dc M "looked_at" ["cells", "state", "expression"] 21 (spZ (rLooked 8) M.K)) (dsr : DcQ M "_law_spots_right" ["_law_rows_here"] 7 (spSR P M.K)) :
    FnQ M.prog M.w M.K M.mg M.base CX0 22 f fd [] (spTen P) := by
  refine fn_okQ F sc__law_ten_right (fun vs H Q E h => by rw [h.1]; rfl) (fun H vs Q E h => ?_)
  obtain ⟨rfl, hT, k⟩ := h
  refine b_cut (fun σ1 H' => ∃ v, σ1 = [none, some v, none, none, none, none, none, none] ∧ Same H H' ∧ Dt M.K H' v (cellsD rowsT)) ?_ ?_
  · refine s_set (by tm_at "at") ?_
    refine e_callT (T := "tuple") b.tuple (by decide +kernel) ?_
    refine a_cons ?_
    refine e_lc (own := [("_law_k", 7), ("_law_sign", 0)]) (Blk.of (N := N__law_ten_right) (sc := defScope s__law_ten_right) rfl rfl (by decide +kernel)) ?_
    refine lc_ES en ?_
    tm_at "go"
    refine ⟨by decide, fun D hD => ?_⟩
    refine ⟨fun i acc H' => i ≤ 10 ∧ acc.length = i ∧ Same H H' ∧ H' D = some (.lst acc) ∧ DtAll M.K H' acc ((rowsT.take i).map rowD), ?_, ?_, ?_, ?_⟩
    · exact ⟨Nat.zero_le _, rfl, same_new hD, upd_same, .nil⟩
    · rintro i acc H' ⟨_, h, _⟩
      exact Nat.le_of_eq h
    · rintro i ch acc H1 T H2 hc ⟨hi, la, s1, g1, h1⟩ s2 hT2
      have hi10 : i < 10 := (Array.getElem?_eq_some_iff.mp hc).1
      have ec : ch = 97 + i := Option.some.inj (hc.symm.trans (abc_at i hi10))
      subst ec
      refine g_tup (.of hT2) (gs_cons (g_name (by tm_at "at") (gs_cons (g_name (by tm_at "at") (gs_nil ?_)))))
      refine ⟨rfl, ts_nil (ift ?_)⟩
      refine e_tupD ?_
      tm_at "go"
      refine tupend (ds := [.str (sgn i), .int 0, .int (i : Int), .int ((i : Int) + if decide ((i : Int) < 2) = true then 1 else 0), .bool false, .bool false, .int (i : Int)]) (.cons (show Dt M.K H2 (.str (sgn i)) (.str (sgn i)) from .str _) (.cons (.int _) (.cons (.int _) (.cons (.int _) (.cons (.bl _) (.cons (.bl _) (.cons (.int _) .nil))))))) (Nat.le_of_ble_eq_true rfl) fun v H3 s3 h3 => ?_
      have g3 := s3 _ _ (s2 _ _ g1)
      have ku := kp_upd (o' := .lst (acc ++ [v])) g3 (fun _ e => nomatch e) (fun _ _ e => nomatch e)
      refine ⟨g3, hi10, by rw [List.length_append, la]; rfl, same_mut (s1.trans (s2.trans s3)) hD, upd_same, ?_⟩
      have et : rowsT.take (i + 1) = rowsT.take i ++ [rt i (sgn i)] := by
        have hl : i < rowsT.length := hi10
        rw [List.take_succ_eq_append_getElem hl]
        have : rowsT[i] = rt i (sgn i) := by simp [rowsT]
        rw [this]
      rw [et, List.map_append]
      exact (h1.mono ((tp_same (s2.trans s3)).trans ku.t)).app (.cons (h3.mono ku.t) .nil)
    · rintro acc H' ⟨_, la, s1, g1, h1⟩
      have e10 : abc.cps.size = 10 := by decide +kernel
      refine a_nil ?_
      refine rc_tupL (.of g1) h1 fun v H2 s2 h2 => ?_
      exact ⟨v, rfl, s1.trans s2, h2⟩
  rintro _ H1 ⟨v, rfl, s1, hv⟩
  refine b_cons (s_set (by tm_at "at") (e_str ?_))
  refine b_cut (fun σ1 H' => ∃ v0 w, σ1 = [v0, some v, some w, none, none, none, none, none] ∧ Same H1 H' ∧ Dt M.K H' w (dp 8).d) ?_ ?_
  · refine s_forX ?_
    tm_at "go"
    refine ⟨fun i σ1 H' => ∃ v0 w, σ1 = [v0, some v, some w, none, none, none, none, none] ∧ Same H1 H' ∧ Dt M.K H' w (dp i).d, ⟨_, _, rfl, Same.refl _, .str _⟩, ?_, ?_⟩
    · rintro i ch σ' H2 hc ⟨v0, w, rfl, s2, hw⟩
      have hi8 : i < 8 := (Array.getElem?_eq_some_iff.mp hc).1
      have ec : ch = 98 + i := Option.some.inj (hc.symm.trans (bi_at i hi8))
      subst ec
      refine g_name (by tm_at "at") ?_
      refine b_one (s_set (by tm_at "at") (e_tupD ?_))
      tm_at "go"
      refine tupend (ds := [.str "+", (dp i).d, .str (sgn (i + 1))]) ?_ (Nat.le_of_ble_eq_true rfl) fun w2 H3 s3 h3 => ?_
      · refine .cons (.str _) (.cons hw (.cons ?_ .nil))
        rw [show (⟨#[98 + i]⟩ : Str) = sgn (i + 1) from by unfold sgn; rw [show 97 + (i + 1) = 98 + i from by omega]]
        exact .str _
      exact ⟨_, w2, rfl, s2.trans s3, h3⟩
    · rintro σ' H2 ⟨v0, w, rfl, s2, hw⟩
      exact ⟨v0, w, rfl, s2, hw⟩
  rintro _ H2 ⟨v0, w, rfl, s2, hw⟩
  have hv2 := hv.mono (tp_same s2)
  refine b_cut (fun σ1 H' => ∃ v0 v3 v4 v5 v6, σ1 = [v0, some v, some w, v3, v4, v5, v6, none] ∧ Same H2 H') ?_ ?_
  · refine s_forL ?_
    refine e_callL dst ?_
    tm_at "go"
    refine ⟨_, _, .cons hv2 .nil, ⟨rowsT, rfl, rowsT_all.sm, rfl⟩, fun ls us H3 s3 n3 g3 h3 => ?_⟩
    refine ⟨ls, us, rfl, .of g3, fun i σ1 H' => ∃ v0 v3 v4 v5 v6, σ1 = [v0, some v, some w, v3, v4, v5, v6, none] ∧ Same H3 H', ⟨_, _, _, _, _, rfl, Same.refl _⟩, ?_, ?_, ?_⟩
    · rintro i σ' H' _ ⟨v0, v3, v4, v5, v6, rfl, s⟩
      exact .of (s _ _ g3)
    · rintro i y σ' H4 hy ⟨v0, v3, v4, v5, v6, rfl, s4⟩
      obtain ⟨d, hd, hy'⟩ := h3.getV hy
      rw [List.getElem?_map] at hd
      obtain ⟨st, hst0, rfl⟩ := Option.map_eq_some_iff.mp hd
      have S := states_ok rowsT_all st (List.mem_of_getElem? hst0)
      have hy4 := hy'.mono (tp_same s4)
      have hv4 := hv2.mono (tp_same (s3.trans s4))
      have hw4 := hw.mono (tp_same (s3.trans s4))
      refine g_name (by tm_at "at") ?_
      refine b_one ?_
      refine s_forT ?_
      refine e_tup ?_
      tm_at "go"
      refine e_tupD ?_
      tm_at "go"
      refine tupend (ds := [.str "-", .str (sgn 8), .str (sgn 9)]) (.cons (.str _) (.cons (show Dt M.K H4 (.str "i") (.str (sgn 8)) from .str _) (.cons (show Dt M.K H4 (.str "j") (.str (sgn 9)) from .str _) .nil))) (Nat.le_of_ble_eq_true rfl) fun w3 H5 s5 h5 => ?_
      refine a_nil ⟨(Nat.le_of_ble_eq_true rfl), fun p hp => ?_⟩
      have s6 := same_new (o := .tup [w, .str "j", w3]) hp
      have g6 : (upd H5 p (HO.tup [w, .str "j", w3])) p = some (.tup [w, .str "j", w3]) := upd_same
      generalize upd H5 p (HO.tup [w, .str "j", w3]) = H6 at s6 g6 ⊢
      have s46 := s5.trans s6
      have es : DtAll M.K H6 [w, .str "j", w3] (exTen.map Ex.d) := .cons (hw4.mono (tp_same s46)) (.cons (show Dt M.K H6 (.str "j") (.str (sgn 9)) from .str _) (.cons (h5.mono (tp_same s6)) .nil))
      refine ⟨p, _, rfl, .of g6, fun j' σ1 H' => ∃ v4 v5 v6, σ1 = [v0, some v, some w, some y, v4, v5, v6, none] ∧ Same H6 H', ⟨_, _, _, rfl, Same.refl _⟩, ?_, ?_, ?_⟩
      · rintro j' σ' H' _ ⟨v4, v5, v6, rfl, s⟩
        exact (tp_same s).sqt (.of g6)
      · rintro j' ye σ' H7 hye ⟨v4, v5, v6, rfl, s7⟩
        obtain ⟨d, hd2, he'⟩ := es.getV hye
        rw [List.getElem?_map] at hd2
        obtain ⟨e, hee, rfl⟩ := Option.map_eq_some_iff.mp hd2
        have hi := exTen_in S e (List.mem_of_getElem? hee)
        have he7 := he'.mono (tp_same s7)
        have hy7 := hy4.mono (tp_same (s46.trans s7))
        have hv7 := hv4.mono (tp_same (s46.trans s7))
        refine g_name (by tm_at "at") ?_
        refine b_cons (s_set (by tm_at "at") (e_lstD ?_))
        tm_at "go"
        refine ⟨(Nat.le_of_ble_eq_true rfl), fun lk H8 s8 n8 g8 => ?_⟩
        refine b_cons (s_set (by tm_at "at") (e_lstD (a_cons ?_)))
        refine e_call dv ?_
        tm_at "go"
        refine ⟨rowsT, st, e, _, _, _, lk, [], rfl, hv7.mono (tp_same s8), hy7.mono (tp_same s8), he7.mono (tp_same s8), g8, by decide, hi, fun vd H9 w9 hvd => ?_⟩
        obtain ⟨k9, ws, g9, d9⟩ := w9
        rw [List.nil_append] at g9
        have s79 : Same H7 H9 := fun z o h => k9.k _ _ (fun e => by rw [e, n8] at h; cases h) (s8 _ _ h)
        have lks := lenLooks8 (rs := rowsT) (st := st) (e := e) hi.dep hi.n8
        rw [List.length_map] at lks
        refine a_cons (e_call dfl ?_)
        tm_at "go"
        refine ⟨st, lk, ws, _, rfl, g9, d9, by omega, fun vl Ha sa hvl => ?_⟩
        refine a_nil ⟨(Nat.le_of_ble_eq_true rfl), fun ld Hb sb nb gb => ?_⟩
        have s7b := s79.trans (sa.trans sb)
        tm_at "go"
        refine e_callB (id := "repr") rp (by decide +kernel) ?_
        refine a_cons (e_lstD (a_cons (e_callF dva ?_)))
        tm_at "go"
        refine ⟨_, _, .cons (hv7.mono (tp_same s7b)) (.cons (hy7.mono (tp_same s7b)) (.cons (he7.mono (tp_same s7b)) .nil)), ⟨rowsT, st, e, rfl, hi, rfl⟩, fun v1 Hc sc hc => ?_⟩
        have s7c := s7b.trans sc
        refine a_cons (e_callZ dlo ?_)
        tm_at "go"
        refine ⟨_, _, .cons (hv7.mono (tp_same s7c)) (.cons (hy7.mono (tp_same s7c)) (.cons (he7.mono (tp_same s7c)) .nil)), ⟨rowsT, st, e, rfl, hi, rfl⟩, fun v2 Hd sd hd _ => ?_⟩
        refine a_nil ⟨(Nat.le_of_ble_eq_true rfl), fun lt He se ne ge => ?_⟩
        refine a_nil ?_
        have SH := due2_shw hi
        refine rc_reprX (.lst (.of ge) (DtAll.dp (.cons (hc.mono (tp_same (sd.trans se))) (.cons (hd.mono (tp_same se)) .nil)))) SH fun t1 et1 => ?_
        have sbe := sc.trans (sd.trans se)
        refine e_callB (id := "repr") rp (by decide +kernel) ?_
        tm_at "go"
        refine rc_reprX (.lst (.of (sbe _ _ gb)) (DtAll.dp (.cons (hvd.mono (tp_same (sa.trans (sb.trans sbe)))) (.cons (hvl.mono (tp_same (sb.trans sbe))) .nil)))) SH fun t2 et2 => ?_
        obtain rfl : t1 = t2 := et1.trans et2.symm
        refine ro_ne rfl ?_
        rw [decide_eq_true rfl]
        tm_at "go"
        exact ⟨_, _, _, rfl, s7.trans (s7b.trans sbe)⟩
      · rintro σ' H7 ⟨v4, v5, v6, rfl, s7⟩
        exact ⟨_, _, _, _, _, rfl, s4.trans (s46.trans s7)⟩
    · rintro σ' H4 ⟨v0, v3, v4, v5, v6, rfl, s4⟩
      exact ⟨_, _, _, _, _, rfl, s3.trans s4⟩
  rintro _ H3 ⟨v0, v3, v4, v5, v6, rfl, s3⟩
  have s03 := s1.trans (s2.trans s3)
  refine b_one (s_ret ?_)
  refine e_callQ dsr ?_
  tm_at "go"
  refine ⟨rowsT, v, rfl, hv2.mono (tp_same s3), rowsT_sp, hT.ext s03, fun H4 x4 hT4 => k H4 ((ExtN.of s03).trans x4) hT4⟩
end K

namespace G
open PySem PySem.Spec PyProof.Rows L2
/-! ### enumerate -/
section
variable {c : Cd} {σ : L2.St} {H : Hp} {Q : VK} {pos : Pos}
theorem i_enum {e : Expr} {p tpos : Pos} {elts : List Expr} {kk : Nat} {R : It → Hp → Prop} (hm : c.mg "enumerate" = none) (q : RE c e σ H fun x H1 => ∃ a xs, x = .ref a ∧ SqL c.K H1 a xs ∧ R (Ite c.K a) H1) (hg : c.sc.names.lookup ("enumerate" : Str) = some .globalImplicit := by rfl) (hs : ∀ env, starEach [e] env = [(false, eval e env)] := by intro _; rfl) :
    RI c (.Tuple elts kk tpos) (.Call (.Name "enumerate" p) [e] [] pos) σ H R := by
  refine ri_of (t := iEnum c.K (RA c [e])) (fun X h => by rw [← h.K]; exact pi_enum (gl_of h hg) (by rw [h.mg]; exact hm) (pa_ra h) (hs _)) ?_
  refine a_cons (RE.mono (fun x H1 z => a_nil ?_) q) (fun env => by rw [hs]; rfl)
  obtain ⟨a, xs, rfl, h1, h2⟩ := z
  exact ⟨a, xs, rfl, h1, h2⟩
theorem s_forE {nx : L2.St → Hp → Prop} {rt : VK} {bk ct : L2.St → Hp → Prop} {e : Expr} {p tpos ppos : Pos} {elts : List Expr} {kk : Nat} {body : List Stmt} (hm : c.mg "enumerate" = none)
    (q : RE c e σ H fun x H1 => ∃ a xs, x = .ref a ∧ SqL c.K H1 a xs ∧ ∃ Pv : Nat → L2.St → Hp → Prop, Pv 0 σ H1 ∧ (∀ i σ' H', Pv i σ' H' → SqL c.K H' a xs) ∧
      (∀ (i : Nat) x σ' H' t H'', xs[i]? = some x → Pv i σ' H' → Same H' H'' → H'' t = some (.tup [.int (i : Int), x]) → RG c (.Tuple elts kk tpos) (.ref t) σ' H'' fun σ2 H2 => RB c body ⟨Pv (i + 1), rt, nx, Pv (i + 1)⟩ σ2 H2) ∧ ∀ σ' H', Pv xs.length σ' H' → nx σ' H')
    (hg : c.sc.names.lookup ("enumerate" : Str) = some .globalImplicit := by rfl) (hs : ∀ env, starEach [e] env = [(false, eval e env)] := by intro _; rfl) (hf : ∀ env x, foldedSetIterable (.Call (.Name "enumerate" p) [e] [] ppos) env x = pure x := by intro _ _; rfl) :
    RS c (.For (.Tuple elts kk tpos) (.Call (.Name "enumerate" p) [e] [] ppos) body [] pos) ⟨nx, rt, bk, ct⟩ σ H := by
  refine s_for (i_enum hm (RE.mono (fun x H1 z => ?_) q) hg hs) hf
  obtain ⟨a, xs, rfl, ht, Pv, h0, hl, hst, hd⟩ := z
  refine ⟨a, xs, rfl, ht, fun i m σ' H' => i ≤ xs.length ∧ m = xs.length - i ∧ Pv i σ' H', ⟨_, Nat.zero_le _, rfl, h0⟩, ?_⟩
  rintro i m σ' H' ⟨hi, rfl, pv⟩
  have hq := hl i σ' H' pv
  by_cases hlt : i < xs.length
  · refine .inr ⟨⟨xs, xs[i], hq, List.getElem?_eq_getElem hlt⟩, Pv (i + 1), fun σ2 H2 p2 => ⟨_, by omega, hlt, rfl, p2⟩, ?_⟩
    rintro v H'' ⟨t, x, rfl, hT, rfl, hx⟩
    exact hst i x σ' H' t _ (hx xs hq) pv (same_new hT) upd_same
  · obtain rfl : i = xs.length := by omega
    exact .inl ⟨⟨xs, hq, Nat.le_refl _⟩, hd _ _ pv⟩
end
end G
namespace K
open PySem PySem.Spec PyProof.Rows L2 LamX G
variable {M : Md}
/-! ### rows, and what is written of them -/
theorem row_rg {rs : List Row} {r : Row} (hr : r ∈ rs) : (r.2.2.1, r.2.2.2.1) ∈ rg rs := by
  refine List.mem_flatMap.mpr ⟨r, hr, List.mem_replicate.mpr ⟨?_, rfl⟩⟩
  unfold width
  omega
theorem row_tot {rs : List Row} {r : Row} (hr : r ∈ rs) : r.2.1 ≤ total rs := by
  induction rs with
  | nil => cases hr
  | cons q rs ih =>
    have e : total (q :: rs) = width q + total rs := by simp [total]
    have w : q.2.1 ≤ width q := Nat.le_max_right _ _
    rcases List.mem_cons.mp hr with rfl | hr
    · omega
    · have := ih hr
      omega
theorem all1 {α : Type} {P : α → Prop} {a : α} (h : P a) : ∀ p ∈ [a], P p := fun p hp => by rw [List.mem_singleton.mp hp]; exact h
theorem all2 {α : Type} {P : α → Prop} {a b : α} (h : P a) (k : P b) : ∀ p ∈ [a, b], P p := fun p hp => by
  rcases List.mem_cons.mp hp with rfl | hp
  · exact h
  · exact all1 k p hp
theorem all3 {α : Type} {P : α → Prop} {a b c : α} (h : P a) (k : P b) (l : P c) : ∀ p ∈ [a, b, c], P p := fun p hp => by
  rcases List.mem_cons.mp hp with rfl | hp
  · exact h
  · exact all2 k l p hp
structure RowB (rs : List Row) (r : Row) : Prop where
  mem : r ∈ rs
  sz : r.2.1 ≤ 10
  lo : -10 ≤ r.2.2.1 ∧ r.2.2.1 ≤ 10
  hi : -10 ≤ r.2.2.2.1 ∧ r.2.2.2.1 ≤ 10
theorem rowB {rs : List Row} (A : RowsAll rs) {r : Row} (h : r ∈ rs) : RowB rs r := by
  obtain ⟨a1, a2, a3⟩ := A.sm.sp _ (row_rg h)
  unfold span at a1
  simp only at a1 a2 a3
  exact ⟨h, by have := row_tot h; have := A.sm.tot; omega, by omega, by omega⟩
structure RowsNm (rs : List Row) : Prop where
  nm : ∀ r ∈ rs, (reprText r.1).length ≤ 20
  fst : ∀ r ∈ rs, r.2.2.2.2.2.2.natAbs < 10 ^ 12
def sz : Nat → Nat
  | 0 => 20
  | n + 1 => 4 * (sz n + 2) + 3
theorem sz_ge : ∀ n, 20 ≤ sz n
  | 0 => Nat.le_refl _
  | n + 1 => by have := sz_ge n; unfold sz; omega
theorem word_len : ∀ w ∈ ("at" :: "if" :: (bins ++ (uns ++ kks)) : List Str), (reprText w).length ≤ 20 := by decide +kernel
theorem sw_i {i : Int} {n m : Nat} (h : -1000000 ≤ i ∧ i ≤ 1000000) (hm : 20 ≤ m) : Shw n m (.int i) := (sw_int (Nat.lt_of_le_of_lt (show i.natAbs ≤ 1000000 by omega) (by decide))).up (Nat.zero_le _) (by omega)
theorem sw_s {s : Str} {n m : Nat} (h : (reprText s).length ≤ 20) (hm : 20 ≤ m) : Shw n m (.str s) := (sw_str h).up (Nat.zero_le _) hm
theorem sw_sz {n : Nat} {ds : List PyData} (h : ∀ d ∈ ds, Shw n (sz n) d) (hk : ds.length ≤ 4) : Shw (n + 1) (sz (n + 1)) (.tuple ds) := sw_tup h hk
theorem exShw {rs : List Row} (N : RowsNm rs) : ∀ (e : Ex) (n : Nat), Fit rs e → e.dep ≤ n → Shw n (sz n) e.d
  | .int i, n, h, _ => sw_i h (sz_ge n)
  | .nm s, n, ⟨r, hr, e, _⟩, _ => sw_s (by rw [← e]; exact N.nm r hr) (sz_ge n)
  | .at t e, 0, _, h => absurd h (by unfold Ex.dep; omega)
  | .at t e, n + 1, ⟨⟨r, hr, e0, _⟩, f⟩, h => by
    have ih := exShw N e n f (by unfold Ex.dep at h; omega)
    exact sw_sz (all3 (sw_s (word_len _ (by decide +kernel)) (sz_ge n)) (sw_s (by rw [← e0]; exact N.nm r hr) (sz_ge n)) ih) (Nat.le_of_ble_eq_true rfl)
  | .un op e, 0, _, h => absurd h (by unfold Ex.dep; omega)
  | .un op e, n + 1, ⟨ho, f⟩, h => by
    have ih := exShw N e n f (by unfold Ex.dep at h; omega)
    exact sw_sz (all2 (sw_s (word_len op (List.mem_cons_of_mem _ (List.mem_cons_of_mem _ (List.mem_append_right _ (List.mem_append_left _ ho))))) (sz_ge n)) ih) (Nat.le_of_ble_eq_true rfl)
  | .kk op e k, 0, _, h => absurd h (by unfold Ex.dep; omega)
  | .kk op e k, n + 1, ⟨ho, f, hk⟩, h => by
    have ih := exShw N e n f (by unfold Ex.dep at h; omega)
    exact sw_sz (all3 (sw_s (word_len op (List.mem_cons_of_mem _ (List.mem_cons_of_mem _ (List.mem_append_right _ (List.mem_append_right _ ho))))) (sz_ge n)) ih (sw_i (by omega) (sz_ge n))) (Nat.le_of_ble_eq_true rfl)
  | .bin op a b, 0, _, h => absurd h (by unfold Ex.dep; omega)
  | .bin op a b, n + 1, ⟨ho, f, g⟩, h => by
    have i1 := exShw N a n f (by unfold Ex.dep at h; omega)
    have i2 := exShw N b n g (by unfold Ex.dep at h; omega)
    exact sw_sz (all3 (sw_s (word_len op (List.mem_cons_of_mem _ (List.mem_cons_of_mem _ (List.mem_append_left _ ho)))) (sz_ge n)) i1 i2) (Nat.le_of_ble_eq_true rfl)
  | .ite a b d, 0, _, h => absurd h (by unfold Ex.dep; omega)
  | .ite a b d, n + 1, ⟨f, g, e⟩, h => by
    have i1 := exShw N a n f (by unfold Ex.dep at h; omega)
    have i2 := exShw N b n g (by unfold Ex.dep at h; omega)
    have i3 := exShw N d n e (by unfold Ex.dep at h; omega)
    refine sw_sz (fun x hx => ?_) (Nat.le_of_ble_eq_true rfl)
    rcases List.mem_cons.mp hx with rfl | hx
    · exact sw_s (word_len _ (by decide +kernel)) (sz_ge n)
    · exact all3 i1 i2 i3 x hx
theorem rowsShw {rs : List Row} (A : RowsAll rs) (N : RowsNm rs) : Shw 2 (10 * ((7 * (20 + 2) + 3) + 2) + 3) (cellsD rs) := by
  refine sw_tup (n := 7 * (20 + 2) + 3) (fun d hd => ?_) (by rw [List.length_map]; exact A.ri.len)
  obtain ⟨r, hr, rfl⟩ := List.mem_map.mp hd
  have B := rowB A hr
  refine sw_tup (m := 0) (n := 20) (k := 7) (fun d hd => ?_) (Nat.le_of_ble_eq_true rfl)
  have i0 : ∀ i : Int, i.natAbs < 10 ^ 12 → Shw 0 20 (.int i) := fun i h => (sw_int h).up (Nat.le_refl _) (by decide)
  have hb : ∀ b : Bool, Shw 0 20 (.bool b) := fun b => (sw_bool b).up (Nat.le_refl _) (by decide)
  have hsz := B.sz
  have hlo := B.lo
  have hhi := B.hi
  rcases List.mem_cons.mp hd with rfl | hd
  · exact sw_str (N.nm r hr)
  rcases List.mem_cons.mp hd with rfl | hd
  · exact i0 _ (Nat.lt_of_le_of_lt (show ((r.2.1 : Int)).natAbs ≤ 10 by omega) (by decide))
  rcases List.mem_cons.mp hd with rfl | hd
  · exact i0 _ (Nat.lt_of_le_of_lt (show (r.2.2.1).natAbs ≤ 10 by omega) (by decide))
  rcases List.mem_cons.mp hd with rfl | hd
  · exact i0 _ (Nat.lt_of_le_of_lt (show (r.2.2.2.1).natAbs ≤ 10 by omega) (by decide))
  rcases List.mem_cons.mp hd with rfl | hd
  · exact hb _
  rcases List.mem_cons.mp hd with rfl | hd
  · exact hb _
  · rw [List.mem_singleton.mp hd]
    exact i0 _ (N.fst r hr)
theorem menus_nm : ∀ m ∈ menus, ∀ s ∈ m, (reprText s).length ≤ 20 := by decide +kernel
theorem rows3_nm {most : Nat} {rs : List Row} (h : Rows3 most rs) : RowsNm rs := by
  obtain ⟨m, hm1, sub⟩ := h.nm
  refine ⟨fun r hr => menus_nm m hm1 _ (sub.subset (List.mem_map.mpr ⟨r, hr, rfl⟩)), fun r hr => ?_⟩
  obtain ⟨_, a, b, c, d, ⟨e, f⟩, _⟩ := h.ok r hr
  exact Nat.lt_of_le_of_lt (show r.2.2.2.2.2.2.natAbs ≤ 10 by omega) (by decide)
theorem lift_sts {L : List St1} : ∀ {es : List PyData}, (∀ e ∈ es, e ∈ L.map stD) → ∃ sts : List St1, es = sts.map stD ∧ ∀ st ∈ sts, st ∈ L
  | [], _ => ⟨[], rfl, fun _ h => nomatch h⟩
  | e :: es, h => by
    obtain ⟨st, h1, rfl⟩ := List.mem_map.mp (h e (List.mem_cons_self ..))
    obtain ⟨sts, rfl, h2⟩ := lift_sts fun e he => h e (List.mem_cons_of_mem _ he)
    refine ⟨st :: sts, rfl, fun s hs => ?_⟩
    rcases List.mem_cons.mp hs with rfl | hs
    · exact h1
    · exact h2 s hs
theorem many_pos {ps : List Rng} (h : ∀ p ∈ ps, 1 ≤ span p) : 1 ≤ many ps := by
  have : ∀ (l : List Nat) (a : Nat), 1 ≤ a → (∀ x ∈ l, 1 ≤ x) → 1 ≤ l.foldl (· * ·) a := by
    intro l
    induction l with
    | nil => intro a h _; exact h
    | cons x l ih =>
      intro a ha hl
      rw [List.foldl_cons]
      exact ih _ (Nat.mul_pos ha (hl x (List.mem_cons_self ..))) fun y hy => hl y (List.mem_cons_of_mem _ hy)
  refine this _ 1 (Nat.le_refl _) fun x hx => ?_
  obtain ⟨p, hp, rfl⟩ := List.mem_map.mp hx
  exact h p hp
structure R3 (rs : List Row) : Prop where
  sp : SpR rs
  nm : RowsNm rs
theorem r3_of {rs : List Row} (A : RowsAll rs) (h : rs.all (fun r => decide ((reprText r.1).length ≤ 20) && decide (r.2.2.2.2.2.2.natAbs < 10 ^ 12) && decide (r.1.length ≤ 20) && decide (r.2.1 ≤ 10) && r.1.cps.toList.all (fun c => decide (c < 16 ^ 8)) && decide (r.1 ≠ "none") && decide (r.1 ≠ "xx")) = true) : R3 rs := by
  simp only [List.all_eq_true, Bool.and_eq_true, decide_eq_true_eq] at h
  exact ⟨⟨A, fun r hr => ⟨(h r hr).1.1.1.1.2, (h r hr).1.1.1.2, (h r hr).1.1.2⟩, fun r hr => ⟨(h r hr).1.2, (h r hr).2⟩⟩, fun r hr => (h r hr).1.1.1.1.1.1, fun r hr => (h r hr).1.1.1.1.1.2⟩
theorem sms_ok3 : ∀ s ∈ sms, R3 s.rows := by
  intro s hs
  have h : sms.all (fun s => s.rows.all (fun r => decide ((reprText r.1).length ≤ 20) && decide (r.2.2.2.2.2.2.natAbs < 10 ^ 12) && decide (r.1.length ≤ 20) && decide (r.2.1 ≤ 10) && r.1.cps.toList.all (fun c => decide (c < 16 ^ 8)) && decide (r.1 ≠ "none") && decide (r.1 ≠ "xx"))) = true := by decide +kernel
  exact r3_of (sms_all s hs) (List.all_eq_true.mp h s hs)
theorem menus_ok3 : ∀ m ∈ menus, ∀ s ∈ m, s.length ≤ 20 ∧ (s.cps.toList.all (fun c => decide (c < 16 ^ 8)) = true) ∧ s ≠ "none" ∧ s ≠ "xx" := by decide +kernel
theorem rows3_ok3 {most : Nat} {rs : List Row} (h : Rows3 most rs) (hm : most ≤ 256) : R3 rs := by
  obtain ⟨m, hm1, sub⟩ := h.nm
  have hn : ∀ r ∈ rs, nameOf r ∈ m := fun r hr => sub.subset (List.mem_map.mpr ⟨r, hr, rfl⟩)
  refine ⟨⟨rows3_all h hm, fun r hr => ?_, fun r hr => ?_⟩, rows3_nm h⟩
  · obtain ⟨a, b, _, _⟩ := menus_ok3 m hm1 _ (hn r hr)
    have s3 := (h.ok r hr).size
    refine ⟨a, by omega, fun c hc => ?_⟩
    exact of_decide_eq_true (List.all_eq_true.mp b c hc)
  · exact (menus_ok3 m hm1 _ (hn r hr)).2.2
theorem keptShw {rs : List Row} (A : RowsAll rs) (N : RowsNm rs) {e : Ex} (f : Fit rs e) (h : e.dep ≤ 4) : Shw 60 1000000 (.tuple [cellsD rs, e.d]) :=
  (sw_tup (m := 4) (n := sz 4) (k := 2) (all2 ((rowsShw A N).up (by decide) (by decide)) (exShw N e 4 f h)) (Nat.le_of_ble_eq_true rfl)).up (by decide) (by decide)
theorem feed_ext {K : PySem.W.Frag} {H H' : Hp} {fd cl : Addr} (h : Feed K H fd cl) (x : ExtN H H') : Feed K H' fd cl := by
  obtain ⟨ns, b, d, e, h1, h2, h3⟩ := h
  exact ⟨ns, b, d, e, x _ _ h1 (fun _ z => nomatch z), x _ _ h2 (fun _ z => nomatch z), h3⟩
theorem codeD {c : Addr} {q : Str} {kvs : List (Key × V)} : HO.dK kvs ≠ CodeO c q := fun z => by
  have z : HO.dK kvs = HO.ext _ := z
  cases z
theorem tabs_kp {T : List (Addr × Str)} {K : PySem.W.Frag} {H H' : Hp} {fp cl : Addr} (hT : Tabs T H) (f : Feed K H fp cl) (k : Kp fp H H') : Tabs T H' := fun p hp => by
  obtain ⟨ps, h1, h2, h3⟩ := hT p hp
  obtain ⟨ns, b, d, e, g1, _, _⟩ := f
  refine ⟨ps, k.k _ _ (fun e => by rw [e, g1] at h1; cases h1) h1, h2, fun pos cv hc => ?_⟩
  obtain ⟨c, e1, e2⟩ := h3 pos cv hc
  exact ⟨c, e1, k.k _ _ (fun e => by rw [e, g1] at e2; exact codeD (Option.some.inj e2)) e2⟩
def gOne : PyData → Option PyData
  | .tuple [a, _, _, _] => some a
  | _ => none
theorem gOne_all (l : List Sm) : (l.map Sm.d).filterMap gOne = (l.map Sm.rows).map cellsD := by
  induction l with
  | nil => rfl
  | cons s l ih => rw [List.map_cons, List.filterMap_cons, List.map_cons, List.map_cons, ← ih]; rfl
def st02 : St1 := [0, 2]
theorem all_A : RowsAll rowsA := sms_all _ (List.mem_cons_self ..)
theorem st_A : StOk rowsA st02 := states_ok all_A _ (by decide +kernel)
theorem fit_X : Fit rowsA (.nm "x") := ⟨("x", 0, 0, 3, true, false, 0), List.mem_cons_of_mem _ (List.mem_cons_self ..), rfl, rfl⟩
theorem in_X : EvIn rowsA st02 (.nm "x") 8 := ⟨st_A, fit_X, Nat.zero_le _, Nat.le_refl _, vb_of st_A fit_X (Nat.zero_le _)⟩
theorem ev_X : (ev rowsA st02 (.nm "x")).1 = some 2 := by decide +kernel
theorem look_X : firsts (ev rowsA st02 (.nm "x")).2 = [1] := by decide +kernel
def exM : Ex := .kk "mod" (.int (-7)) 3
theorem all_0 : RowsAll [] := all_of [] (by decide +kernel)
theorem st_0 : StOk [] [] := states_ok all_0 _ (by decide +kernel)
theorem fit_M : Fit [] exM := ⟨by decide +kernel, (by decide : (-1000000 : Int) ≤ -7 ∧ (-7 : Int) ≤ 1000000), by decide⟩
theorem in_M : EvIn [] [] exM 8 := ⟨st_0, fit_M, (by decide : 1 ≤ 8), Nat.le_refl _, vb_of st_0 fit_M (by decide : 1 ≤ 4)⟩
theorem ev_M : (ev [] [] exM).1 = some 2 := by decide +kernel
end K

namespace K
open PySem PySem.Spec PyProof.Rows L2 LamX G
variable {M : Md}
/-! ### the law -/
def spLaw (P : Addr) (K : PySem.W.Frag) : Sp := fun vs H Q _ => ∃ (sl : Addr) (ns : List Int), vs = [.ref sl] ∧ SqL K H sl (ns.map V.int) ∧ ns.length ≤ 63 ∧ Tabs [(P, sq)] H ∧ ∀ H', Q (.bl true) H'
def revL3 {α : Type} : List α → List α
  | [a, b, d] => [d, b, a]
  | zs => zs
def rotL3 {α : Type} : List α → List α
  | [a, b, d] => [d, a, b]
  | zs => zs
/-- the samples: their rows -/
structure Sms (K : PySem.W.Frag) (fp cl l : Addr) (us : List V) (ss : List (List Row)) (P : Addr) (H : Hp) : Prop where
  fd : Feed K H fp cl
  tb : Tabs [(P, sq)] H
  g : H l = some (.lst us)
  d : DtAll K H us (ss.map cellsD)
theorem Sms.ext {K : PySem.W.Frag} {fp cl l P : Addr} {us : List V} {ss : List (List Row)} {H H' : Hp} (h : Sms K fp cl l us ss P H) (x : ExtN H H') (t : Tabs [(P, sq)] H') : Sms K fp cl l us ss P H' :=
  ⟨feed_ext h.fd x, t, x _ _ h.g (fun _ z => nomatch z), h.d.mono (tp_ext x)⟩
theorem Sms.same {K : PySem.W.Frag} {fp cl l P : Addr} {us : List V} {ss : List (List Row)} {H H' : Hp} (h : Sms K fp cl l us ss P H) (s : Same H H') : Sms K fp cl l us ss P H' := h.ext (.of s) (h.tb.ext s)
theorem Sms.kp {K : PySem.W.Frag} {fp cl l P : Addr} {us : List V} {ss : List (List Row)} {H H' : Hp} (h : Sms K fp cl l us ss P H) (k : Kp fp H H') (f : Feed K H' fp cl) (n : l ≠ fp) : Sms K fp cl l us ss P H' :=
  ⟨f, tabs_kp h.tb h.fd k, k.k _ _ n h.g, h.d.mono k.t⟩
set_option maxHeartbeats 2000000 in
theorem ok_law {f fd P} (F : Fun M.K "law" "law" s_law f fd) (b : Bl M) (rp : M.mg "repr" = none) (en : M.mg "enumerate" = none)
    (dfe : Dc M "_law_feed" ["_law_script"] 1 (spFeed M.K)) (dsm : Dc M "_law_samples" [] 1 (spSm M.K)) (dro : Dc M "_law_rows" ["_law_feed_here", "_law_most"] 3 (spD preRows rRows M.K))
    (dst : Dc M "_law_states" ["_law_rows_here"] 2 (spL rStates M.K)) (dsr : DcQ M "_law_spots_right" ["_law_rows_here"] 7 (spSR P M.K)) (dfs : Dc M "_law_formulas" ["_law_feed_here", "_law_rows_here"] 9 (spFs M.K)) (dso : Dc M "_law_some" ["_law_states_now", "_law_most"] 1 (spSome M.K))
    (dv : dcVal M 8) (dfl : Dc M "_law_first_looks" ["_law_looks"] 1 (spFl M.K)) (dva : Dc M "value_in" ["cells", "state", "expression"] 21 (spF (rVal 8) M.K)) (dlo : Dc M "looked_at" ["cells", "state", "expression"] 21 (spZ (rLooked 8) M.K))
    (kva : DcK M "value_in" ["cells", "state", "expression"] ["expression", "state", "cells"] revL3 21 (spF (rVal 8) M.K)) (klo : DcK M "looked_at" ["cells", "state", "expression"] ["state", "expression", "cells"] rotL3 21 (spZ (rLooked 8) M.K))
    (dte : DcQ M "_law_ten_right" [] 22 (spTen P)) :
    FnQ M.prog M.w M.K M.mg M.base CX0 23 f fd ["_law_script"] (spLaw P M.K) := by
  refine fn_okQ F sc_law (fun vs H Q E h => ?_) (fun H vs Q E h => ?_)
  · obtain ⟨sl, ns, rfl, _⟩ := h
    rfl
  obtain ⟨sl, ns, rfl, hs, hl, hT, k⟩ := h
  tm_at "go"
  refine e_call dfe ?_
  tm_at "go"
  refine ⟨sl, ns, rfl, hs, hl, fun fp cl H1 s1 n1 nc1 f1 => ?_⟩
  have hT1 := hT.ext s1
  refine b_cut (fun σ1 H' => ∃ (l : Addr) (us : List V) (ss : List (List Row)), σ1 = [some (.ref sl), some (.ref fp), some (.ref l), none, none, none, none, none, none, none, none, none, none, none, none] ∧ Sms M.K fp cl l us ss P H' ∧ (∀ rs ∈ ss, R3 rs) ∧ l ≠ fp ∧ l ≠ cl ∧ ss[0]? = some rowsA) ?_ ?_
  · refine s_set (by tm_at "at") ?_
    tm_at "go"
    refine e_lc (own := [("_law_good", 13)]) (Blk.of (N := N_law) (sc := defScope s_law) rfl rfl (by decide +kernel)) ?_
    refine lcL_F gOne ?_
    refine e_call0 dsm ?_
    refine ⟨rfl, fun l2 us2 H2 s2 n2 g2 h2 => ?_⟩
    refine ⟨l2, us2, _, rfl, .of g2, h2, by decide, fun d x H' hd s hx => ?_, fun l3 us3 H3 s3 n3 g3 h3 => ?_⟩
    · obtain ⟨m, hm, rfl⟩ := List.mem_map.mp hd
      refine g_name (by tm_at "at") ⟨rfl, rfl, ts_nil ⟨Same.refl _, ift ?_⟩⟩
      tm_at "go"
      refine rx_tup hx (d := cellsD m.rows) rfl fun va ha => ?_
      exact ⟨Same.refl _, _, rfl, ha⟩
    rw [gOne_all] at h3
    have f3 := f1.same (s2.trans s3)
    have hT3 := hT1.ext (s2.trans s3)
    have nl : l3 ≠ fp := ne_feed f1 s2 n3
    refine e_lc (own := [("_law_k", 14)]) (Blk.of (N := N_law) (sc := defScope s_law) rfl rfl (by decide +kernel)) ?_
    refine lc_R1 b.range ?_
    tm_at "go"
    refine ⟨by decide, fun D hD => ?_⟩
    have nD : D ≠ fp := ne_feed f3 (Same.refl _) hD
    have nDc : D ≠ cl := ne_cl f3 (Same.refl _) hD
    refine ⟨fun j acc H' => ∃ rr : List (List Row), acc.length ≤ j ∧ Kp fp H3 H' ∧ Feed M.K H' fp cl ∧ H' D = some (.lst acc) ∧ DtAll M.K H' acc (rr.map cellsD) ∧ ∀ rs ∈ rr, R3 rs, ?_, ?_, ?_, ?_⟩
    · exact ⟨[], Nat.le_refl _, kp_mut (Kp.refl _ _) hD, f3.upd nD nDc, upd_same, .nil, fun _ h => nomatch h⟩
    · rintro j acc H' ⟨rr, h, _⟩
      exact h
    · rintro j acc H6 hj ⟨rr, hl6, k6, f6, g6, h6, he6⟩
      refine g_name (by tm_at "at") ⟨rfl, ts_nil (ift ?_)⟩
      refine e_callD dro ?_
      tm_at "go"
      refine ⟨fp, cl, _, _, rfl, f6, .cons (.int 40) .nil, ⟨40, rfl, by decide, by decide⟩, ?_⟩
      rintro d v7 H7 ⟨most, rs, e1, rfl, R⟩ k7 f7 hv7
      have em : most = 40 := by
        have := PyData.int.inj (List.cons.inj e1).1
        omega
      have g7 := k7.k _ _ nD g6
      have ku := kp_upd (o' := .lst (acc ++ [v7])) g7 (fun _ e => nomatch e) (fun _ _ e => nomatch e)
      refine ⟨g7, rr ++ [rs], ?_, kp_mut (k6.trans k7) hD, f7.upd nD nDc, upd_same, ?_, ?_⟩
      · rw [List.length_append]; exact Nat.succ_le_succ hl6
      · rw [List.map_append]
        exact (h6.mono (k7.t.trans ku.t)).app (.cons (hv7.mono ku.t) .nil)
      · intro q hq
        rcases List.mem_append.mp hq with hq | hq
        · exact he6 q hq
        · rw [List.mem_singleton.mp hq]
          exact rows3_ok3 R (by omega)
    · rintro acc H6 ⟨rr, hl6, k6, f6, g6, h6, he6⟩
      have g63 := k6.k _ _ nl g3
      have lus := h3.len
      refine ro_cat g63 g6 (by rw [lus]; exact Nat.le_trans (Nat.add_le_add_left hl6 _) (by decide)) fun l7 H7 s7 n7 g7 => ?_
      refine ⟨l7, us3 ++ acc, sms.map Sm.rows ++ rr, rfl, ⟨f6.same s7, (tabs_kp hT3 f3 k6).ext s7, g7, ?_⟩, ?_, ne_feed f6 (Same.refl _) n7, ne_cl f6 (Same.refl _) n7, rfl⟩
      · rw [List.map_append]
        exact (h3.mono (k6.t.trans (tp_same s7))).app (h6.mono (tp_same s7))
      · intro q hq
        rcases List.mem_append.mp hq with hq | hq
        · obtain ⟨m, hm, rfl⟩ := List.mem_map.mp hq
          exact sms_ok3 m hm
        · exact he6 q hq
  rintro _ H2 ⟨l, us, ss, rfl, S2, ok3, nl, nlc, fst2⟩
  refine b_cut (fun σ1 H' => ∃ (v3 v4 v5 v6 v7 v8 v9 v10 v11 : Option V), σ1 = [some (.ref sl), some (.ref fp), some (.ref l), v3, v4, v5, v6, v7, v8, v9, v10, v11, none, none, none] ∧ Sms M.K fp cl l us ss P H') ?_ ?_
  · refine s_forL ?_
    tm_at "go"
    refine ⟨l, us, rfl, .of S2.g, fun i σ1 H' => ∃ (v3 v4 v5 v6 v7 v8 v9 v10 v11 : Option V), σ1 = [some (.ref sl), some (.ref fp), some (.ref l), v3, v4, v5, v6, v7, v8, v9, v10, v11, none, none, none] ∧ Sms M.K fp cl l us ss P H', ⟨_, _, _, _, _, _, _, _, _, rfl, S2⟩, ?_, ?_, ?_⟩
    · rintro i σ' H' _ ⟨v3, v4, v5, v6, v7, v8, v9, v10, v11, rfl, S⟩
      exact .of S.g
    · rintro i x σ' H3 hx ⟨v3, v4, v5, v6, v7, v8, v9, v10, v11, rfl, S3⟩
      obtain ⟨d, hd, hr⟩ := S3.d.getV hx
      rw [List.getElem?_map] at hd
      obtain ⟨rs, hs0, rfl⟩ := Option.map_eq_some_iff.mp hd
      have R := ok3 rs (List.mem_of_getElem? hs0)
      have A := R.sp.all
      refine g_name (by tm_at "at") ?_
      tm_at "go"
      refine e_callL dst ?_
      tm_at "go"
      refine ⟨_, _, .cons hr .nil, ⟨rs, rfl, A.sm, rfl⟩, fun l6 us6 H6 s6 n6 g6 h6 => ?_⟩
      have S6 := S3.same s6
      have pos6 := many_pos fun p hp => (A.sm.sp p hp).1
      have len6 : (statesOf (rg rs)).length ≤ 256 := by rw [states_len]; exact A.sm.many
      have lus6 := h6.len
      rw [List.length_map] at lus6
      rw [← states_len] at pos6
      have hr6 := hr.mono (tp_same s6)
      have n6f : l6 ≠ fp := ne_feed S3.fd (Same.refl _) n6
      tm_at "go"
      refine t_val ?_
      refine e_callQ dsr ?_
      tm_at "go"
      refine ⟨rs, _, rfl, hr6, R.sp, S6.tb, fun H7 x7 hT7 => ⟨true, rfl, iff0 ?_⟩⟩
      have S7 := S6.ext x7 hT7
      have g67 := x7 _ _ g6 fun _ z => nomatch z
      have h67 := h6.mono (tp_ext x7)
      have hr7 := hr6.mono (tp_ext x7)
      tm_at "go"
      refine s_forE en ?_
      refine e_call dfs ?_
      tm_at "go"
      refine ⟨fp, cl, _, rs, rfl, S7.fd, hr7, A.ri, (fun r hr => (R.sp.txt r hr).2.1), fun l8 us8 es H8 k8 f8 n8 g8 h8 F8 => ?_⟩
      have S8 := S7.kp k8 f8 nl
      have g68 := k8.k _ _ n6f g67
      have h68 := h67.mono k8.t
      have hr8 := hr7.mono k8.t
      refine ⟨l8, us8, rfl, .of g8, fun i σ1 H' => ∃ (v5 v6 v7 v8 v9 v10 v11 : Option V), σ1 = [some (.ref sl), some (.ref fp), some (.ref l), some x, some (.ref l6), v5, v6, v7, v8, v9, v10, v11, none, none, none] ∧ Same H8 H', ⟨_, _, _, _, _, _, _, rfl, Same.refl _⟩, ?_, ?_, ?_⟩
      · rintro i' σ' H' ⟨v5, v6, v7, v8, v9, v10, v11, rfl, s⟩
        exact .of (s _ _ g8)
      · rintro j y σ' Ha t Hb hy ⟨v5, v6, v7, v8, v9, v10, v11, rfl, sa⟩ sb ht
        obtain ⟨d, hd, hy'⟩ := h8.getV hy
        rw [List.getElem?_map] at hd
        obtain ⟨e, he0, rfl⟩ := Option.map_eq_some_iff.mp hd
        obtain ⟨fit, dep⟩ := F8.fit e (List.mem_of_getElem? he0)
        have s8b := sa.trans sb
        have hyb := hy'.mono (tp_same s8b)
        refine g_tup (.of ht) (gs_cons (g_name (by tm_at "at") (gs_cons (g_name (by tm_at "at") (gs_nil ?_)))))
        have SH := keptShw A R.nm fit dep
        refine b_cons (s_set (by tm_at "at") ?_)
        refine e_callB (id := "repr") rp (by decide +kernel) ?_
        refine a_cons (e_tupD ?_)
        tm_at "go"
        refine tupend (ds := [cellsD rs, e.d]) (.cons (hr8.mono (tp_same s8b)) (.cons hyb .nil)) (Nat.le_of_ble_eq_true rfl) fun vk Hc sc hk => ?_
        obtain ⟨ak, xk, rfl, _, _⟩ := hk.tupE
        refine a_nil ?_
        refine rc_reprX hk.dp SH fun sh1 esh1 => ?_
        have s8c := s8b.trans sc
        refine b_cons (s_set (by tm_at "at") ?_)
        refine e_call dso ?_
        tm_at "go"
        refine rc_lenL (.of (s8c _ _ g68)) ?_
        refine ro_mod (by omega) ?_
        tm_at "go"
        refine rsl_list (.of (s8c _ _ g68)) fun ld Hd sd nd gd => ?_
        have hcut : ∀ lo : Option Int, DtAll M.K Hd (cutV us6 lo none) ((G.cutD (statesOf (rg rs)) lo none).map stD) := fun lo => by
          have h := h68.mono (tp_same (s8c.trans sd))
          have hle := h.len
          rw [← cutD_map]
          unfold cutV G.cutD
          rw [hle]
          exact DtAll.take _ (DtAll.drop _ h)
        tm_at "go"
        refine ⟨ld, _, _, 5, rfl, by decide, gd, hcut _, ?_, fun le use es' He se ne ge he me lene => ?_⟩
        · rw [List.length_map]
          exact Nat.le_trans (cutD_sub ..).length_le (by omega)
        have s8e := s8c.trans (sd.trans se)
        obtain ⟨sts, rfl, hsub⟩ := lift_sts me
        have hin : ∀ st ∈ sts, StOk rs st := fun st h => states_ok A st ((cutD_sub ..).subset (hsub st h))
        have lse := he.len
        rw [List.length_map] at lse
        refine b_cut (fun σ1 H' => ∃ (v9 v10 v11 : Option V), σ1 = [some (.ref sl), some (.ref fp), some (.ref l), some x, some (.ref l6), some (.int (j : Int)), some y, some (.str sh1), some (.ref le), v9, v10, v11, none, none, none] ∧ Same He H') ?_ ?_
        · refine s_forL ?_
          tm_at "go"
          refine ⟨le, use, rfl, .of ge, fun i σ1 H' => ∃ (v9 v10 v11 : Option V), σ1 = [some (.ref sl), some (.ref fp), some (.ref l), some x, some (.ref l6), some (.int (j : Int)), some y, some (.str sh1), some (.ref le), v9, v10, v11, none, none, none] ∧ Same He H', ⟨_, _, _, rfl, Same.refl _⟩, ?_, ?_, ?_⟩
          · rintro i' σ' H' _ ⟨v9, v10, v11, rfl, s⟩
            exact .of (s _ _ ge)
          · rintro i' z σ' Hf hz ⟨v9, v10, v11, rfl, sf⟩
            obtain ⟨d, hd, hz'⟩ := he.getV hz
            rw [List.getElem?_map] at hd
            obtain ⟨st, hst0, rfl⟩ := Option.map_eq_some_iff.mp hd
            have S := hin st (List.mem_of_getElem? hst0)
            have hi : EvIn rs st e 8 := ⟨S, fit, Nat.le_trans dep (by decide), Nat.le_refl _, vb_of S fit dep⟩
            have s8f := s8e.trans sf
            have hvF := hr8.mono (tp_same s8f)
            have hyF := hy'.mono (tp_same s8f)
            have hzF := hz'.mono (tp_same sf)
            refine g_name (by tm_at "at") ?_
            refine b_cons (s_set (by tm_at "at") (e_lstD ?_))
            tm_at "go"
            refine ⟨(Nat.le_of_ble_eq_true rfl), fun lk Hg sg ng gg => ?_⟩
            refine b_cons (s_set (by tm_at "at") (e_lstD (a_cons ?_)))
            refine e_call dv ?_
            tm_at "go"
            refine ⟨rs, st, e, _, _, _, lk, [], rfl, hvF.mono (tp_same sg), hzF.mono (tp_same sg), hyF.mono (tp_same sg), gg, by decide, hi, fun vd H9 w9 hvd => ?_⟩
            obtain ⟨k9, ws, g9, d9⟩ := w9
            rw [List.nil_append] at g9
            have s79 : Same Hf H9 := fun z o h => k9.k _ _ (fun e => by rw [e, ng] at h; cases h) (sg _ _ h)
            have lks := lenLooks8 (rs := rs) (st := st) (e := e) hi.dep hi.n8
            rw [List.length_map] at lks
            refine a_cons (e_call dfl ?_)
            tm_at "go"
            refine ⟨st, lk, ws, _, rfl, g9, d9, by omega, fun vl Hi si hvl => ?_⟩
            refine a_nil ⟨(Nat.le_of_ble_eq_true rfl), fun ld2 Hj sj nj gj => ?_⟩
            have s7b := s79.trans (si.trans sj)
            tm_at "go"
            refine e_callB (id := "repr") rp (by decide +kernel) ?_
            refine a_cons (e_lstD (a_cons (e_callF dva ?_)))
            tm_at "go"
            refine ⟨_, _, .cons (hvF.mono (tp_same s7b)) (.cons (hzF.mono (tp_same s7b)) (.cons (hyF.mono (tp_same s7b)) .nil)), ⟨rs, st, e, rfl, hi, rfl⟩, fun v1 Hk sk hk1 => ?_⟩
            have s7c := s7b.trans sk
            refine a_cons (e_callZ dlo ?_)
            tm_at "go"
            refine ⟨_, _, .cons (hvF.mono (tp_same s7c)) (.cons (hzF.mono (tp_same s7c)) (.cons (hyF.mono (tp_same s7c)) .nil)), ⟨rs, st, e, rfl, hi, rfl⟩, fun v2 Hl sl2 hl2 _ => ?_⟩
            refine a_nil ⟨(Nat.le_of_ble_eq_true rfl), fun lt Hm sm nm gm => ?_⟩
            refine a_nil ?_
            have SD := due2_shw hi
            refine rc_reprX (.lst (.of gm) (DtAll.dp (.cons (hk1.mono (tp_same (sl2.trans sm))) (.cons (hl2.mono (tp_same sm)) .nil)))) SD fun t1 et1 => ?_
            have sbe := sk.trans (sl2.trans sm)
            refine e_callB (id := "repr") rp (by decide +kernel) ?_
            tm_at "go"
            refine rc_reprX (.lst (.of (sbe _ _ gj)) (DtAll.dp (.cons (hvd.mono (tp_same (si.trans (sj.trans sbe)))) (.cons (hvl.mono (tp_same (sj.trans sbe))) .nil)))) SD fun t2 et2 => ?_
            obtain rfl : t1 = t2 := et1.trans et2.symm
            refine ro_ne rfl ?_
            rw [decide_eq_true rfl]
            tm_at "go"
            exact ⟨_, _, _, rfl, sf.trans (s7b.trans sbe)⟩
          · rintro σ' Hf ⟨v9, v10, v11, rfl, sf⟩
            exact ⟨_, _, _, rfl, sf⟩
        rintro _ Hf ⟨v9', v10', v11', rfl, sf⟩
        have s8f := s8e.trans sf
        tm_at "go"
        refine e_callB (id := "repr") rp (by decide +kernel) ?_
        refine a_cons (e_tupD ?_)
        tm_at "go"
        refine tupend (ds := [cellsD rs, e.d]) (.cons (hr8.mono (tp_same s8f)) (.cons (hy'.mono (tp_same s8f)) .nil)) (Nat.le_of_ble_eq_true rfl) fun vk2 Hg sg hk2 => ?_
        obtain ⟨ak2, xk2, rfl, _, _⟩ := hk2.tupE
        refine a_nil ?_
        refine rc_reprX hk2.dp SH fun sh2 esh2 => ?_
        obtain rfl : sh1 = sh2 := esh1.trans esh2.symm
        tm_at "go"
        refine ro_ne rfl ?_
        refine ⟨_, rfl, ifnF rfl ?_⟩
        tm_at "go"
        exact ⟨_, _, _, _, _, _, _, rfl, s8f.trans sg⟩
      · rintro σ' Ha ⟨v5, v6, v7, v8, v9, v10, v11, rfl, sa⟩
        exact ⟨_, _, _, _, _, _, _, _, _, rfl, S8.same sa⟩
    · rintro σ' H3 ⟨v3, v4, v5, v6, v7, v8, v9, v10, v11, rfl, S⟩
      exact ⟨_, _, _, _, _, _, _, _, _, rfl, S⟩
  rintro _ H3 ⟨v3, v4, v5, v6, v7, v8, v9, v10, v11, rfl, S3⟩
  obtain ⟨u0, hu0, hu⟩ := S3.d.get (show (ss.map cellsD)[0]? = some (cellsD rowsA) by rw [List.getElem?_map, fst2]; rfl)
  have SX := due2_shw in_X
  have eX : PyData.list [optD (ev rowsA st02 (.nm "x")).1, looksD st02 (ev rowsA st02 (.nm "x")).2] = .list [.int 2, .tuple [.tuple [.int 1, .int 2]]] := by
    rw [ev_X]
    unfold looksD
    rw [look_X]
    rfl
  refine b_cons (s_set (by tm_at "at") (e_ix ?_))
  tm_at "go"
  refine rx_list (.of S3.g) (G.pl_at (j := 0) rfl hu0) ?_
  refine b_cons (s_set (by tm_at "at") (e_lstD ?_))
  refine a_cons (e_kw kva (k_cons ?_))
  tm_at "go"
  refine k_cons (e_tupD ?_)
  tm_at "go"
  refine tupend (ds := [.int 0, .int 2]) (by tm_at "dts") (Nat.le_of_ble_eq_true rfl) fun w1 Ha sa ha => ?_
  refine k_cons ?_
  tm_at "go"
  refine k_nil ⟨rfl, _, _, .cons (hu.mono (tp_same sa)) (.cons ha (.cons (.str _) .nil)), ⟨rowsA, st02, .nm "x", rfl, in_X, rfl⟩, fun v1 Hb sb h1 => ?_⟩
  refine a_cons (e_kw klo (k_cons (e_tupD ?_)))
  tm_at "go"
  refine tupend (ds := [.int 0, .int 2]) (by tm_at "dts") (Nat.le_of_ble_eq_true rfl) fun w2 Hc sc hc => ?_
  refine k_cons ?_
  tm_at "go"
  refine k_cons ?_
  tm_at "go"
  have sac := sa.trans (sb.trans sc)
  refine k_nil ⟨rfl, _, _, .cons (hu.mono (tp_same sac)) (.cons hc (.cons (.str _) .nil)), ⟨rowsA, st02, .nm "x", rfl, in_X, rfl⟩, fun v2 Hd sd h2 _ => ?_⟩
  refine a_nil ⟨(Nat.le_of_ble_eq_true rfl), fun lt He se ne ge => ?_⟩
  have s3e := sac.trans (sd.trans se)
  have T3 := S3.same s3e
  tm_at "go"
  refine e_callB (id := "repr") rp (by decide +kernel) ?_
  tm_at "go"
  refine rc_reprX (.lst (.of ge) (DtAll.dp (.cons (h1.mono (tp_same (sc.trans (sd.trans se)))) (.cons (h2.mono (tp_same se)) .nil)))) SX fun t1 et1 => ?_
  refine e_callB (id := "repr") rp (by decide +kernel) ?_
  refine a_cons (e_lstD ?_)
  tm_at "go"
  refine e_tupD (a_cons (e_tupD ?_))
  tm_at "go"
  refine tupend (ds := [.int 1, .int 2]) (by tm_at "dts") (Nat.le_of_ble_eq_true rfl) fun x1 Hf sf hf => ?_
  refine a_nil ?_
  refine tupend (ds := [.tuple [.int 1, .int 2]]) (.cons hf .nil) (Nat.le_of_ble_eq_true rfl) fun x2 Hg sg hg => ?_
  refine a_nil ⟨(Nat.le_of_ble_eq_true rfl), fun lz Hh sh nh gh => ?_⟩
  refine a_nil ?_
  rw [eX] at SX et1
  refine rc_reprX (d := .list [.int 2, .tuple [.tuple [.int 1, .int 2]]]) (.lst (.of gh) (DtAll.dp (.cons (.int _) (.cons (hg.mono (tp_same sh)) .nil)))) SX fun t2 et2 => ?_
  obtain rfl : t1 = t2 := et1.trans et2.symm
  refine ro_ne rfl ?_
  rw [decide_eq_true rfl]
  refine ⟨false, rfl, iff0 ?_⟩
  tm_at "go"
  refine e_callF dva ?_
  refine a_cons (e_tupD (a_nil ?_))
  refine tupend (ds := []) .nil (Nat.le_of_ble_eq_true rfl) fun y1 Hi si hi => ?_
  refine a_cons (e_tupD (a_nil ?_))
  refine tupend (ds := []) .nil (Nat.le_of_ble_eq_true rfl) fun y2 Hj sj hj => ?_
  refine a_cons (e_tupD ?_)
  tm_at "go"
  refine tupend (ds := [.str "mod", .int (-7), .int 3]) (by tm_at "dts") (Nat.le_of_ble_eq_true rfl) fun y3 Hk sk hk => ?_
  refine a_nil ?_
  refine ⟨_, _, .cons (hi.mono (tp_same (sj.trans sk))) (.cons (hj.mono (tp_same sk)) (.cons hk .nil)), ⟨[], [], exM, rfl, in_M, rfl⟩, fun v5 Hl sl5 h5 => ?_⟩
  rw [ev_M] at h5
  cases h5
  have T4 := T3.same (sf.trans (sg.trans (sh.trans (si.trans (sj.trans (sk.trans sl5))))))
  tm_at "go"
  refine e_callQ0 dte ?_
  exact ⟨rfl, T4.tb, fun H' _ _ => k H'⟩
end K

namespace G
open PySem PySem.Spec PyProof.Rows L2
/-! ### the law's call, beside one empty table of code objects -/
section
variable {P : Program} {w : World} {K : PySem.W.Frag} {mg mb : Str → Option Value} {k : Nat}
variable {fa sc c0 P0 : Addr} {fd : FuncData} {x : Str} {sp : Sp} {st : Shared} {us : List Value} {ns : List Int}
abbrev scrO (us : List Value) : Obj := { cls := .type "list", data := .seq us.toArray }
abbrev tabO : Obj := { cls := .none, data := .fields #[] }
/-- how the call ends -/
abbrev Ended (st : Shared) : Result → Shared → Prop := fun r s2 =>
  r = .ok (.ret (.bool true)) ∧ OldK st.heap s2.heap ∧ s2.os = st.os ∧ AllBare s2.gens
abbrev Bmod (mg : Str → Option Value) (h : Heap) (bm : Addr) (ob : Obj) : Prop := mg "__builtins__" = some (.ref bm) ∧ bm ≠ builtinsNs ∧ h.get? bm = some ob ∧ ob.cls = .type "module" ∧ ob.dict = some builtinsNs ∧ ob.data = .plain
theorem begunT {H : Hp} (kin : K.In st.heap) (nsg : st.heap.Ns mainGlobals mg) (nsb : st.heap.Ns builtinsNs mb)
    (bis : ∀ y : Str, y ≠ "__name__" → mb y = bootBuiltins y) (lim : st.heap.NoLimit) (gens : st.gens = #[])
    (obj : st.heap.get? sc = some (scrO us)) (ars : IntsAre us ns) (few : ns.length ≤ sizeLine) (room : Room k callerA)
    (emp : st.heap.get? P0 = some tabO) (out : K.lookup P0 = none) (hd : PySem.W.codeHdIn K c0 P0 = true) {bm : Addr} {ob : Obj} (B : Bmod mg st.heap bm ob)
    (F : ∀ bs : Heap, K.In bs → bs.Ns mainGlobals mg → LamX.TabB bs mg c0 P0 → FnQ P w K mg bs CX0 k fa fd [x] sp)
    (bnd : ∀ (s : Shared) (u : Value), BindsTo s fd ⟨[u], []⟩ [(x, u)])
    (seen : ∀ b u, H b = some u → (b = sc ∧ K.lookup sc = none ∧ u = .frz (scrO us) (.lst (ns.map V.int))) ∨ (b = P0 ∧ u = .tbl #[])) (tb : H P0 = some (.tbl #[]))
    (want : sp [.ref sc] H (fun v _ => v = .bl true) fun _ _ _ => False) :
    codeAny (model P w) callerA (.call (.ref fa) ⟨[.ref sc], []⟩) (Ended st) st := by
  have clear : ∀ {b : Addr}, b ≠ sc → b ≠ P0 → H b = none := fun {b} nb nP => by
    cases e : H b with
    | none => rfl
    | some u =>
      rcases seen b u e with ⟨q, _⟩ | ⟨q, _⟩
      · exact absurd q nb
      · exact absurd q nP
  have apart : sc ≠ P0 := fun q => by
    subst q
    have e := obj.symm.trans emp
    cases e
  have shown : ∀ {b : Addr} {o : Obj}, st.heap.get? b = some o → (∀ vs n, o.data ≠ .seq vs n) → (∀ vs, o.data ≠ .fields vs) → H b = none := fun {b o} e h1 h2 => by
    refine clear (fun q => ?_) fun q => ?_
    · subst q
      cases obj.symm.trans e
      exact h1 _ _ rfl
    · subst q
      cases emp.symm.trans e
      exact h2 _ rfl
  have ofd : ∀ {b : Addr} {o : Obj} {es : Array DictEntry} {ep : Nat}, st.heap.get? b = some o → o.data = .dict es ep → H b = none := fun {b o es ep} e d =>
    shown e (fun vs n z => by rw [d] at z; cases z) fun vs z => by rw [d] at z; cases z
  have far : ∀ {b : Addr} {m : Str → Option Value}, st.heap.Ns b m → (hidT st.heap H).Ns b m := by
    rintro b m ⟨o, es, ep, e, isd, r⟩
    exact ⟨o, es, ep, hidT_get e (ofd e isd), isd, r⟩
  have gP : mainGlobals ≠ P0 := fun q => by
    obtain ⟨o, es, ep, e, isd, _⟩ := nsg
    rw [q] at e
    cases emp.symm.trans e
    have isd2 : Data.fields #[] = Data.dict es ep := isd
    cases isd2
  have mod : Mod K mg (hidT st.heap H) := by
    refine ⟨fun b o e => hidT_get (kin b o e) ?_, far nsg, ⟨mb, far nsb, bis⟩, ?_⟩
    · cases q : H b with
      | none => rfl
      | some u =>
        rcases seen b u q with ⟨rfl, non, _⟩ | ⟨rfl, _⟩
        · cases non.symm.trans e
        · cases out.symm.trans e
    · obtain ⟨mc, l1, l2⟩ := lim
      exact ⟨mc, far l1, l2⟩
  have laid : HOk P w H st.heap := fun b u q => by
    rcases seen b u q with ⟨rfl, _, rfl⟩ | ⟨rfl, rfl⟩
    · exact ⟨obj, by rw [List.length_map]; exact few, us, _, vals_ints ars, obj⟩
    · exact emp
  have env : Env0 P w K mg (hidT st.heap H) callerA [] st H :=
    { frames := rfl
      mod := mod
      bs := fun _ _ => of_hidT
      bsz := Nat.le_of_eq (hidT_size ..)
      funs := trivial
      frf := fun b q => absurd (show b ∈ ([] : List Addr) from q) List.not_mem_nil
      hok := laid
      bare := .of_eq gens }
  obtain ⟨b1, b2, b3, b4, b5, b6⟩ := B
  have TB : LamX.TabB (hidT st.heap H) mg c0 P0 := by
    refine ⟨PySem.W.codeHd_of_K mod.kin hd, ⟨bm, ob, b1, b2, fun q => ?_, fun q => ?_, hidT_get b3 (shown b3 (fun vs n z => ?_) fun vs z => ?_), b4, b5, b6⟩, gP⟩
    · obtain ⟨o, es, ep, e, isd, _⟩ := nsg
      rw [q, e] at b3
      cases b3
      rw [isd] at b6
      cases b6
    · rw [q, emp] at b3
      cases b3
      cases b6
    · rw [b6] at z; cases z
    · rw [b6] at z; cases z
  have run := (F _ mod.kin mod.glob TB).run callerA [] st H ⟨[.ref sc], []⟩ [.ref sc] [.ref sc] _ _ rfl room env (bnd st _) (.cons rfl .nil) want
  refine codeAny_mono run fun r s2 z => ?_
  match r, z with
  | .ok (.ret u), ⟨v, H2, os2, bare2, un2, laid2, rv2, q2⟩ =>
    obtain rfl : v = .bl true := q2
    obtain rfl : u = Value.bool true := rv2
    obtain ⟨more, grown⟩ := un2.tbls P0 #[] tb
    have now : s2.heap.get? P0 = some { cls := .none, data := .fields more } := by
      have z := laid2 P0 _ grown
      rw [Array.empty_append] at z
      exact z
    have same : ∀ b o, b ≠ P0 → st.heap.get? b = some o → s2.heap.get? b = some o := fun b o nP e => by
      cases q : H b with
      | none => exact un2.keep b o e q (fun m => absurd (show b ∈ ([] : List Addr) from m) List.not_mem_nil) List.not_mem_nil
      | some y =>
        rcases seen b y q with ⟨rfl, _, rfl⟩ | ⟨rfl, _⟩
        · obtain ⟨e2, _⟩ := laid2 b _ (un2.frzs b _ _ q)
          cases obj.symm.trans e
          exact e2
        · exact absurd rfl nP
    have isT := ((PySem.W.codeHd_of_K kin hd).tab emp).isCodeTable
    refine ⟨rfl, ⟨fun b o e => ?_, fun b o e => ?_⟩, os2, bare2⟩
    · by_cases nP : b = P0
      · subst nP
        cases emp.symm.trans e
        exact .inr (.inl ⟨isT, rfl, #[], more, rfl, by rw [Array.empty_append]; exact now⟩)
      · exact .inl (same b o nP e)
    · by_cases nP : b = P0
      · subst nP
        exact ⟨_, now⟩
      · exact ⟨o, same b o nP e⟩
theorem begunAllT (kin : K.In st.heap) (nsg : st.heap.Ns mainGlobals mg) (nsb : st.heap.Ns builtinsNs mb)
    (bis : ∀ y : Str, y ≠ "__name__" → mb y = bootBuiltins y) (lim : st.heap.NoLimit) (gens : st.gens = #[])
    (obj : st.heap.get? sc = some (scrO us)) (ars : IntsAre us ns) (few : ns.length ≤ sizeLine) (room : Room k callerA)
    (emp : st.heap.get? P0 = some tabO) (out : K.lookup P0 = none) (hd : PySem.W.codeHdIn K c0 P0 = true) {bm : Addr} {ob : Obj} (B : Bmod mg st.heap bm ob)
    (F : ∀ bs : Heap, K.In bs → bs.Ns mainGlobals mg → LamX.TabB bs mg c0 P0 → FnQ P w K mg bs CX0 k fa fd [x] sp)
    (bnd : ∀ (s : Shared) (u : Value), BindsTo s fd ⟨[u], []⟩ [(x, u)])
    (want : ∀ H : Hp, SqL K H sc (ns.map V.int) → H P0 = some (.tbl #[]) → sp [.ref sc] H (fun v _ => v = .bl true) fun _ _ _ => False) :
    codeAny (model P w) callerA (.call (.ref fa) ⟨[.ref sc], []⟩) (Ended st) st := by
  have apart : P0 ≠ sc := fun q => by
    subst q
    have e := obj.symm.trans emp
    cases e
  cases lk : K.lookup sc with
  | none =>
    let H1 : Hp := fun b => if b = sc then some (.frz (scrO us) (.lst (ns.map V.int))) else if b = P0 then some (.tbl #[]) else none
    have h1 : H1 sc = some (.frz (scrO us) (.lst (ns.map V.int))) := if_pos rfl
    have h2 : H1 P0 = some (.tbl #[]) := (if_neg apart).trans (if_pos rfl)
    refine begunT (H := H1) kin nsg nsb bis lim gens obj ars few room emp out hd B F bnd (fun b u q => ?_) h2 (want H1 (.inl (.inr ⟨_, h1⟩)) h2)
    by_cases e : b = sc
    · subst e
      exact .inl ⟨rfl, lk, Option.some.inj (q.symm.trans h1)⟩
    · by_cases e2 : b = P0
      · subst e2
        exact .inr ⟨rfl, Option.some.inj (q.symm.trans h2)⟩
      · have q2 : H1 b = none := (if_neg e).trans (if_neg e2)
        cases q2.symm.trans q
  | some o =>
    have len := ars.length
    cases obj.symm.trans (kin sc o lk)
    let H1 : Hp := fun b => if b = P0 then some (.tbl #[]) else none
    have h2 : H1 P0 = some (.tbl #[]) := if_pos rfl
    have sq : SqL K H1 sc (ns.map V.int) := by
      refine .inr ⟨_, us.toArray, _, lk, rfl, rfl, rfl, ?_, ?_⟩
      · rw [List.size_toArray, len]
        exact few
      · simpa using vals_ints ars
    refine begunT (H := H1) kin nsg nsb bis lim gens obj ars few room emp out hd B F bnd (fun b u q => ?_) h2 (want H1 sq h2)
    by_cases e2 : b = P0
    · subst e2
      exact .inr ⟨rfl, Option.some.inj (q.symm.trans h2)⟩
    · have q2 : H1 b = none := if_neg e2
      cases q2.symm.trans q
end
theorem walk_begunT {l : PySem.W.OpenLaw} {n k : Nat} {q : Program} {loose : List Str} {d : DefRec} {x : Str}
    {XP : (Str → Option Value) → Heap → Prop} {YP : World → Heap → Prop} (most : l.most = some n) (small : n ≤ sizeLine) (nod : d.params.defaults = [])
    (room : Room k callerA) (F : ∀ (w : World) (mg : Str → Option Value) (fa : Addr) (h : Heap), YP w h → h.Ns mainGlobals mg →
      mg d.name = some (.ref fa) → ∃ (K : PySem.W.Frag) (fd : FuncData) (sp : Sp) (c0 P0 : Addr), K.In h ∧ h.get? P0 = some tabO ∧ K.lookup P0 = none ∧ PySem.W.codeHdIn K c0 P0 = true ∧
        (∀ (s : Shared) (u : Value), BindsTo s fd ⟨[u], []⟩ [(x, u)]) ∧
        (∀ (H : Hp) (a : Addr) (ns : List Int), ns.length ≤ n → SqL K H a (ns.map V.int) → H P0 = some (.tbl #[]) →
          sp [.ref a] H (fun v _ => v = .bl true) fun _ _ _ => False) ∧
        ∀ bs : Heap, K.In bs → bs.Ns mainGlobals mg → LamX.TabB bs mg c0 P0 → FnQ l.prog w K mg bs CX0 k fa fd [x] sp) :
    PySem.W.WalkO q loose XP YP l.row.toRowW d [] (fun f vs => PySem.call f vs) := by
  refine Att.attach_call most nod ?_
  intro w s0 s1 mg mb fa o pm cd doc a vs ns T Y _ _ _ hmg obj ars len gens
  obtain ⟨K, fd, sp, c0, P0, kin, emp, out, hd, bnd, want, ok⟩ := F w mg fa _ Y T.T.g hmg
  obtain ⟨bm, ob, B⟩ := T.T.bmain
  exact begunAllT kin T.T.g T.T.b T.T.builtins T.T.nolimit gens obj ars (Nat.le_trans len small) room emp out hd B ok bnd fun H sq t => want H a ns len sq t
end G

namespace K
open PySem PySem.Spec PyProof.Rows L2 LamX G
theorem fun_of {F : PySem.W.Frag} {x qual : Str} {st : Stmt} {f : Addr} {fd : FuncData} {kws : List (Str × V)} (z : FunD F x qual (defArgs st) (defBody st) (defScope st) [] kws f fd) : Fun F x qual st f fd := by
  obtain ⟨oc, od, dV, kV, doc, pm, an, cdv, ct, osl, e, lk, hcd, hD, _⟩ := z.ex
  rcases hD with ⟨_, rfl⟩ | ⟨h, _⟩
  · exact ⟨⟨oc, od, kV, doc, pm, an, cdv, ct, osl, e, lk, hcd⟩, z.kp⟩
  · exact absurd rfl h
theorem code_of {F : PySem.W.Frag} {x qual : Str} {st : Stmt} {p : He.Defn} {fd : FuncData} {kws : List (Str × V)} (z : FunD F x qual (defArgs st) (defBody st) (defScope st) [] kws (He.fAd F p) fd) : fd.code = .ref (He.cT F p).1 := by
  obtain ⟨oc, od, dV, kV, doc, pm, an, cdv, ct, osl, rfl, lk, hcd, _, _⟩ := z.ex
  obtain ⟨c, rfl⟩ := He.codeIn_ref hcd
  exact congrArg Value.ref (He.codeOf_eq lk rfl).symm
theorem dc_of {M : Md} {x : Str} {st : Stmt} {f : Addr} {fd : FuncData} {ps : List Str} {k : Nat} {sp : Sp} (z : FunD M.K x x (defArgs st) (defBody st) (defScope st) [] [] f fd) (hm : M.mg x = some (.ref f))
    (hb : ∀ (kV doc pm : Value) (an : Option Addr) (cdv ct : Value) (us : List Value), us.length = ps.length → bindArgs (PySem.W.fnOf x x (defArgs st) (defBody st) (defScope st) .none kV doc pm an cdv ct) ⟨us, []⟩ = pure (ps.zip us))
    (ok : Fun M.K x x st f fd → FnG M.prog M.w M.K M.mg M.base CX0 k f fd ps sp) : Dc M x ps k sp := ⟨f, fd, ok (fun_of z), hm, z.kp, z.bindsN hb⟩
theorem kw_ofG {K : PySem.W.Frag} {x : Str} {st : Stmt} {f : Addr} {fd : FuncData} {kws : List (Str × V)} {ag : Args} {bs : List (Str × Value)} (z : FunD K x x (defArgs st) (defBody st) (defScope st) [] kws f fd)
    (h : ∀ (kV doc pm : Value) (an : Option Addr) (cdv ct : Value), bindArgs (PySem.W.fnOf x x (defArgs st) (defBody st) (defScope st) .none kV doc pm an cdv ct) ag = pure bs) (s : Shared) : BindsTo s fd ag bs := by
  obtain ⟨_, _, _, kV, doc, pm, an, cdv, ct, _, e, _, _, hD, _⟩ := z.ex
  subst e
  rcases hD with ⟨_, e⟩ | ⟨e, _⟩
  · subst e
    exact .of_eq (h kV doc pm an cdv ct)
  · exact absurd rfl e
set_option maxHeartbeats 4000000 in
theorem whole {M : Md} (b : Bl M) (rp : M.mg "repr" = none) (en : M.mg "enumerate" = none) (lz : Lz M) {CO CP CQ CT CI CX' : Addr} (hc : Hc M.K M.mg (uC M.K) (He.ma M.K (uC M.K) "__init__") CO CP CQ CT CI CX') (TB : TabB M.base M.mg (He.cT M.K own0).1 (He.cT M.K own0).2)
    (D : ∀ (i : Nat) (d : He.DefD), fns[i]? = some d → ∃ fd, FunD M.K d.name d.qual d.params d.body d.scope (d.dvs M.K) (d.kws M.K) (He.fAd M.K d.at_) fd) (g : ∀ (i : Nat) (x : Str), fas[i]? = some (.glo x) → M.mg x = some (.ref (He.ga M.K x)))
    {fd : FuncData} (zl : FunD M.K "law" "law" (defArgs s_law) (defBody s_law) (defScope s_law) [] [] (He.ga M.K "law") fd) : FnQ M.prog M.w M.K M.mg M.base CX0 23 (He.ga M.K "law") fd ["_law_script"] (spLaw (He.cT M.K own0).2 M.K) := by
  obtain ⟨w_row_width, z_row_width⟩ : ∃ fd, FunD M.K "row_width" "row_width" (defArgs s_row_width) (defBody s_row_width) (defScope s_row_width) [] [] (He.ga M.K "row_width") fd := D 0 _ rfl
  have m_row_width : M.mg "row_width" = some (.ref (He.ga M.K "row_width")) := g 0 _ rfl
  obtain ⟨w_cell_names, z_cell_names⟩ : ∃ fd, FunD M.K "cell_names" "cell_names" (defArgs s_cell_names) (defBody s_cell_names) (defScope s_cell_names) [] [] (He.ga M.K "cell_names") fd := D 1 _ rfl
  have m_cell_names : M.mg "cell_names" = some (.ref (He.ga M.K "cell_names")) := g 1 _ rfl
  obtain ⟨w_cell_places, z_cell_places⟩ : ∃ fd, FunD M.K "cell_places" "cell_places" (defArgs s_cell_places) (defBody s_cell_places) (defScope s_cell_places) [] [] (He.ga M.K "cell_places") fd := D 2 _ rfl
  have m_cell_places : M.mg "cell_places" = some (.ref (He.ga M.K "cell_places")) := g 2 _ rfl
  obtain ⟨w_cell_ranges, z_cell_ranges⟩ : ∃ fd, FunD M.K "cell_ranges" "cell_ranges" (defArgs s_cell_ranges) (defBody s_cell_ranges) (defScope s_cell_ranges) [] [] (He.ga M.K "cell_ranges") fd := D 3 _ rfl
  have m_cell_ranges : M.mg "cell_ranges" = some (.ref (He.ga M.K "cell_ranges")) := g 3 _ rfl
  obtain ⟨w_found_index, z_found_index⟩ : ∃ fd, FunD M.K "found_index" "found_index" (defArgs s_found_index) (defBody s_found_index) (defScope s_found_index) [] [] (He.ga M.K "found_index") fd := D 4 _ rfl
  have m_found_index : M.mg "found_index" = some (.ref (He.ga M.K "found_index")) := g 4 _ rfl
  obtain ⟨w_cell_index, z_cell_index⟩ : ∃ fd, FunD M.K "cell_index" "cell_index" (defArgs s_cell_index) (defBody s_cell_index) (defScope s_cell_index) [] [("key", V.non)] (He.ga M.K "cell_index") fd := D 5 _ rfl
  have m_cell_index : M.mg "cell_index" = some (.ref (He.ga M.K "cell_index")) := g 5 _ rfl
  obtain ⟨w_value_in, z_value_in⟩ : ∃ fd, FunD M.K "value_in" "value_in" (defArgs s_value_in) (defBody s_value_in) (defScope s_value_in) [] [] (He.ga M.K "value_in") fd := D 6 _ rfl
  have m_value_in : M.mg "value_in" = some (.ref (He.ga M.K "value_in")) := g 6 _ rfl
  obtain ⟨w_looked_at, z_looked_at⟩ : ∃ fd, FunD M.K "looked_at" "looked_at" (defArgs s_looked_at) (defBody s_looked_at) (defScope s_looked_at) [] [] (He.ga M.K "looked_at") fd := D 7 _ rfl
  have m_looked_at : M.mg "looked_at" = some (.ref (He.ga M.K "looked_at")) := g 7 _ rfl
  obtain ⟨w_first_looks, z_first_looks⟩ : ∃ fd, FunD M.K "first_looks" "first_looks" (defArgs s_first_looks) (defBody s_first_looks) (defScope s_first_looks) [] [] (He.ga M.K "first_looks") fd := D 8 _ rfl
  have m_first_looks : M.mg "first_looks" = some (.ref (He.ga M.K "first_looks")) := g 8 _ rfl
  obtain ⟨w_evaluated, z_evaluated⟩ : ∃ fd, FunD M.K "evaluated" "evaluated" (defArgs s_evaluated) (defBody s_evaluated) (defScope s_evaluated) [] [] (He.ga M.K "evaluated") fd := D 9 _ rfl
  have m_evaluated : M.mg "evaluated" = some (.ref (He.ga M.K "evaluated")) := g 9 _ rfl
  obtain ⟨w_keyed_index, z_keyed_index⟩ : ∃ fd, FunD M.K "keyed_index" "keyed_index" (defArgs s_keyed_index) (defBody s_keyed_index) (defScope s_keyed_index) [] [] (He.ga M.K "keyed_index") fd := D 10 _ rfl
  have m_keyed_index : M.mg "keyed_index" = some (.ref (He.ga M.K "keyed_index")) := g 10 _ rfl
  obtain ⟨w__lazy_value, z__lazy_value⟩ : ∃ fd, FunD M.K "_lazy_value" "_lazy_value" (defArgs s__lazy_value) (defBody s__lazy_value) (defScope s__lazy_value) [] [] (He.ga M.K "_lazy_value") fd := D 11 _ rfl
  have m__lazy_value : M.mg "_lazy_value" = some (.ref (He.ga M.K "_lazy_value")) := g 11 _ rfl
  obtain ⟨w__full_value, z__full_value⟩ : ∃ fd, FunD M.K "_full_value" "_full_value" (defArgs s__full_value) (defBody s__full_value) (defScope s__full_value) [] [] (He.ga M.K "_full_value") fd := D 12 _ rfl
  have m__full_value : M.mg "_full_value" = some (.ref (He.ga M.K "_full_value")) := g 12 _ rfl
  obtain ⟨w__of_one, z__of_one⟩ : ∃ fd, FunD M.K "_of_one" "_of_one" (defArgs s__of_one) (defBody s__of_one) (defScope s__of_one) [] [] (He.ga M.K "_of_one") fd := D 13 _ rfl
  have m__of_one : M.mg "_of_one" = some (.ref (He.ga M.K "_of_one")) := g 13 _ rfl
  obtain ⟨w_value_of_two, z_value_of_two⟩ : ∃ fd, FunD M.K "value_of_two" "value_of_two" (defArgs s_value_of_two) (defBody s_value_of_two) (defScope s_value_of_two) [] [] (He.ga M.K "value_of_two") fd := D 14 _ rfl
  have m_value_of_two : M.mg "value_of_two" = some (.ref (He.ga M.K "value_of_two")) := g 14 _ rfl
  obtain ⟨w__compared, z__compared⟩ : ∃ fd, FunD M.K "_compared" "_compared" (defArgs s__compared) (defBody s__compared) (defScope s__compared) [] [] (He.ga M.K "_compared") fd := D 15 _ rfl
  have m__compared : M.mg "_compared" = some (.ref (He.ga M.K "_compared")) := g 15 _ rfl
  obtain ⟨w__law_feed, z__law_feed⟩ : ∃ fd, FunD M.K "_law_feed" "_law_feed" (defArgs s__law_feed) (defBody s__law_feed) (defScope s__law_feed) [] [] (He.ga M.K "_law_feed") fd := D 16 _ rfl
  have m__law_feed : M.mg "_law_feed" = some (.ref (He.ga M.K "_law_feed")) := g 16 _ rfl
  obtain ⟨w__law_draw, z__law_draw⟩ : ∃ fd, FunD M.K "_law_draw" "_law_draw" (defArgs s__law_draw) (defBody s__law_draw) (defScope s__law_draw) [] [] (He.ga M.K "_law_draw") fd := D 17 _ rfl
  have m__law_draw : M.mg "_law_draw" = some (.ref (He.ga M.K "_law_draw")) := g 17 _ rfl
  obtain ⟨w__law_plans, z__law_plans⟩ : ∃ fd, FunD M.K "_law_plans" "_law_plans" (defArgs s__law_plans) (defBody s__law_plans) (defScope s__law_plans) [] [] (He.ga M.K "_law_plans") fd := D 18 _ rfl
  have m__law_plans : M.mg "_law_plans" = some (.ref (He.ga M.K "_law_plans")) := g 18 _ rfl
  obtain ⟨w__law_spots, z__law_spots⟩ : ∃ fd, FunD M.K "_law_spots" "_law_spots" (defArgs s__law_spots) (defBody s__law_spots) (defScope s__law_spots) [] [] (He.ga M.K "_law_spots") fd := D 19 _ rfl
  have m__law_spots : M.mg "_law_spots" = some (.ref (He.ga M.K "_law_spots")) := g 19 _ rfl
  obtain ⟨w__law_ranges, z__law_ranges⟩ : ∃ fd, FunD M.K "_law_ranges" "_law_ranges" (defArgs s__law_ranges) (defBody s__law_ranges) (defScope s__law_ranges) [] [] (He.ga M.K "_law_ranges") fd := D 20 _ rfl
  have m__law_ranges : M.mg "_law_ranges" = some (.ref (He.ga M.K "_law_ranges")) := g 20 _ rfl
  obtain ⟨w__law_states, z__law_states⟩ : ∃ fd, FunD M.K "_law_states" "_law_states" (defArgs s__law_states) (defBody s__law_states) (defScope s__law_states) [] [] (He.ga M.K "_law_states") fd := D 21 _ rfl
  have m__law_states : M.mg "_law_states" = some (.ref (He.ga M.K "_law_states")) := g 21 _ rfl
  obtain ⟨w__law_some, z__law_some⟩ : ∃ fd, FunD M.K "_law_some" "_law_some" (defArgs s__law_some) (defBody s__law_some) (defScope s__law_some) [] [] (He.ga M.K "_law_some") fd := D 22 _ rfl
  have m__law_some : M.mg "_law_some" = some (.ref (He.ga M.K "_law_some")) := g 22 _ rfl
  obtain ⟨w__law_at, z__law_at⟩ : ∃ fd, FunD M.K "_law_at" "_law_at" (defArgs s__law_at) (defBody s__law_at) (defScope s__law_at) [] [] (He.ga M.K "_law_at") fd := D 23 _ rfl
  have m__law_at : M.mg "_law_at" = some (.ref (He.ga M.K "_law_at")) := g 23 _ rfl
  obtain ⟨w__law_lazy, z__law_lazy⟩ : ∃ fd, FunD M.K "_law_lazy" "_law_lazy" (defArgs s__law_lazy) (defBody s__law_lazy) (defScope s__law_lazy) [] [] (He.ga M.K "_law_lazy") fd := D 24 _ rfl
  have m__law_lazy : M.mg "_law_lazy" = some (.ref (He.ga M.K "_law_lazy")) := g 24 _ rfl
  obtain ⟨w__law_value, z__law_value⟩ : ∃ fd, FunD M.K "_law_value" "_law_value" (defArgs s__law_value) (defBody s__law_value) (defScope s__law_value) [] [] (He.ga M.K "_law_value") fd := D 25 _ rfl
  have m__law_value : M.mg "_law_value" = some (.ref (He.ga M.K "_law_value")) := g 25 _ rfl
  obtain ⟨w__law_counted, z__law_counted⟩ : ∃ fd, FunD M.K "_law_counted" "_law_counted" (defArgs s__law_counted) (defBody s__law_counted) (defScope s__law_counted) [] [] (He.ga M.K "_law_counted") fd := D 26 _ rfl
  have m__law_counted : M.mg "_law_counted" = some (.ref (He.ga M.K "_law_counted")) := g 26 _ rfl
  obtain ⟨w__law_first_looks, z__law_first_looks⟩ : ∃ fd, FunD M.K "_law_first_looks" "_law_first_looks" (defArgs s__law_first_looks) (defBody s__law_first_looks) (defScope s__law_first_looks) [] [] (He.ga M.K "_law_first_looks") fd := D 27 _ rfl
  have m__law_first_looks : M.mg "_law_first_looks" = some (.ref (He.ga M.K "_law_first_looks")) := g 27 _ rfl
  obtain ⟨w__law_power, z__law_power⟩ : ∃ fd, FunD M.K "_law_power" "_law_power" (defArgs s__law_power) (defBody s__law_power) (defScope s__law_power) [] [] (He.ga M.K "_law_power") fd := D 28 _ rfl
  have m__law_power : M.mg "_law_power" = some (.ref (He.ga M.K "_law_power")) := g 28 _ rfl
  obtain ⟨w__law_menu, z__law_menu⟩ : ∃ fd, FunD M.K "_law_menu" "_law_menu" (defArgs s__law_menu) (defBody s__law_menu) (defScope s__law_menu) [] [] (He.ga M.K "_law_menu") fd := D 29 _ rfl
  have m__law_menu : M.mg "_law_menu" = some (.ref (He.ga M.K "_law_menu")) := g 29 _ rfl
  obtain ⟨w__law_rows, z__law_rows⟩ : ∃ fd, FunD M.K "_law_rows" "_law_rows" (defArgs s__law_rows) (defBody s__law_rows) (defScope s__law_rows) [] [] (He.ga M.K "_law_rows") fd := D 30 _ rfl
  have m__law_rows : M.mg "_law_rows" = some (.ref (He.ga M.K "_law_rows")) := g 30 _ rfl
  obtain ⟨w__law_leaf, z__law_leaf⟩ : ∃ fd, FunD M.K "_law_leaf" "_law_leaf" (defArgs s__law_leaf) (defBody s__law_leaf) (defScope s__law_leaf) [] [] (He.ga M.K "_law_leaf") fd := D 31 _ rfl
  have m__law_leaf : M.mg "_law_leaf" = some (.ref (He.ga M.K "_law_leaf")) := g 31 _ rfl
  obtain ⟨w__law_formula, z__law_formula⟩ : ∃ fd, FunD M.K "_law_formula" "_law_formula" (defArgs s__law_formula) (defBody s__law_formula) (defScope s__law_formula) [] [] (He.ga M.K "_law_formula") fd := D 32 _ rfl
  have m__law_formula : M.mg "_law_formula" = some (.ref (He.ga M.K "_law_formula")) := g 32 _ rfl
  obtain ⟨w__law_samples, z__law_samples⟩ : ∃ fd, FunD M.K "_law_samples" "_law_samples" (defArgs s__law_samples) (defBody s__law_samples) (defScope s__law_samples) [] [] (He.ga M.K "_law_samples") fd := D 33 _ rfl
  have m__law_samples : M.mg "_law_samples" = some (.ref (He.ga M.K "_law_samples")) := g 33 _ rfl
  obtain ⟨w__law_heard, z__law_heard⟩ : ∃ fd, FunD M.K "_law_heard" "_law_heard" (defArgs s__law_heard) (defBody s__law_heard) (defScope s__law_heard) [] [] (He.ga M.K "_law_heard") fd := D 34 _ rfl
  have m__law_heard : M.mg "_law_heard" = some (.ref (He.ga M.K "_law_heard")) := g 34 _ rfl
  obtain ⟨w__law_spots_right, z__law_spots_right⟩ : ∃ fd, FunD M.K "_law_spots_right" "_law_spots_right" (defArgs s__law_spots_right) (defBody s__law_spots_right) (defScope s__law_spots_right) [] [] (He.ga M.K "_law_spots_right") fd := D 35 _ rfl
  have m__law_spots_right : M.mg "_law_spots_right" = some (.ref (He.ga M.K "_law_spots_right")) := g 35 _ rfl
  obtain ⟨w__law_formulas, z__law_formulas⟩ : ∃ fd, FunD M.K "_law_formulas" "_law_formulas" (defArgs s__law_formulas) (defBody s__law_formulas) (defScope s__law_formulas) [] [] (He.ga M.K "_law_formulas") fd := D 36 _ rfl
  have m__law_formulas : M.mg "_law_formulas" = some (.ref (He.ga M.K "_law_formulas")) := g 36 _ rfl
  obtain ⟨w__law_ten_right, z__law_ten_right⟩ : ∃ fd, FunD M.K "_law_ten_right" "_law_ten_right" (defArgs s__law_ten_right) (defBody s__law_ten_right) (defScope s__law_ten_right) [] [] (He.ga M.K "_law_ten_right") fd := D 37 _ rfl
  have m__law_ten_right : M.mg "_law_ten_right" = some (.ref (He.ga M.K "_law_ten_right")) := g 37 _ rfl
  obtain ⟨w_U_init, z_U_init⟩ : ∃ fd, FunD M.K "__init__" "UnknownCell.__init__" (defArgs s_U_init) (defBody s_U_init) (defScope s_U_init) [] [] (He.ma M.K (uC M.K) "__init__") fd := D 39 _ rfl
  have dw := dc_of (st := s_row_width) z_row_width m_row_width (fun _ _ _ _ _ _ us hl => match us, hl with | [_], _ => rfl) (fun F => ok_width F b)
  have dfi := dc_of (st := s_found_index) z_found_index m_found_index (fun _ _ _ _ _ _ us hl => match us, hl with | [_, _, _], _ => rfl) (fun F => ok_found F dw)
  have dr := dc_of (st := s_cell_ranges) z_cell_ranges m_cell_ranges (fun _ _ _ _ _ _ us hl => match us, hl with | [_], _ => rfl) (fun F => ok_ranges F b dw)
  have dpl0 := dc_of (st := s_cell_places) z_cell_places m_cell_places (fun _ _ _ _ _ _ us hl => match us, hl with | [_], _ => rfl) (fun F => ok_places F b)
  have dnm := dc_of (st := s_cell_names) z_cell_names m_cell_names (fun _ _ _ _ _ _ us hl => match us, hl with | [_], _ => rfl) (fun F => ok_names F b dpl0)
  have dcm := dc_of (st := s__compared) z__compared m__compared (fun _ _ _ _ _ _ us hl => match us, hl with | [_, _, _], _ => rfl) (fun F => ok_cmp F b)
  have d1 := dc_of (st := s__of_one) z__of_one m__of_one (fun _ _ _ _ _ _ us hl => match us, hl with | [_, _], _ => rfl) (fun F => ok_one F b)
  have d2 := dc_of (st := s_value_of_two) z_value_of_two m_value_of_two (fun _ _ _ _ _ _ us hl => match us, hl with | [_, _, _], _ => rfl) (fun F => ok_two F b dcm)
  obtain ⟨ixd, ixv, ixb⟩ := z_cell_index.binds0 (ps := ["cells", "name", "key"]) 2 (by simp) rfl (fun Dk doc pm an cdv ct us ks hu hk => match us, ks, hu, hk with | [_, _], [_], _, _ => ⟨_, _, _, _, _, _, rfl, rfl, rfl⟩)
  have dx : dcIx M := ⟨_, _, ixd, ok_index (fun_of z_cell_index) b dfi, m_cell_index, z_cell_index.kp, ixb, ixv⟩
  have de : ∀ n, dcEv M n := fun n => Nat.rec (motive := fun n => dcEv M n) (dc_of (st := s_evaluated) z_evaluated m_evaluated (fun _ _ _ _ _ _ us hl => match us, hl with | [_, _, _], _ => rfl) (fun F => ok_ev 0 F b lz dx (fun m h => by omega))) (fun n ih => dc_of (st := s_evaluated) z_evaluated m_evaluated (fun _ _ _ _ _ _ us hl => match us, hl with | [_, _, _], _ => rfl) (fun F => ok_ev (n + 1) F b lz dx (fun m h => match m, Nat.succ.inj h with | _, rfl => ⟨dc_of (st := s_keyed_index) z_keyed_index m_keyed_index (fun _ _ _ _ _ _ us hl => match us, hl with | [_, _, _, _], _ => rfl) (fun F => ok_keyed n F b dfi ih), dc_of (st := s__lazy_value) z__lazy_value m__lazy_value (fun _ _ _ _ _ _ us hl => match us, hl with | [_, _, _], _ => rfl) (fun F => ok_lazy n F b ih), dc_of (st := s__full_value) z__full_value m__full_value (fun _ _ _ _ _ _ us hl => match us, hl with | [_, _, _], _ => rfl) (fun F => ok_full n F b ih d1 d2)⟩))) n
  have dfl0 := dc_of (st := s_first_looks) z_first_looks m_first_looks (fun _ _ _ _ _ _ us hl => match us, hl with | [_, _], _ => rfl) (fun F => ok_first F b)
  have dva := dc_of (st := s_value_in) z_value_in m_value_in (fun _ _ _ _ _ _ us hl => match us, hl with | [_, _, _], _ => rfl) (fun F => ok_value 8 F b (de 8))
  have dlo := dc_of (st := s_looked_at) z_looked_at m_looked_at (fun _ _ _ _ _ _ us hl => match us, hl with | [_, _, _], _ => rfl) (fun F => ok_looked 8 F b (de 8) dfl0)
  have dfe := dc_of (st := s__law_feed) z__law_feed m__law_feed (fun _ _ _ _ _ _ us hl => match us, hl with | [_], _ => rfl) (fun F => ok_feed F b)
  have dd := dc_of (st := s__law_draw) z__law_draw m__law_draw (fun _ _ _ _ _ _ us hl => match us, hl with | [_, _], _ => rfl) (fun F => ok_draw F b)
  have dpl := dc_of (st := s__law_plans) z__law_plans m__law_plans (fun _ _ _ _ _ _ us hl => match us, hl with | [], _ => rfl) (fun F => ok_plans F b)
  have dlr := dc_of (st := s__law_ranges) z__law_ranges m__law_ranges (fun _ _ _ _ _ _ us hl => match us, hl with | [_], _ => rfl) (fun F => ok_lranges F b)
  have dst := dc_of (st := s__law_states) z__law_states m__law_states (fun _ _ _ _ _ _ us hl => match us, hl with | [_], _ => rfl) (fun F => ok_states F b dlr)
  have dso := dc_of (st := s__law_some) z__law_some m__law_some (fun _ _ _ _ _ _ us hl => match us, hl with | [_, _], _ => rfl) (fun F => ok_some F b)
  have dpw := dc_of (st := s__law_power) z__law_power m__law_power (fun _ _ _ _ _ _ us hl => match us, hl with | [_, _], _ => rfl) (fun F => ok_power F b)
  have dme := dc_of (st := s__law_menu) z__law_menu m__law_menu (fun _ _ _ _ _ _ us hl => match us, hl with | [_], _ => rfl) (fun F => ok_menu F b dd)
  have dro := dc_of (st := s__law_rows) z__law_rows m__law_rows (fun _ _ _ _ _ _ us hl => match us, hl with | [_, _], _ => rfl) (fun F => ok_rows F b dd dme dpw)
  have dle := dc_of (st := s__law_leaf) z__law_leaf m__law_leaf (fun _ _ _ _ _ _ us hl => match us, hl with | [_, _], _ => rfl) (fun F => ok_leaf F b dd)
  have dfo : ∀ n, dcForm M n := fun n => Nat.rec (motive := fun n => dcForm M n) (dc_of (st := s__law_formula) z__law_formula m__law_formula (fun _ _ _ _ _ _ us hl => match us, hl with | [_, _, _], _ => rfl) (fun F => ok_form 0 F b dd dle dpl (fun m h => by omega))) (fun n ih => dc_of (st := s__law_formula) z__law_formula m__law_formula (fun _ _ _ _ _ _ us hl => match us, hl with | [_, _, _], _ => rfl) (fun F => ok_form (n + 1) F b dd dle dpl (fun m h => match m, Nat.succ.inj h with | _, rfl => ih))) n
  have dsm := dc_of (st := s__law_samples) z__law_samples m__law_samples (fun _ _ _ _ _ _ us hl => match us, hl with | [], _ => rfl) (fun F => ok_samples F b)
  have dsp := dc_of (st := s__law_spots) z__law_spots m__law_spots (fun _ _ _ _ _ _ us hl => match us, hl with | [_], _ => rfl) (fun F => ok_spots F b)
  have dco := dc_of (st := s__law_counted) z__law_counted m__law_counted (fun _ _ _ _ _ _ us hl => match us, hl with | [_, _, _], _ => rfl) (fun F => ok_counted F b)
  have dat := dc_of (st := s__law_at) z__law_at m__law_at (fun _ _ _ _ _ _ us hl => match us, hl with | [_, _, _, _, _], _ => rfl) (fun F => ok_at F b dsp)
  have dvl : ∀ n, dcVal M n := fun n => Nat.rec (motive := fun n => dcVal M n) (dc_of (st := s__law_value) z__law_value m__law_value (fun _ _ _ _ _ _ us hl => match us, hl with | [_, _, _, _], _ => rfl) (fun F => ok_val 0 F b dsp dat dco (fun m h => by omega))) (fun n ih => dc_of (st := s__law_value) z__law_value m__law_value (fun _ _ _ _ _ _ us hl => match us, hl with | [_, _, _, _], _ => rfl) (fun F => ok_val (n + 1) F b dsp dat dco (fun m h => match m, Nat.succ.inj h with | _, rfl => ⟨ih, dc_of (st := s__law_lazy) z__law_lazy m__law_lazy (fun _ _ _ _ _ _ us hl => match us, hl with | [_, _, _, _], _ => rfl) (fun F => ok_laz n F b ih)⟩))) n
  have dff := dc_of (st := s__law_first_looks) z__law_first_looks m__law_first_looks (fun _ _ _ _ _ _ us hl => match us, hl with | [_], _ => rfl) (fun F => ok_lfl F b)
  have dfs := dc_of (st := s__law_formulas) z__law_formulas m__law_formulas (fun _ _ _ _ _ _ us hl => match us, hl with | [_, _], _ => rfl) (fun F => ok_fs F b (dfo 4))
  have bx0 : ∀ (s : Shared) (us : List Value), M.K.In s.heap → us.length = 2 → BindsTo s w_cell_index ⟨us, []⟩ ((["cells", "name", "key"] : List Str).zip (us ++ [Value.none])) := fun s us kin l => match ixd, ixv, ixb with | [_], .cons e .nil, B => by cases e; exact B s us kin (by rw [List.length_append, l]; rfl)
  have FI := ok_uinit (M := M) (fun_of z_U_init) hc.uc
  have bI : Binds M.K w_U_init ["self", "name"] [] := z_U_init.bindsN (fun _ _ _ _ _ _ us hl => match us, hl with | [_, _], _ => rfl)
  have dxE : DcE M "cell_index" ["cells", "name", "key"] 4 (spIdx (uC M.K) M.K) (He.ga M.K "cell_index") w_cell_index := ⟨ok_indexE (fun_of z_cell_index) b dfi hc.uc hc.gU FI bI, m_cell_index, z_cell_index.kp⟩
  have knm : DcK M "cell_names" ["cells"] ["cells"] rev1 2 (spF rNames M.K) := ⟨_, _, fun ws => ws, ok_names (fun_of z_cell_names) b dpl0, m_cell_names, z_cell_names.kp, fun s ws l => match ws, l with | [_], _ => kw_ofG z_cell_names (fun _ _ _ _ _ _ => rfl) s, fun zs ws r _ => r⟩
  have kr : DcK M "cell_ranges" ["cells"] ["cells"] rev1 2 (spF rRanges M.K) := ⟨_, _, fun ws => ws, ok_ranges (fun_of z_cell_ranges) b dw, m_cell_ranges, z_cell_ranges.kp, fun s ws l => match ws, l with | [_], _ => kw_ofG z_cell_ranges (fun _ _ _ _ _ _ => rfl) s, fun zs ws r _ => r⟩
  have dsr : DcQ M "_law_spots_right" ["_law_rows_here"] 7 (spSR (He.cT M.K own0).2 M.K) := ⟨_, _, ok_sr (fun_of z__law_spots_right) (code_of z__law_spots_right) TB b rp (fun_of z__law_heard) hc m__law_heard z__law_heard.kp dlr dsp dnm dr knm kr dxE (fun s us ws _ l1 l2 => match us, ws, l1, l2 with | [_, _], [_], _, _ => kw_ofG z_cell_index (fun _ _ _ _ _ _ => rfl) s) (fun s us ws kin l1 l2 => match ws, l2 with | [], _ => bx0 s us kin l1) (fun s ws l => match ws, l with | [_, _, _], _ => kw_ofG z_cell_index (fun _ _ _ _ _ _ => rfl) s), m__law_spots_right, z__law_spots_right.kp, z__law_spots_right.bindsN (fun _ _ _ _ _ _ us hl => match us, hl with | [_], _ => rfl)⟩
  have dte : DcQ M "_law_ten_right" [] 22 (spTen (He.cT M.K own0).2) := ⟨_, _, ok_ten (fun_of z__law_ten_right) b rp en dst (dvl 8) dff dva dlo dsr, m__law_ten_right, z__law_ten_right.kp, z__law_ten_right.bindsN (fun _ _ _ _ _ _ us hl => match us, hl with | [], _ => rfl)⟩
  have kva : DcK M "value_in" ["cells", "state", "expression"] ["expression", "state", "cells"] revL3 21 (spF (rVal 8) M.K) := ⟨_, _, revL3, ok_value 8 (fun_of z_value_in) b (de 8), m_value_in, z_value_in.kp, fun s ws l => match ws, l with | [_, _, _], _ => kw_ofG z_value_in (fun _ _ _ _ _ _ => rfl) s, fun zs ws r l => match zs, ws, r, l with | [_, _, _], [_, _, _], .cons h1 (.cons h2 (.cons h3 .nil)), _ => .cons h3 (.cons h2 (.cons h1 .nil))⟩
  have klo : DcK M "looked_at" ["cells", "state", "expression"] ["state", "expression", "cells"] rotL3 21 (spZ (rLooked 8) M.K) := ⟨_, _, rotL3, ok_looked 8 (fun_of z_looked_at) b (de 8) dfl0, m_looked_at, z_looked_at.kp, fun s ws l => match ws, l with | [_, _, _], _ => kw_ofG z_looked_at (fun _ _ _ _ _ _ => rfl) s, fun zs ws r l => match zs, ws, r, l with | [_, _, _], [_, _, _], .cons h1 (.cons h2 (.cons h3 .nil)), _ => .cons h3 (.cons h1 (.cons h2 .nil))⟩
  exact ok_law (fun_of zl) b rp en dfe dsm dro dst dsr dfs dso (dvl 8) dff dva dlo kva klo dte
end K

namespace K
open PySem PySem.Spec PyProof.Rows L2 LamX G
theorem mro_ok {C : Addr} {l : List Value} (h : mroB C l = true) : ∃ bm, l = .ref C :: bm ∧ PySem.HandSPX.refsVE bm = true := by
  unfold mroB at h
  split at h
  · rename_i D bm
    obtain ⟨h1, h2⟩ := He.ba h
    obtain rfl : D = C := of_decide_eq_true h1
    exact ⟨bm, rfl, h2⟩
  · cases h
theorem sl_ok {l : List (Option Value)} (h : slB l = true) : ∃ k0 k1 k2 k3 k5, l = [k0, k1, k2, k3, some (.builtin "ValueError.__new__"), k5] := by
  unfold slB at h
  split at h
  · obtain rfl := of_decide_eq_true h
    exact ⟨_, _, _, _, _, rfl⟩
  · cases h
theorem oex_ok {K : PySem.W.Frag} {C : Addr} (h : oexB K C = true) : ∃ nm q N bs bm sn sub ab col dd k0 k1 k2 k3 k5, K.lookup C = some (excClassObj nm q C N bs bm true sn sub ab col dd k0 k1 k2 k3 k5 "ValueError.__new__") ∧ PySem.HandSPX.refsVE bm = true := by
  unfold oexB at h
  cases e : K.lookup C with
  | none => rw [e] at h; cases h
  | some o =>
    rw [e] at h
    obtain ⟨oc, dd, dt, sl⟩ := o
    cases oc <;> cases dt <;> first | (cases h; done) | skip
    rename_i t cd
    obtain ⟨nm, bs, mro, ns, qn, hdct, sn, sub, ab, col, hdel⟩ := cd
    obtain ⟨h1, h⟩ := He.ba h
    obtain ⟨h2, h⟩ := He.ba h
    obtain ⟨h3, h⟩ := He.ba h
    obtain ⟨h4, h5⟩ := He.ba h
    obtain rfl : t = "type" := of_decide_eq_true h1
    obtain rfl : hdct = true := h3
    obtain rfl : hdel = false := by cases hdel with
      | false => rfl
      | true => cases h2
    obtain ⟨l⟩ := sl
    obtain ⟨bm, e1, h7⟩ := mro_ok (show mroB C mro = true from h4)
    obtain ⟨k0, k1, k2, k3, k5, e2⟩ := sl_ok (show slB l = true from h5)
    subst e1 e2
    exact ⟨nm, qn, ns, bs, bm, sn, sub, ab, col, dd, k0, k1, k2, k3, k5, rfl, h7⟩
structure ErrC (K : PySem.W.Frag) (C fI : Addr) (on off : List Addr) : Prop where
  uc : Uc K C fI
  ex : ExcC K C
  xf : XfC K C
  on : ∀ D ∈ on, PySem.W.kitOne K (.ref C) (.ref D) = some true
  off : ∀ D ∈ off, PySem.W.kitOne K (.ref C) (.ref D) = some false
theorem err_ok {K : PySem.W.Frag} {C fI : Addr} {on off : List Addr} (h : errB K C fI on off = true) : ErrC K C fI on off := by
  unfold errB at h
  simp only [Bool.and_eq_true, decide_eq_true_eq, List.all_eq_true] at h
  obtain ⟨h1, h2, h3, h4, h5, h6, h7, h8, h9, h10, h11, h12, h13, h14, h15, h16, h17⟩ := h
  exact ⟨⟨⟨oex_ok h1, h2, h3, h4, h5⟩, h6, h7, h8⟩, ⟨h9, h10, h3, h11, h12, h13, h14, h15⟩, ⟨h9, h10, h3, h11⟩, h16, h17⟩
theorem facts {P : Program} {w : World} {F : PySem.W.Frag} {h : Heap} {mg : Str → Option Value} {f : Addr} (X : F.In h) (N : h.Ns mainGlobals mg) (hf : mg ("law" : Str) = some (.ref f)) (c : He.SaysX fas fns [] [own0] ruleB w h F) :
    ∃ fd : FuncData, (∀ (s : Shared) (v : Value), BindsTo s fd ⟨[v], []⟩ [("_law_script", v)]) ∧ ∀ base : Heap, F.In base → base.Ns mainGlobals mg → TabB base mg (He.cT F own0).1 (He.cT F own0).2 → FnQ P w F mg base CX0 23 f fd ["_law_script"] (spLaw (He.cT F own0).2 F) := by
  have cd : He.SaysD fas fns F := congrArg (fun z : He.AlT => z.1) c.t
  have glo : ∀ (i : Nat) (x : Str), fas[i]? = some (.glo x) → mg x = some (.ref (He.ga F x)) := fun i x hx => He.glo_ok X N (cd.fact i hx)
  have fre : ∀ (i : Nat) (x : Str), fas[i]? = some (.free x) → mg x = none := fun i x hx => He.free_ok X N (cd.fact i hx)
  obtain ⟨fd, zl⟩ : ∃ fd, FunD F "law" "law" (defArgs s_law) (defBody s_law) (defScope s_law) [] [] (He.ga F "law") fd := cd.def_ 38 rfl
  have e := hf.symm.trans (glo 38 _ rfl)
  cases e
  obtain ⟨t1, t2⟩ := He.ba c.more
  obtain ⟨t3, t4⟩ := He.ba t2
  have E := err_ok t3
  refine ⟨fd, fun s v => FunD.bindsA (ps := ["_law_script"]) zl (fun _ _ _ _ _ _ us hl => match us, hl with | [_], _ => rfl) s [v] rfl, fun base _ _ TB => ?_⟩
  have hc : Hc F mg (uC F) (He.ma F (uC F) "__init__") (He.ga F "OrderError") (He.ga F "PaperError") (He.ga F "ProgramError") (He.ga F "TextError") (He.ga F "InvalidPaper") (He.ga F "InvalidText") :=
    ⟨E.uc, E.ex, E.xf, glo 55 _ rfl, glo 56 _ rfl, glo 57 _ rfl, glo 58 _ rfl, glo 59 _ rfl, glo 60 _ rfl, glo 61 _ rfl, of_decide_eq_true t4, E.off _ (.head _), E.on _ (.tail _ (.head _)), E.off _ (.tail _ (.head _)), E.off _ (.tail _ (.tail _ (.head _))), E.off _ (.tail _ (.tail _ (.tail _ (.head _)))), E.on _ (.head _)⟩
  exact whole (M := ⟨P, w, F, mg, base⟩) ⟨fre 39 _ rfl, fre 40 _ rfl, fre 41 _ rfl, fre 42 _ rfl, fre 43 _ rfl, fre 44 _ rfl, fre 45 _ rfl, fre 46 _ rfl, fre 47 _ rfl, fre 48 _ rfl, fre 49 _ rfl, fre 50 _ rfl, fre 51 _ rfl⟩ (fre 53 _ rfl) (fre 52 _ rfl) ⟨_, glo 54 _ rfl, fun H => He.tupB_ok t1 H⟩ hc TB (fun i d hd => cd.def_ i hd) glo zl
end K
open PySem PySem.W PySem.Calls PyProof.Rows
set_option maxHeartbeats 0 in
theorem PySem.Challenge.cw_orderless_k03_cells_and_expressions_holds : PySem.Challenge.rw_orderless_k03_cells_and_expressions.Holds := by
  w_on; o_law
  refine HandSHeadRun.head_any (r := K.Rw) (q := view K.Rw.prog [K.lawAt]) (H := K.ownHook) (ob := K.obT) (M := 9000) (loose := K.loose) (d := HandSHeadRun.topDef K.Rw.prog K.lawAt) (kwd := []) K.obT_eq
    (by kernel_rfl) (fun s => by kernel_rfl) K.topRun (by kernel_rfl) (by kernel_rfl) (by kernel_rfl) (by rfl) (by first | assumption | decide +kernel) (by decide +kernel) ⟨rfl, rfl, rfl, rfl, rfl, by decide +kernel⟩ ?hw ?hc
  case hw => w_witness2
  case hc =>
    refine G.walk_begunT (l := PySem.Challenge.rw_orderless_k03_cells_and_expressions) (n := 63) (k := 23) (x := "_law_script") rfl (by decide) (by kernel_rfl) ⟨rfl, by decide, by decide⟩ ?F
    intro w mg fa h Y N hmg0
    obtain ⟨F, FX, c⟩ := Y
    have nm : (HandSHeadRun.topDef K.Rw.prog K.lawAt).name = ("law" : PySem.Str) := by kernel_rfl
    rw [nm] at hmg0
    obtain ⟨fd, hb, ok⟩ := K.facts (P := PySem.Challenge.rw_orderless_k03_cells_and_expressions.prog) (w := w) FX N hmg0 c
    have own := List.mem_singleton.mpr (rfl : K.own0 = K.own0)
    exact ⟨F, fd, K.spLaw (He.cT F K.own0).2 F, (He.cT F K.own0).1, (He.cT F K.own0).2, FX, c.empty _ own, c.out _ own, c.hd _ own, hb, fun H a ns few is t => ⟨a, ns, rfl, is, few, fun p hp => by rw [List.mem_singleton.mp hp]; exact LamX.TabS.nil t, fun _ => rfl⟩, ok⟩

