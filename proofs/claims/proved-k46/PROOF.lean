import PyProof.Rows.All
import Wide.All
import OpenK.AllK
import Wide.FinOn
import KE.KStateDown
import HandS.Ends
import HandS.Exc
import HandS.WordsExc
import HandS.Defaults
import HandS.Head0
import HandS.Head1
import HandS.Head2
import HandS.HeadHook1
import HandS.HeadHook2
import HandS.HeadHook3
import HandS.HeadHook4
import HandS.Base
import HandS.Call
import HandS.List
import HandS.Comp
import HandS.Dict
import HandS.Iter
import HandS.Words
import HandS.IsInst
import HandS.Wide
import HandS.Flow
import HandS.TupAny
import HandS.Deep
import HandS.Style
import HandS.Zip
import HandS.Text
import HandS.More
import HandS.WordsDict
import HandS.Small
import PyProof.CallFns
import PyProof.ReprRoads
import PyProof.ReprLen
import PyProof.StrLawsRepr
import HandS.Lambda
import HandS.HeadEnd
import PySem.Challenge.RW_orderless_k46_code_by_kind
set_option Elab.async false
set_option linter.all false
set_option maxRecDepth 100000
namespace K
open PySem L2
def top (i : Nat) : Stmt := PySem.Challenge.pw_orderless_k46_code_by_kind.main.body.getD i (.Pass ⟨0, 0, 0, 0⟩)
abbrev s_is_integer : Stmt := top 3
-- 0:thing
abbrev N_is_integer : List Str := ["thing"]
theorem sc_is_integer : FnScope N_is_integer ["thing"] (defScope s_is_integer) := ⟨rfl, rfl, rfl, by decide +kernel, rfl, by decide +kernel, by decide +kernel⟩
abbrev s_is_number : Stmt := top 4
-- 0:thing
abbrev N_is_number : List Str := ["thing"]
theorem sc_is_number : FnScope N_is_number ["thing"] (defScope s_is_number) := ⟨rfl, rfl, rfl, by decide +kernel, rfl, by decide +kernel, by decide +kernel⟩
abbrev s_is_name : Stmt := top 5
-- 0:thing 1:letter
abbrev N_is_name : List Str := ["thing", "letter"]
theorem sc_is_name : FnScope N_is_name ["thing"] (defScope s_is_name) := ⟨rfl, rfl, rfl, by decide +kernel, rfl, by decide +kernel, by decide +kernel⟩
abbrev s_is_code : Stmt := top 10
-- 0:thing 1:part
abbrev N_is_code : List Str := ["thing", "part"]
theorem sc_is_code : FnScope N_is_code ["thing"] (defScope s_is_code) := ⟨rfl, rfl, rfl, by decide +kernel, rfl, by decide +kernel, by decide +kernel⟩
abbrev s__is_instruction : Stmt := top 11
-- 0:thing 1:kinds 2:kind 3:part
abbrev N__is_instruction : List Str := ["thing", "kinds", "kind", "part"]
theorem sc__is_instruction : FnScope N__is_instruction ["thing"] (defScope s__is_instruction) := ⟨rfl, rfl, rfl, by decide +kernel, rfl, by decide +kernel, by decide +kernel⟩
abbrev s__is_part : Stmt := top 12
-- 0:kind 1:part
abbrev N__is_part : List Str := ["kind", "part"]
theorem sc__is_part : FnScope N__is_part ["kind", "part"] (defScope s__is_part) := ⟨rfl, rfl, rfl, by decide +kernel, rfl, by decide +kernel, by decide +kernel⟩
abbrev s__is_place : Stmt := top 13
-- 0:thing
abbrev N__is_place : List Str := ["thing"]
theorem sc__is_place : FnScope N__is_place ["thing"] (defScope s__is_place) := ⟨rfl, rfl, rfl, by decide +kernel, rfl, by decide +kernel, by decide +kernel⟩
abbrev s__law_source : Stmt := top 15
-- 0:_law_script
abbrev N__law_source : List Str := ["_law_script"]
theorem sc__law_source : FnScope N__law_source ["_law_script"] (defScope s__law_source) := ⟨rfl, rfl, rfl, by decide +kernel, rfl, by decide +kernel, by decide +kernel⟩
abbrev s__law_next : Stmt := top 16
-- 0:_law_source_here 1:_law_limit 2:_law_draws 3:_law_digit 4:_law_used 5:_law_cell 6:_law_mixed
abbrev N__law_next : List Str := ["_law_source_here", "_law_limit", "_law_draws", "_law_digit", "_law_used", "_law_cell", "_law_mixed"]
theorem sc__law_next : FnScope N__law_next ["_law_source_here", "_law_limit"] (defScope s__law_next) := ⟨rfl, rfl, rfl, by decide +kernel, rfl, by decide +kernel, by decide +kernel⟩
abbrev s__law_rows : Stmt := top 17
-- 0:_law_source_here 1:_law_some
abbrev N__law_rows : List Str := ["_law_source_here", "_law_some"]
theorem sc__law_rows : FnScope N__law_rows ["_law_source_here"] (defScope s__law_rows) := ⟨rfl, rfl, rfl, by decide +kernel, rfl, by decide +kernel, by decide +kernel⟩
abbrev s__law_table_places : Stmt := top 18
-- 0:_law_rows_here 1:_law_found 2:_law_row 3:_law_k
abbrev N__law_table_places : List Str := ["_law_rows_here", "_law_found", "_law_row", "_law_k"]
theorem sc__law_table_places : FnScope N__law_table_places ["_law_rows_here"] (defScope s__law_table_places) := ⟨rfl, rfl, rfl, by decide +kernel, rfl, by decide +kernel, by decide +kernel⟩
abbrev s__law_part : Stmt := top 19
-- 0:_law_source_here 1:_law_rows_here 2:_law_at 3:_law_many 4:_law_names 5:_law_tables 6:_law_way 7:_law_r 8:_law_s 9:_law_op 10:_law_later 11:_law_row
abbrev N__law_part : List Str := ["_law_source_here", "_law_rows_here", "_law_at", "_law_many", "_law_names", "_law_tables", "_law_way", "_law_r", "_law_s", "_law_op", "_law_later", "_law_row"]
theorem sc__law_part : FnScope N__law_part ["_law_source_here", "_law_rows_here", "_law_at", "_law_many"] (defScope s__law_part) := ⟨rfl, rfl, rfl, by decide +kernel, rfl, by decide +kernel, by decide +kernel⟩
abbrev s__law_code : Stmt := top 20
-- 0:_law_source_here 1:_law_rows_here 2:_law_most 3:_law_many 4:_law_at
abbrev N__law_code : List Str := ["_law_source_here", "_law_rows_here", "_law_most", "_law_many", "_law_at"]
theorem sc__law_code : FnScope N__law_code ["_law_source_here", "_law_rows_here", "_law_most"] (defScope s__law_code) := ⟨rfl, rfl, rfl, by decide +kernel, rfl, by decide +kernel, by decide +kernel⟩
abbrev s__law_is_number : Stmt := top 21
-- 0:_law_value
abbrev N__law_is_number : List Str := ["_law_value"]
theorem sc__law_is_number : FnScope N__law_is_number ["_law_value"] (defScope s__law_is_number) := ⟨rfl, rfl, rfl, by decide +kernel, rfl, by decide +kernel, by decide +kernel⟩
abbrev s__law_is_slot : Stmt := top 22
-- 0:_law_value
abbrev N__law_is_slot : List Str := ["_law_value"]
theorem sc__law_is_slot : FnScope N__law_is_slot ["_law_value"] (defScope s__law_is_slot) := ⟨rfl, rfl, rfl, by decide +kernel, rfl, by decide +kernel, by decide +kernel⟩
abbrev s__law_is_name : Stmt := top 23
-- 0:_law_value 1:_law_char
abbrev N__law_is_name : List Str := ["_law_value", "_law_char"]
theorem sc__law_is_name : FnScope N__law_is_name ["_law_value"] (defScope s__law_is_name) := ⟨rfl, rfl, rfl, by decide +kernel, rfl, by decide +kernel, by decide +kernel⟩
abbrev s__law_is_place : Stmt := top 24
-- 0:_law_value
abbrev N__law_is_place : List Str := ["_law_value"]
theorem sc__law_is_place : FnScope N__law_is_place ["_law_value"] (defScope s__law_is_place) := ⟨rfl, rfl, rfl, by decide +kernel, rfl, by decide +kernel, by decide +kernel⟩
abbrev s__law_is_op : Stmt := top 25
-- 0:_law_value
abbrev N__law_is_op : List Str := ["_law_value"]
theorem sc__law_is_op : FnScope N__law_is_op ["_law_value"] (defScope s__law_is_op) := ⟨rfl, rfl, rfl, by decide +kernel, rfl, by decide +kernel, by decide +kernel⟩
abbrev s__law_is_whole : Stmt := top 26
-- 0:_law_value
abbrev N__law_is_whole : List Str := ["_law_value"]
theorem sc__law_is_whole : FnScope N__law_is_whole ["_law_value"] (defScope s__law_is_whole) := ⟨rfl, rfl, rfl, by decide +kernel, rfl, by decide +kernel, by decide +kernel⟩
abbrev s__law_is_part : Stmt := top 27
-- 0:_law_value 1:_law_forms 2:_law_checks 3:_law_k
abbrev N__law_is_part : List Str := ["_law_value", "_law_forms", "_law_checks", "_law_k"]
theorem sc__law_is_part : FnScope N__law_is_part ["_law_value"] (defScope s__law_is_part) := ⟨rfl, rfl, rfl, by decide +kernel, rfl, by decide +kernel, by decide +kernel⟩
abbrev s__law_is_code : Stmt := top 28
-- 0:_law_value 1:_law_part_here
abbrev N__law_is_code : List Str := ["_law_value", "_law_part_here"]
theorem sc__law_is_code : FnScope N__law_is_code ["_law_value"] (defScope s__law_is_code) := ⟨rfl, rfl, rfl, by decide +kernel, rfl, by decide +kernel, by decide +kernel⟩
abbrev s__law_bent : Stmt := top 29
-- 0:_law_source_here 1:_law_value 2:_law_k 3:_law_some
abbrev N__law_bent : List Str := ["_law_source_here", "_law_value", "_law_k", "_law_some"]
theorem sc__law_bent : FnScope N__law_bent ["_law_source_here", "_law_value"] (defScope s__law_bent) := ⟨rfl, rfl, rfl, by decide +kernel, rfl, by decide +kernel, by decide +kernel⟩
abbrev s__law_by_hand : Stmt := top 30
-- 0:_law_right 1:_law_wrong
abbrev N__law_by_hand : List Str := ["_law_right", "_law_wrong"]
theorem sc__law_by_hand : FnScope N__law_by_hand [] (defScope s__law_by_hand) := ⟨rfl, rfl, rfl, by decide +kernel, rfl, by decide +kernel, by decide +kernel⟩
abbrev s_law : Stmt := top 31
-- 0:_law_script 1:_law_source_here 2:_law_right 3:_law_wrong 4:_law_values 5:_law_lap 6:_law_lines 7:_law_turn 8:_law_bent_here 9:_law_value 10:_law_before 11:_law_expected 12:_law_far 13:_law_part_here
abbrev N_law : List Str := ["_law_script", "_law_source_here", "_law_right", "_law_wrong", "_law_values", "_law_lap", "_law_lines", "_law_turn", "_law_bent_here", "_law_value", "_law_before", "_law_expected", "_law_far", "_law_part_here"]
theorem sc_law : FnScope N_law ["_law_script"] (defScope s_law) := ⟨rfl, rfl, rfl, by decide +kernel, rfl, by decide +kernel, by decide +kernel⟩
end K

namespace K
open PySem PySem.Spec PyProof.Rows L2
def fns : List He.DefD := [
  ⟨("is_integer", none), "is_integer", "is_integer", defArgs s_is_integer, defBody s_is_integer, defScope s_is_integer, [], []⟩,
  ⟨("is_number", none), "is_number", "is_number", defArgs s_is_number, defBody s_is_number, defScope s_is_number, [], []⟩,
  ⟨("is_name", none), "is_name", "is_name", defArgs s_is_name, defBody s_is_name, defScope s_is_name, [], []⟩,
  ⟨("is_code", none), "is_code", "is_code", defArgs s_is_code, defBody s_is_code, defScope s_is_code, [], []⟩,
  ⟨("_is_instruction", none), "_is_instruction", "_is_instruction", defArgs s__is_instruction, defBody s__is_instruction, defScope s__is_instruction, [], []⟩,
  ⟨("_is_part", none), "_is_part", "_is_part", defArgs s__is_part, defBody s__is_part, defScope s__is_part, [], []⟩,
  ⟨("_is_place", none), "_is_place", "_is_place", defArgs s__is_place, defBody s__is_place, defScope s__is_place, [], []⟩,
  ⟨("_law_source", none), "_law_source", "_law_source", defArgs s__law_source, defBody s__law_source, defScope s__law_source, [], []⟩,
  ⟨("_law_next", none), "_law_next", "_law_next", defArgs s__law_next, defBody s__law_next, defScope s__law_next, [], []⟩,
  ⟨("_law_rows", none), "_law_rows", "_law_rows", defArgs s__law_rows, defBody s__law_rows, defScope s__law_rows, [], []⟩,
  ⟨("_law_table_places", none), "_law_table_places", "_law_table_places", defArgs s__law_table_places, defBody s__law_table_places, defScope s__law_table_places, [], []⟩,
  ⟨("_law_part", none), "_law_part", "_law_part", defArgs s__law_part, defBody s__law_part, defScope s__law_part, [], []⟩,
  ⟨("_law_code", none), "_law_code", "_law_code", defArgs s__law_code, defBody s__law_code, defScope s__law_code, [], []⟩,
  ⟨("_law_is_number", none), "_law_is_number", "_law_is_number", defArgs s__law_is_number, defBody s__law_is_number, defScope s__law_is_number, [], []⟩,
  ⟨("_law_is_slot", none), "_law_is_slot", "_law_is_slot", defArgs s__law_is_slot, defBody s__law_is_slot, defScope s__law_is_slot, [], []⟩,
  ⟨("_law_is_name", none), "_law_is_name", "_law_is_name", defArgs s__law_is_name, defBody s__law_is_name, defScope s__law_is_name, [], []⟩,
  ⟨("_law_is_place", none), "_law_is_place", "_law_is_place", defArgs s__law_is_place, defBody s__law_is_place, defScope s__law_is_place, [], []⟩,
  ⟨("_law_is_op", none), "_law_is_op", "_law_is_op", defArgs s__law_is_op, defBody s__law_is_op, defScope s__law_is_op, [], []⟩,
  ⟨("_law_is_whole", none), "_law_is_whole", "_law_is_whole", defArgs s__law_is_whole, defBody s__law_is_whole, defScope s__law_is_whole, [], []⟩,
  ⟨("_law_is_part", none), "_law_is_part", "_law_is_part", defArgs s__law_is_part, defBody s__law_is_part, defScope s__law_is_part, [], []⟩,
  ⟨("_law_is_code", none), "_law_is_code", "_law_is_code", defArgs s__law_is_code, defBody s__law_is_code, defScope s__law_is_code, [], []⟩,
  ⟨("_law_bent", none), "_law_bent", "_law_bent", defArgs s__law_bent, defBody s__law_bent, defScope s__law_bent, [], []⟩,
  ⟨("_law_by_hand", none), "_law_by_hand", "_law_by_hand", defArgs s__law_by_hand, defBody s__law_by_hand, defScope s__law_by_hand, [], []⟩,
  ⟨("law", none), "law", "law", defArgs s_law, defBody s_law, defScope s_law, [], []⟩]
def fas : List He.Fa := [.glo "is_integer", .glo "is_number", .glo "is_name", .glo "is_code", .glo "_is_instruction", .glo "_is_part", .glo "_is_place", .glo "_law_source", .glo "_law_next", .glo "_law_rows", .glo "_law_table_places", .glo "_law_part", .glo "_law_code", .glo "_law_is_number", .glo "_law_is_slot", .glo "_law_is_name", .glo "_law_is_place", .glo "_law_is_op", .glo "_law_is_whole", .glo "_law_is_part", .glo "_law_is_code", .glo "_law_bent", .glo "_law_by_hand", .glo "law",
  .free "len", .free "int", .free "max", .free "min", .free "range", .free "tuple", .free "list", .free "isinstance", .free "str", .free "bool", .free "set", .free "dict", .free "sorted", .free "all", .free "repr", .free "zip", .glo "OPERATORS", .glo "PARTS", .str "LETTERS" "abcdefghijklmnopqrstuvwxyz", .int "LONGEST_NAME" 8, .int "SLOTS" 32]
def loose0 : List PySem.Str := ["LETTERS", "LONGEST_NAME", "is_integer", "is_number", "is_name", "SLOTS", "OPERATORS", "PARTS", "is_code", "_is_instruction", "_is_part", "_is_place", "_law_source", "_law_next", "_law_rows", "_law_table_places", "_law_part", "_law_code", "_law_is_number", "_law_is_slot", "_law_is_name", "_law_is_place", "_law_is_op", "_law_is_whole", "_law_is_part", "_law_is_code", "_law_bent", "_law_by_hand"]
def loose : List PySem.Str := loose0
abbrev lawAt : Nat := 31
abbrev Rw : PySem.W.OpenRow := PySem.W.OpenLaw.row PySem.Challenge.rw_orderless_k46_code_by_kind
-- INDEX 0:is_integer 1:is_number 2:is_name 3:is_code 4:_is_instruction 5:_is_part 6:_is_place 7:_law_source 8:_law_next 9:_law_rows 10:_law_table_places 11:_law_part 12:_law_code 13:_law_is_number 14:_law_is_slot 15:_law_is_name 16:_law_is_place 17:_law_is_op 18:_law_is_whole 19:_law_is_part 20:_law_is_code 21:_law_bent 22:_law_by_hand 23:law
def opsD : List He.Dv := [.str "+", .str "-", .str "*", .str "least", .str "most", .str "=", .str "<", .str "<=", .str "div", .str "mod"]
def partsL : List (Str × List Str) := [("const", ["slot", "integer"]), ("do", ["operator", "slot", "slot", "slot"]), ("load", ["slot", "place"]), ("loadat", ["slot", "name", "slot"]), ("store", ["place", "slot"]), ("storeat", ["name", "slot", "slot"]), ("jump", ["index"]), ("unless", ["slot", "index"]), ("end", [])]
def partKeys : List Str := ["const", "do", "load", "loadat", "store", "storeat", "jump", "unless", "end"]
/-- a tuple of texts stands at a -/
def wordsAt (K : PySem.W.Frag) (a : Addr) (ws : List Str) : Bool := match K.lookup a with
  | some ⟨.type t, _, .seq its _, _⟩ => decide (t = "tuple") && (decide (its.size ≤ sizeLine) && He.relAll (ws.map V.str) its.toList)
  | _ => false
def partB (K : PySem.W.Frag) (q : Str × List Str) : Bool := match PySem.W.nsIn K (He.ga K "PARTS") q.1 with
  | some (some (.ref b)) => wordsAt K b q.2
  | _ => false
def ruleB (K : PySem.W.Frag) : Bool := He.tupB K "OPERATORS" opsD && partsL.all (partB K)
def partsTab : He.Tab := (fun K => He.ga K "PARTS", partKeys)
abbrev ownHook : PySem.W.Hook := He.hookX 4 fas fns [partsTab] [] ruleB
abbrev ObT : Type := He.AlX
def obT (s : PySem.W.SharedT) : ObT := He.obsX 4 fas fns [partsTab] [] ruleB (HandSHeadRun.getT s)
theorem obT_eq (s : PySem.W.SharedT) : obT s = ownHook.obs s.abs := He.obsX_eq (HandSHeadRun.getT_eq s)
set_option maxHeartbeats 0 in
theorem topRun (w : World) : HandSHeadRun.RunEq Rw (PySem.W.view Rw.prog [lawAt]) ownHook obT 9000 loose w := by
  refine PySem.W.byRow2 "special-get-raises" (P := fun w => HandSHeadRun.RunEq Rw (PySem.W.view Rw.prog [lawAt]) ownHook obT 9000 loose w) (fun w => ?_) (fun w => ?_) w
  · intro os
    kernel_rfl
  · intro os
    kernel_rfl
end K

namespace G
open PySem PySem.Spec PyProof.Rows L2

/-! ### contexts by what is asked of them; the weakest reading of a piece of syntax -/
structure Md where
  prog : Program
  w : World
  K : PySem.W.Frag
  mg : Str → Option Value
  base : Heap
structure Cd extends Md where
  N : List Str
  sc : Scope
  k : Nat
  top : Bool
  g : Bool
  ev : Option (Str × Addr)
structure Is (c : Cd) (X : Cx) : Prop where
  prog : X.prog = c.prog
  w : X.w = c.w
  K : X.K = c.K
  mg : X.mg = c.mg
  base : X.base = c.base
  N : X.N = c.N
  sc : X.env.scope = c.sc
  calm : X.calm = true
  room : Room c.k X.A
  top : c.top = true → ∀ x, X.fn x = true
  own : PassesOwn (model X.prog X.w) X.A X.env X.xe
  nd : c.N.Nodup
  gd : c.g = true → X.A.guards = some []
  evh : ∀ q a, c.ev = some (q, a) → X.env.qual = q ∧ X.env.code = .ref a

structure DLe (D D' : Ends) : Prop where
  nx : ∀ σ H, D.nx σ H → D'.nx σ H
  rt : ∀ v H, D.rt v H → D'.rt v H
  bk : ∀ σ H, D.bk σ H → D'.bk σ H
  ct : ∀ σ H, D.ct σ H → D'.ct σ H
theorem DLe.refl (D : Ends) : DLe D D := ⟨fun _ _ h => h, fun _ _ h => h, fun _ _ h => h, fun _ _ h => h⟩
theorem DLe.trans {D D1 D2 : Ends} (a : DLe D D1) (b : DLe D1 D2) : DLe D D2 := ⟨fun _ _ h => b.nx _ _ (a.nx _ _ h), fun _ _ h => b.rt _ _ (a.rt _ _ h), fun _ _ h => b.bk _ _ (a.bk _ _ h), fun _ _ h => b.ct _ _ (a.ct _ _ h)⟩

structure RE (c : Cd) (e : Expr) (σ : L2.St) (H : Hp) (Q : VK) : Prop where
  ex : ∃ t Q', (∀ X, Is c X → PE X e t) ∧ t σ H Q' ∧ ∀ v H', Q' v H' → Q v H'
structure RT (c : Cd) (e : Expr) (σ : L2.St) (H : Hp) (Q : Bool → Hp → Prop) : Prop where
  ex : ∃ t Q', (∀ X, Is c X → PT X e t) ∧ t σ H Q' ∧ ∀ v H', Q' v H' → Q v H'
structure RW (c : Cd) (e : Expr) (σ : L2.St) (H : Hp) (Q : Bool → Hp → Prop) : Prop where
  ex : ∃ t Q', (∀ X, Is c X → PW X e t) ∧ t σ H Q' ∧ ∀ v H', Q' v H' → Q v H'
structure RTs (c : Cd) (es : List Expr) (σ : L2.St) (H : Hp) (Q : Bool → Hp → Prop) : Prop where
  ex : ∃ t Q', (∀ X, Is c X → PTs X es t) ∧ t σ H Q' ∧ ∀ v H', Q' v H' → Q v H'
structure RA (c : Cd) (es : List Expr) (σ : L2.St) (H : Hp) (Q : List V → Hp → Prop) : Prop where
  ex : ∃ t Q', (∀ X, Is c X → PA X es t) ∧ t σ H Q' ∧ ∀ v H', Q' v H' → Q v H'
structure RPK (c : Cd) (es : List Keyword) (σ : L2.St) (H : Hp) (Q : List V → Hp → Prop) : Prop where
  ex : ∃ t Q', (∀ X, Is c X → PK X es t) ∧ t σ H Q' ∧ ∀ v H', Q' v H' → Q v H'
structure RS (c : Cd) (st : Stmt) (D : Ends) (σ : L2.St) (H : Hp) : Prop where
  ex : ∃ t D', (∀ X, Is c X → PS X st t) ∧ t D' σ H ∧ DLe D' D
structure RB (c : Cd) (sts : List Stmt) (D : Ends) (σ : L2.St) (H : Hp) : Prop where
  ex : ∃ t D', (∀ X, Is c X → PSs X sts t) ∧ t D' σ H ∧ DLe D' D
structure RG (c : Cd) (tg : Expr) (v : V) (σ : L2.St) (H : Hp) (Q : L2.St → Hp → Prop) : Prop where
  ex : ∃ t Q', (∀ X, Is c X → PG X tg t) ∧ t v σ H Q' ∧ ∀ v H', Q' v H' → Q v H'
structure RGs (c : Cd) (ts : List Expr) (vs : List V) (σ : L2.St) (H : Hp) (Q : L2.St → Hp → Prop) : Prop where
  ex : ∃ t Q', (∀ X, Is c X → PGs X ts t) ∧ t vs σ H Q' ∧ ∀ v H', Q' v H' → Q v H'
structure RI (c : Cd) (tg it : Expr) (σ : L2.St) (H : Hp) (R : It → Hp → Prop) : Prop where
  ex : ∃ t R', (∀ X, Is c X → PI X tg it t) ∧ t σ H R' ∧ ∀ J H', R' J H' → R J H'
structure RO (c : Cd) (op : Operator) (x y : V) (H : Hp) (Q : VK) : Prop where
  ex : ∃ r Q', (∀ X, Is c X → OpR X (binaryOp op) r) ∧ r x y H Q' ∧ ∀ v H', Q' v H' → Q v H'
structure RQ (c : Cd) (op : CmpOp) (x y : V) (H : Hp) (Q : VK) : Prop where
  ex : ∃ r Q', (∀ X, Is c X → OpR X (compareOp op) r) ∧ r x y H Q' ∧ ∀ v H', Q' v H' → Q v H'
structure RU (c : Cd) (f : UnaryOp) (x : V) (H : Hp) (Q : VK) : Prop where
  ex : ∃ r Q', (∀ X, Is c X → UnR X (unaryOp f) r) ∧ r x H Q' ∧ ∀ v H', Q' v H' → Q v H'
structure RC (c : Cd) (f : Value) (xs : List V) (H : Hp) (Q : VK) : Prop where
  ex : ∃ r Q', (∀ X, Is c X → CallR X f r) ∧ r xs H Q' ∧ ∀ v H', Q' v H' → Q v H'
structure RX (c : Cd) (x y : V) (H : Hp) (Q : VK) : Prop where
  ex : ∃ r Q', (∀ X, Is c X → IxR X r) ∧ r x y H Q' ∧ ∀ v H', Q' v H' → Q v H'
structure RSl (c : Cd) (x : V) (l u : Option Int) (H : Hp) (Q : VK) : Prop where
  ex : ∃ r Q', (∀ X, Is c X → SlR X r) ∧ r x l u H Q' ∧ ∀ v H', Q' v H' → Q v H'
structure RM (c : Cd) (id : String) (x : V) (xs : List V) (H : Hp) (Q : VK) : Prop where
  ex : ∃ r Q', (∀ X, Is c X → MtR X id r) ∧ r x xs H Q' ∧ ∀ v H', Q' v H' → Q v H'
structure RP (c : Cd) (o i v : V) (H : Hp) (Q : Hp → Prop) : Prop where
  ex : ∃ r Q', (∀ X, Is c X → PSet X r) ∧ r o i v H Q' ∧ ∀ H', Q' H' → Q H'
structure RPo (c : Cd) (e : Option Expr) (σ : L2.St) (H : Hp) (Q : Option Int → Hp → Prop) : Prop where
  ex : ∃ t Q', (∀ X, Is c X → PO X e t) ∧ t σ H Q' ∧ ∀ v H', Q' v H' → Q v H'

section
variable {c : Cd} {X : Cx} (h : Is c X)
include h
theorem pe_re {e : Expr} : PE X e (RE c e) := ⟨fun pins s σ H Q I ⟨⟨_, _, a, q, w⟩⟩ => thn ((a X h).run pins s σ H _ I q) fun _ _ ⟨v, H', I', r, q'⟩ => ⟨v, H', I', r, w _ _ q'⟩⟩
theorem pt_rt {e : Expr} : PT X e (RT c e) := ⟨fun pins s σ H Q I ⟨⟨_, _, a, q, w⟩⟩ => thn ((a X h).run pins s σ H _ I q) fun _ _ ⟨H', I', q'⟩ => ⟨H', I', w _ _ q'⟩⟩
theorem pw_rw {e : Expr} : PW X e (RW c e) := ⟨fun wh pins s σ H Q I ⟨⟨_, _, a, q, w⟩⟩ => thn ((a X h).run wh pins s σ H _ I q) fun _ _ ⟨H', I', q'⟩ => ⟨H', I', w _ _ q'⟩⟩
theorem pts_rts {es : List Expr} : PTs X es (RTs c es) := ⟨fun pins s σ H Q I ⟨⟨_, _, a, q, w⟩⟩ => thn ((a X h).run pins s σ H _ I q) fun _ _ ⟨H', I', q'⟩ => ⟨H', I', w _ _ q'⟩⟩
theorem pa_ra {es : List Expr} : PA X es (RA c es) := ⟨fun pos pins s σ H Q I ⟨⟨_, _, a, q, w⟩⟩ => thn ((a X h).run pos pins s σ H _ I q) fun _ _ ⟨v, H', I', r, q'⟩ => ⟨v, H', I', r, w _ _ q'⟩⟩
theorem pk_rk {es : List Keyword} : PK X es (RPK c es) := ⟨fun pos pins s σ H Q I ⟨⟨_, _, a, q, w⟩⟩ => thn ((a X h).run pos pins s σ H _ I q) fun _ _ ⟨v, H', I', r, q'⟩ => ⟨v, H', I', r, w _ _ q'⟩⟩
theorem SP.le {pins : List (Addr × Obj)} {D' D : Ends} (w : DLe D' D) : ∀ {f : Flow} {s' : Shared}, SP X pins D' f s' → SP X pins D f s'
  | .next, _, ⟨σ', H', I, q⟩ => ⟨σ', H', I, w.nx _ _ q⟩
  | .brk, _, ⟨σ', H', I, q⟩ => ⟨σ', H', I, w.bk _ _ q⟩
  | .cont, _, ⟨σ', H', I, q⟩ => ⟨σ', H', I, w.ct _ _ q⟩
  | .ret _, _, ⟨v, σ', H', I, r, q⟩ => ⟨v, σ', H', I, r, w.rt _ _ q⟩
theorem ps_rs {st : Stmt} : PS X st (RS c st) := ⟨fun pins s σ H D I ⟨⟨_, _, a, q, w⟩⟩ => thn ((a X h).run pins s σ H _ I q) fun _ _ q' => SP.le h w q'⟩
theorem ps_rb {sts : List Stmt} : PSs X sts (RB c sts) := ⟨fun pins s σ H D I ⟨⟨_, _, a, q, w⟩⟩ => thn ((a X h).run pins s σ H _ I q) fun _ _ q' => SP.le h w q'⟩
theorem pg_rg {tg : Expr} : PG X tg (RG c tg) := ⟨fun pins s σ H v u Q I r ⟨⟨_, _, a, q, w⟩⟩ => thn ((a X h).run pins s σ H v u _ I r q) fun _ _ ⟨σ', H', I', q'⟩ => ⟨σ', H', I', w _ _ q'⟩⟩
theorem pg_rgs {ts : List Expr} : PGs X ts (RGs c ts) := ⟨fun pins s σ H vs us Q I r ⟨⟨_, _, a, q, w⟩⟩ => thn ((a X h).run pins s σ H vs us _ I r q) fun _ _ ⟨σ', H', I', q'⟩ => ⟨σ', H', I', w _ _ q'⟩⟩
theorem pi_ri {tg it : Expr} : PI X tg it (RI c tg it) := ⟨fun pins s σ H R I ⟨⟨_, _, a, q, w⟩⟩ => thn ((a X h).run pins s σ H _ I q) fun _ _ z => thn z fun _ _ ⟨it, fp, tn, J, H', e, I', T, t0, f, q'⟩ => ⟨it, fp, tn, J, H', e, I', T, t0, f, w _ _ q'⟩⟩
theorem EP.le {pins : List (Addr × Obj)} {σ : L2.St} {Q' Q : VK} {u : Value} {s' : Shared} (w : ∀ v H', Q' v H' → Q v H') : EP X pins σ Q' u s' → EP X pins σ Q u s' := fun ⟨v, H', I', r, q'⟩ => ⟨v, H', I', r, w _ _ q'⟩
theorem op_ro {op : Operator} : OpR X (binaryOp op) (RO c op) := fun pins s σ H x y v u Q I r1 r2 ⟨⟨_, _, a, q, w⟩⟩ => thn (a X h pins s σ H x y v u _ I r1 r2 q) fun _ _ z => EP.le h w z
theorem op_rq {op : CmpOp} : OpR X (compareOp op) (RQ c op) := fun pins s σ H x y v u Q I r1 r2 ⟨⟨_, _, a, q, w⟩⟩ => thn (a X h pins s σ H x y v u _ I r1 r2 q) fun _ _ z => EP.le h w z
theorem un_ru {f : UnaryOp} : UnR X (unaryOp f) (RU c f) := fun pins s σ H x v Q I r ⟨⟨_, _, a, q, w⟩⟩ => thn (a X h pins s σ H x v _ I r q) fun _ _ z => EP.le h w z
theorem call_rc {f : Value} : CallR X f (RC c f) := fun pins s σ H xs us Q I r ⟨⟨_, _, a, q, w⟩⟩ => thn (a X h pins s σ H xs us _ I r q) fun _ _ z => EP.le h w z
theorem ix_rx : IxR X (RX c) := by
  intro value slice pins s σ H x y v u Q I r1 r2 q0 hs
  obtain ⟨⟨_, _, a, q, w⟩⟩ := q0
  exact thn (a X h value slice pins s σ H x y v u _ I r1 r2 q hs) fun _ _ z => EP.le h w z
theorem sl_rs : SlR X (RSl c) := by
  intro pins s σ H x v vl vu lo hi sl Q I rx hs pl pu ⟨⟨_, _, a, q, w⟩⟩
  obtain ⟨T, id, h1, h2, h3⟩ := a X h pins s σ H x v vl vu lo hi sl _ I rx hs pl pu q
  exact ⟨T, id, h1, h2, thn h3 fun _ _ z => EP.le h w z⟩
theorem mt_rm {id : String} : MtR X id (RM c id) := by
  intro pins s σ H x xs v us Q I r1 r2 ⟨⟨_, _, a, q, w⟩⟩
  exact thn (a X h pins s σ H x xs v us _ I r1 r2 q) fun _ _ z => EP.le h w z
theorem set_rp : PSet X (RP c) := by
  intro pins s σ H o i v ov iv u Q I r1 r2 r3 ⟨⟨_, _, a, q, w⟩⟩
  exact thn (a X h pins s σ H o i v ov iv u _ I r1 r2 r3 q) fun _ _ ⟨H', I', q'⟩ => ⟨H', I', w _ q'⟩
theorem po_rp {e : Option Expr} : PO X e (RPo c e) := ⟨fun pins s σ H Q I ⟨⟨_, _, a, q, w⟩⟩ => thn ((a X h).run pins s σ H _ I q) fun _ _ ⟨o, H', I', p, q'⟩ => ⟨o, H', I', p, w _ _ q'⟩⟩
end
section
variable {c : Cd} {σ : L2.St} {H : Hp} {Q Q' : VK} {B B' : Bool → Hp → Prop} {D D' : Ends}
theorem re_of {e : Expr} {t : TE} (h : ∀ X, Is c X → PE X e t) (q : t σ H Q) : RE c e σ H Q := ⟨⟨t, Q, h, q, fun _ _ z => z⟩⟩
theorem rt_of {e : Expr} {t : TT} (h : ∀ X, Is c X → PT X e t) (q : t σ H B) : RT c e σ H B := ⟨⟨t, B, h, q, fun _ _ z => z⟩⟩
theorem rw_of {e : Expr} {t : TT} (h : ∀ X, Is c X → PW X e t) (q : t σ H B) : RW c e σ H B := ⟨⟨t, B, h, q, fun _ _ z => z⟩⟩
theorem rts_of {es : List Expr} {t : TT} (h : ∀ X, Is c X → PTs X es t) (q : t σ H B) : RTs c es σ H B := ⟨⟨t, B, h, q, fun _ _ z => z⟩⟩
theorem ra_of {es : List Expr} {t : TA} {Q : List V → Hp → Prop} (h : ∀ X, Is c X → PA X es t) (q : t σ H Q) : RA c es σ H Q := ⟨⟨t, Q, h, q, fun _ _ z => z⟩⟩
theorem rk_of {es : List Keyword} {t : TA} {Q : List V → Hp → Prop} (h : ∀ X, Is c X → PK X es t) (q : t σ H Q) : RPK c es σ H Q := ⟨⟨t, Q, h, q, fun _ _ z => z⟩⟩
theorem rs_of {st : Stmt} {t : TS} (h : ∀ X, Is c X → PS X st t) (q : t D σ H) : RS c st D σ H := ⟨⟨t, D, h, q, DLe.refl D⟩⟩
theorem rb_of {st : List Stmt} {t : TS} (h : ∀ X, Is c X → PSs X st t) (q : t D σ H) : RB c st D σ H := ⟨⟨t, D, h, q, DLe.refl D⟩⟩
theorem rg_of {tg : Expr} {t : TG} {v : V} {Q : L2.St → Hp → Prop} (h : ∀ X, Is c X → PG X tg t) (q : t v σ H Q) : RG c tg v σ H Q := ⟨⟨t, Q, h, q, fun _ _ z => z⟩⟩
theorem rgs_of {tg : List Expr} {t : TGs} {v : List V} {Q : L2.St → Hp → Prop} (h : ∀ X, Is c X → PGs X tg t) (q : t v σ H Q) : RGs c tg v σ H Q := ⟨⟨t, Q, h, q, fun _ _ z => z⟩⟩
theorem ri_of {tg it : Expr} {t : TI} {R : It → Hp → Prop} (h : ∀ X, Is c X → PI X tg it t) (q : t σ H R) : RI c tg it σ H R := ⟨⟨t, R, h, q, fun _ _ z => z⟩⟩
theorem ro_of {op : Operator} {r : R2} {x y : V} (h : ∀ X, Is c X → OpR X (binaryOp op) r) (q : r x y H Q) : RO c op x y H Q := ⟨⟨r, Q, h, q, fun _ _ z => z⟩⟩
theorem rq_of {op : CmpOp} {r : R2} {x y : V} (h : ∀ X, Is c X → OpR X (compareOp op) r) (q : r x y H Q) : RQ c op x y H Q := ⟨⟨r, Q, h, q, fun _ _ z => z⟩⟩
theorem ru_of {f : UnaryOp} {r : V → Hp → VK → Prop} {x : V} (h : ∀ X, Is c X → UnR X (unaryOp f) r) (q : r x H Q) : RU c f x H Q := ⟨⟨r, Q, h, q, fun _ _ z => z⟩⟩
theorem rc_of {f : Value} {r : List V → Hp → VK → Prop} {xs : List V} (h : ∀ X, Is c X → CallR X f r) (q : r xs H Q) : RC c f xs H Q := ⟨⟨r, Q, h, q, fun _ _ z => z⟩⟩
theorem rx_of {r : R2} {x y : V} (h : ∀ X, Is c X → IxR X r) (q : r x y H Q) : RX c x y H Q := ⟨⟨r, Q, h, q, fun _ _ z => z⟩⟩
theorem rsl_of {r : V → Option Int → Option Int → Hp → VK → Prop} {x : V} {l u : Option Int} (h : ∀ X, Is c X → SlR X r) (q : r x l u H Q) : RSl c x l u H Q := ⟨⟨r, Q, h, q, fun _ _ z => z⟩⟩
theorem rm_of {id : String} {r : V → List V → Hp → VK → Prop} {x : V} {xs : List V} (h : ∀ X, Is c X → MtR X id r) (q : r x xs H Q) : RM c id x xs H Q := ⟨⟨r, Q, h, q, fun _ _ z => z⟩⟩
theorem rp_of {r : TSet} {o i v : V} {Q : Hp → Prop} (h : ∀ X, Is c X → PSet X r) (q : r o i v H Q) : RP c o i v H Q := ⟨⟨r, Q, h, q, fun _ z => z⟩⟩
theorem rpo_of {e : Option Expr} {t : TO} {Q : Option Int → Hp → Prop} (h : ∀ X, Is c X → PO X e t) (q : t σ H Q) : RPo c e σ H Q := ⟨⟨t, Q, h, q, fun _ _ z => z⟩⟩
theorem RE.mono {e : Expr} (w : ∀ v H', Q v H' → Q' v H') : RE c e σ H Q → RE c e σ H Q' := fun ⟨⟨t, Q1, h, q, z⟩⟩ => ⟨⟨t, Q1, h, q, fun _ _ y => w _ _ (z _ _ y)⟩⟩
theorem RT.mono {e : Expr} (w : ∀ v H', B v H' → B' v H') : RT c e σ H B → RT c e σ H B' := fun ⟨⟨t, Q1, h, q, z⟩⟩ => ⟨⟨t, Q1, h, q, fun _ _ y => w _ _ (z _ _ y)⟩⟩
theorem RTs.mono {e : List Expr} (w : ∀ v H', B v H' → B' v H') : RTs c e σ H B → RTs c e σ H B' := fun ⟨⟨t, Q1, h, q, z⟩⟩ => ⟨⟨t, Q1, h, q, fun _ _ y => w _ _ (z _ _ y)⟩⟩
theorem RA.mono {e : List Expr} {Q Q' : List V → Hp → Prop} (w : ∀ v H', Q v H' → Q' v H') : RA c e σ H Q → RA c e σ H Q' := fun ⟨⟨t, Q1, h, q, z⟩⟩ => ⟨⟨t, Q1, h, q, fun _ _ y => w _ _ (z _ _ y)⟩⟩
theorem RG.mono {e : Expr} {v : V} {Q Q' : L2.St → Hp → Prop} (w : ∀ v H', Q v H' → Q' v H') : RG c e v σ H Q → RG c e v σ H Q' := fun ⟨⟨t, Q1, h, q, z⟩⟩ => ⟨⟨t, Q1, h, q, fun _ _ y => w _ _ (z _ _ y)⟩⟩
theorem RI.mono {tg it : Expr} {R R' : It → Hp → Prop} (w : ∀ v H', R v H' → R' v H') : RI c tg it σ H R → RI c tg it σ H R' := fun ⟨⟨t, Q1, h, q, z⟩⟩ => ⟨⟨t, Q1, h, q, fun _ _ y => w _ _ (z _ _ y)⟩⟩
theorem RO.mono {f : Operator} {x y : V} (w : ∀ v H', Q v H' → Q' v H') : RO c f x y H Q → RO c f x y H Q' := fun ⟨⟨t, Q1, h, q, z⟩⟩ => ⟨⟨t, Q1, h, q, fun _ _ y => w _ _ (z _ _ y)⟩⟩
theorem RS.mono {st : Stmt} (w : DLe D D') : RS c st D σ H → RS c st D' σ H := fun ⟨⟨t, Q1, h, q, z⟩⟩ => ⟨⟨t, Q1, h, q, z.trans w⟩⟩
theorem RB.mono {st : List Stmt} (w : DLe D D') : RB c st D σ H → RB c st D' σ H := fun ⟨⟨t, Q1, h, q, z⟩⟩ => ⟨⟨t, Q1, h, q, z.trans w⟩⟩
end
theorem kEq {c : Cd} {X : Cx} (h : Is c X) {p : PySem.W.Frag → Prop} (a : p X.K) : p c.K := h.K ▸ a

/-- the place of a name -/
inductive At : List Str → Nat → Str → Prop
  | z {x : Str} {l : List Str} : At (x :: l) 0 x
  | s {x y : Str} {l : List Str} {i : Nat} (h : At l i x) : At (y :: l) (i + 1) x
theorem At.get {x : Str} : ∀ {l : List Str} {i : Nat}, At l i x → l[i]? = some x
  | _, _, .z => rfl
  | _, _, .s h => by simpa using At.get h
/-! ### expressions -/
section
variable {c : Cd} {σ : L2.St} {H : Hp} {Q : VK} {pos : Pos}
theorem e_int {i : Int} {j} (q : Q (.int i) H) : RE c (.Constant (.int i) j pos) σ H Q := re_of (fun _ _ => pe_int) q
theorem e_bl {b : Bool} {j} (q : Q (.bl b) H) : RE c (.Constant (.bool b) j pos) σ H Q := re_of (fun _ _ => pe_bl) q
theorem e_non {j} (q : Q .non H) : RE c (.Constant .none j pos) σ H Q := re_of (fun _ _ => pe_non) q
theorem e_str {x : Str} {j} (q : Q (.str x) H) : RE c (.Constant (.str x) j pos) σ H Q := re_of (fun _ _ => pe_str) q
theorem e_var {i : Nat} {x : Str} {v : V} (hA : At c.N i x) (q : Q v H) (hσ : σ[i]? = some (some v) := by rfl)
    (hv : Vis c.sc x := by first | exact Or.inl rfl | exact Or.inr (Or.inl rfl) | exact Or.inr (Or.inr rfl)) (hd : (x == ("__debug__" : Str)) = false := by decide) (hcd : (x == ("__classdict__" : Str)) = false := by decide) :
    RE c (.Name x pos) σ H Q := re_of (fun X h => pe_var (i := i) (by rw [h.N]; exact hA.get) (by rw [h.sc]; exact hv) hd hcd) ⟨v, hσ, q⟩
theorem gl_of {X : Cx} (h : Is c X) {x : Str} (hg : c.sc.names.lookup x = some .globalImplicit) : Gl X x := by
  show X.env.scope.names.lookup x = _
  rw [h.sc]; exact hg
/-- a module's constant -/
theorem e_glob {x : Str} {v : V} {u : Value} (hm : c.mg x = some u) (r : RelV v u) (q : Q v H) (hg : c.sc.names.lookup x = some .globalImplicit := by rfl) (hd : (x == ("__debug__" : Str)) = false := by decide) : RE c (.Name x pos) σ H Q :=
  re_of (fun X h => pe_glob (gl_of h hg) (by rw [h.mg]; exact hm) r hd) q
theorem e_bltn {x : Str} {v : V} {u : Value} (hm : c.mg x = none) (hv : bootBuiltins x = some u) (r : RelV v u) (q : Q v H) (hg : c.sc.names.lookup x = some .globalImplicit := by rfl) (hn : x ≠ "__name__" := by decide) (hd : (x == ("__debug__" : Str)) = false := by decide) :
    RE c (.Name x pos) σ H Q := re_of (fun X h => pe_bltn (gl_of h hg) (by rw [h.mg]; exact hm) hv r hn hd) q
theorem e_bin {a b : Expr} {op : Operator} (q : RE c a σ H fun x H1 => RE c b σ H1 fun y H2 => RO c op x y H2 Q) : RE c (.BinOp a op b pos) σ H Q :=
  re_of (fun X h => pe_op (op_ro h) (pe_re h) (pe_re h)) q
theorem e_un {a : Expr} {op : UnaryOp} (q : RE c a σ H fun x H1 => RU c op x H1 Q) : RE c (.UnaryOp op a pos) σ H Q :=
  re_of (fun X h => pe_un (un_ru h) (pe_re h)) q
theorem e_cmp {a b : Expr} {op : CmpOp} (q : RE c a σ H fun x H1 => RE c b σ H1 fun y H2 => RQ c op x y H2 Q) (hm : behindInMarks op b = false := by first | rfl | exact nomark _) : RE c (.Compare a [op] [b] pos) σ H Q :=
  re_of (fun X h => pe_cmpR (op_rq h) (pe_re h) (pe_re h) hm) q
theorem e_chain {a b d : Expr} {op op' : CmpOp} (q : RE c a σ H fun x H1 => RE c b σ H1 fun y H2 => RQ c op x y H2 fun z H3 => ∃ k, z = .bl k ∧ (if k = true then RE c d σ H3 fun w' H4 => RQ c op' y w' H4 Q else Q (.bl false) H3))
    (hm : lastMarks [op, op'] [b, d] = false := by with_unfolding_all rfl) : RE c (.Compare a [op, op'] [b, d] pos) σ H Q :=
  re_of (t := tChain (RQ c op) (RQ c op') (RE c a) (RE c b) (RE c d)) (fun X h => pe_chain (op_rq h) (op_rq h) (pe_re h) (pe_re h) (pe_re h) hm) q
theorem e_one {a : Expr} {op} (q : RE c a σ H Q) : RE c (.BoolOp op [a] pos) σ H Q := re_of (fun X h => pe_one (pe_re h)) q
theorem e_and {a b : Expr} {rest : List Expr} (q : RE c a σ H fun x H1 => ∃ k, x = .bl k ∧ if k = true then RE c (.BoolOp .And (b :: rest) pos) σ H1 Q else Q (.bl false) H1) : RE c (.BoolOp .And (a :: b :: rest) pos) σ H Q :=
  re_of (fun X h => pe_and (pe_re h) (pe_re h)) q
theorem e_or {a b : Expr} {rest : List Expr} (q : RE c a σ H fun x H1 => ∃ k, x = .bl k ∧ if k = true then Q (.bl true) H1 else RE c (.BoolOp .Or (b :: rest) pos) σ H1 Q) : RE c (.BoolOp .Or (a :: b :: rest) pos) σ H Q :=
  re_of (fun X h => pe_or (pe_re h) (pe_re h)) q
theorem e_not {a : Expr} (q : RE c a σ H fun x H1 => ∃ k, x = .bl k ∧ Q (.bl (!k)) H1) : RE c (.UnaryOp .Not a pos) σ H Q :=
  re_of (fun X h => pe_not (pe_re h)) q
theorem e_if {a b d : Expr} (q : RT c d σ H fun k H1 => if k = true then RE c a σ H1 Q else RE c b σ H1 Q) : RE c (.IfExp d a b pos) σ H Q :=
  re_of (fun X h => pe_ifExp (pt_rt h) (pe_re h) (pe_re h)) q
theorem a_nil {Q : List V → Hp → Prop} (q : Q [] H) : RA c [] σ H Q := ra_of (fun _ _ => pa_nil) q
theorem a_cons {Q : List V → Hp → Prop} {e : Expr} {es : List Expr} (q : RE c e σ H fun x H1 => RA c es σ H1 fun xs H2 => Q (x :: xs) H2) (hs : ∀ env, starEach (e :: es) env = (false, eval e env) :: starEach es env := by intro _; rfl) : RA c (e :: es) σ H Q :=
  ra_of (fun X h => pa_cons (pe_re h) (pa_ra h) (hs _)) q
theorem e_tup {es : List Expr} {x1} (q : RA c es σ H fun xs H1 => xs.length ≤ sizeLine ∧ ∀ p, H1 p = none → Q (.ref p) (upd H1 p (.tup xs))) : RE c (.Tuple es x1 pos) σ H Q :=
  re_of (fun X h => pe_tup (pa_ra h)) q
theorem e_lst {es : List Expr} (q : RA c es σ H fun xs H1 => xs.length ≤ sizeLine ∧ ∀ p, H1 p = none → Q (.ref p) (upd H1 p (.lst xs))) : RE c (.List es pos) σ H Q :=
  re_of (fun X h => pe_lst (pa_ra h)) q
theorem e_ix {a b : Expr} (q : RE c a σ H fun x H1 => RE c b σ H1 fun y H2 => RX c x y H2 Q) (hs : PlainIx b := by intro _ _; rfl) : RE c (.Subscript a b pos) σ H Q :=
  re_of (fun X h => pe_ix (ix_rx h) (pe_re h) (pe_re h) hs) q
theorem e_dget {a b : Expr} (q : RE c a σ H fun x H1 => RE c b σ H1 fun y H2 => ∃ a v, x = .ref a ∧ DGet H2 a y (some v) ∧ Q v H2) (hs : NoSl b := by intro _ _; rfl) : RE c (.Subscript a b pos) σ H Q :=
  re_of (fun X h => pe_dget (by have := h.room.units; omega) (pe_re h) (pe_re h) hs) q
theorem p_none {Q : Option Int → Hp → Prop} (q : Q none H) : RPo c none σ H Q := rpo_of (fun _ _ => po_none) q
theorem p_some {e : Expr} {Q : Option Int → Hp → Prop} (q : RE c e σ H fun x H1 => ∃ i, x = .int i ∧ Q (some i) H1) : RPo c (some e) σ H Q := rpo_of (fun _ h => po_some (pe_re h)) q
theorem e_slice {e : Expr} {lo hi : Option Expr} {p2 : Pos} (q : RE c e σ H fun x H1 => RPo c lo σ H1 fun l H2 => RPo c hi σ H2 fun u H3 => RSl c x l u H3 Q) : RE c (.Subscript e (.Slice lo hi none p2) pos) σ H Q :=
  re_of (fun _ h => pe_slice (sl_rs h) (pe_re h) (po_rp h) (po_rp h)) q
/-! ### defs, where no text of an object is being written (what repr asks for) -/
structure FnQ (P : Program) (w : World) (K : PySem.W.Frag) (mg : Str → Option Value) (base : Heap) (CX : CXT) (k : Nat) (f : Addr) (fd : FuncData) (ps : List Str) (sp : Sp) : Prop where
  len : ∀ vs H Q E, sp vs H Q E → vs.length = ps.length
  run : ∀ (A : Around) (up : List Env) (st : Shared) (H : Hp) (ag : Args) (us : List Value) (vs : List V) (Q : VK) (E : XK), A.guards = some [] → Room k A → Env0 P w K mg base A up st H → BindsTo st fd ag (ps.zip us) → Vals vs us → sp vs H Q E →
    codeAny (model P w) A (.call (.ref f) ag) (CR CX up P w H st Q E) st
theorem fnQ_of {CX : CXT} {P : Program} {w : World} {K : PySem.W.Frag} {mg : Str → Option Value} {base : Heap} {k : Nat} {f : Addr} {x qual : Str} {pas : Arguments} {bd : List Stmt} {sco : Scope} {dV kV doc pm cdv ct oc : Value} {an od : Option Addr} {osl : Array (Option Value)} {N ps : List Str} {sp : Sp}
    (at_ : K.lookup f = some ⟨oc, od, .func (PySem.W.fnOf x qual pas bd sco dV kV doc pm an cdv ct), osl⟩) (cod : PySem.W.codeIn K cdv qual = true) (S : FnScope N ps sco) (len : ∀ vs H Q E, sp vs H Q E → vs.length = ps.length)
    (walk : ∀ (A : Around) (up : List Env) (st : Shared) (H : Hp) (vs : List V) (Q : VK) (E : XK), A.guards = some [] → Room k (A.deeper (envOfC qual sco st.heap.objs.size f cdv)) → sp vs H Q E →
      ∃ t, PSs (cxOf CX P w K mg base N qual sco f cdv A up st H E) bd t ∧ t { nx := fun _ H' => Q .non H', rt := Q } (start N vs) H) : FnQ P w K mg base CX (k + 1) f (PySem.W.fnOf x qual pas bd sco dV kV doc pm an cdv ct) ps sp := by
  refine ⟨len, fun A up st H ag us vs Q E quiet room en bt vv want => ?_⟩
  have many := len vs H Q E want
  have here : ∀ b o, base.get? b = some o → st.heap.get? b = some o := fun b o e => (en.bs b o e).1
  have inK : K.In st.heap := en.mod.kin.keeps here
  have free : st.heap.NoLimit := en.mod.nolimit.keeps here
  have kinds : ∀ z ∈ ps.zip us, sco.names.lookup z.1 = some .local ∨ (sco.names.lookup z.1 = some .cell ∧ ((cellsFrom (st.heap.objs.size + 1) sco.names []).lookup z.1).isSome = true) := by
    rintro ⟨n, v⟩ hz
    exact (S.par n (List.of_mem_zip hz).1).imp id fun q => ⟨q, PySem.W.cellsFrom_some _ _ _ (.inl q)⟩
  refine codeAny_call_function room.depth (inK _ _ at_) rfl S.co S.gen rfl (PySem.W.codeRec_of inK cod) (bt _ _ _ _ (wpAny_newFunctionEnv_cells S.kind kinds fun env same s1 made => ?_))
  subst same
  refine ⟨free.keeps made.toInCall.keep, codeAny_func ?_⟩
  obtain ⟨t, runs, goal⟩ := walk A up st H vs Q E quiet (room.deeper _) want
  have J : Inv (cxOf CX P w K mg base N qual sco f cdv A up st H E) [] (start N vs) H s1 := inv_start S room.hd en many vv made
  refine wpAny_mono (runs.run [] s1 (start N vs) H _ J goal) (fun fl s2 e => ?_) fun _ _ e => e
  cases fl with
  | ret u => exact let ⟨v, _, H2, J2, rv, q⟩ := e; ⟨v, H2, J2.os, J2.bare, J2.base, J2.hok, rv, q⟩
  | next => exact let ⟨_, H2, J2, q⟩ := e; ⟨V.non, H2, J2.os, J2.bare, J2.base, J2.hok, (rfl : Value.none = Value.none), q⟩
  | brk => exact (let ⟨_, _, _, q⟩ := e; False.elim q)
  | cont => exact (let ⟨_, _, _, q⟩ := e; False.elim q)
section
variable {X : Cx} {k : Nat} {f : Addr} {fd : FuncData} {ps : List Str} {sp : Sp} {dvs : List V} {ds : List Value} {x : Str} {p pos : Pos} {e : Expr} {es : List Expr} {t : TA}
abbrev noX : CXT := fun _ _ _ _ _ _ => False
theorem runQ {pins : List (Addr × Obj)} {σ : L2.St} {H : Hp} {st : Shared} {Q : VK} {us : List Value} {vs : List V} (F : FnQ X.prog X.w X.K X.mg X.base noX k f fd ps sp) (quiet : X.A.guards = some []) (room : Room k X.A) (bn : Binds X.K fd ps ds) (dv : Vals dvs ds)
    (J : Inv X pins σ H st) (vv : Vals vs us) (want : sp (vs ++ dvs) H Q fun _ _ _ => False) : wpAny (model X.prog X.w) X.A (call (.ref f) us) (EP X pins σ Q) X.xe st := by
  have all := vv.append dv
  have many : (us ++ ds).length = ps.length := all.length.symm.trans (F.len _ _ _ _ want)
  refine wpAny_call (codeAny_mono (F.run X.A X.stack st H ⟨us, []⟩ _ _ Q _ quiet room J.env0 (bn st us J.kIn many) all want) fun r s2 z => ?_)
  match r, z with
  | .ok (.ret u), z => exact J.after z
theorem peQ_call (F : FnQ X.prog X.w X.K X.mg X.base noX k f fd ps sp) (quiet : X.A.guards = some []) (room : Room k X.A) (gl : Gl X x) (hm : X.mg x = some (.ref f)) (kp : PySem.W.keepIn X.K (.ref f) = true) (bn : Binds X.K fd ps ds) (dv : Vals dvs ds)
    (ha : PA X (e :: es) t) (hdb : (x == ("__debug__" : Str)) = false) (he : starEach (e :: es) X.env = (false, eval e X.env) :: starEach es X.env) (hpl : (backTo pos (starEach es X.env)).any (·.1) = false) : PE X (.Call (.Name x p) (e :: es) [] pos) (tCall sp dvs (fun _ _ _ => False) t) := by
  constructor
  intro pins st σ H Q J z
  apply wpAny_Call_Name_kw
  apply ld_glob J gl hm _ hdb
  exact PySem.W.callWith_K (h₀ := X.base) J.ok.mod.kin kp (thn (ha.run pos pins st σ H _ J z) fun us s1 ⟨vs, H1, J1, vv, q⟩ => ⟨J1.kIn, runQ F quiet room bn dv J1 vv q⟩) he hpl
theorem peQ_call0 (F : FnQ X.prog X.w X.K X.mg X.base noX k f fd ps sp) (quiet : X.A.guards = some []) (room : Room k X.A) (gl : Gl X x) (hm : X.mg x = some (.ref f)) (kp : PySem.W.keepIn X.K (.ref f) = true) (bn : Binds X.K fd ps ds) (dv : Vals dvs ds)
    (hdb : (x == ("__debug__" : Str)) = false) : PE X (.Call (.Name x p) [] [] pos) (tCall sp dvs (fun _ _ _ => False) tNil) := by
  constructor
  intro pins st σ H Q J z
  apply wpAny_Call_Name_kw
  apply ld_glob J gl hm _ hdb
  exact PySem.W.callWith_K0 J.kIn kp (runQ (us := []) F quiet room bn dv J .nil z)
end
abbrev FnG := @FnOk
/-! ### calls -/
/-- a def at the module's name x -/
structure Dc (c : Md) (x : Str) (ps : List Str) (k : Nat) (sp : Sp) : Prop where
  ex : ∃ (f : Addr) (fd : FuncData), FnG c.prog c.w c.K c.mg c.base noX k f fd ps sp ∧ c.mg x = some (.ref f) ∧ PySem.W.keepIn c.K (.ref f) = true ∧ Binds c.K fd ps []
theorem e_call {x : Str} {p : Pos} {e : Expr} {es : List Expr} {ps : List Str} {k : Nat} {sp : Sp} (D : Dc c.toMd x ps k sp) (q : RA c (e :: es) σ H fun vs H1 => sp vs H1 Q fun _ _ _ => False) (hk : k ≤ c.k := by exact Nat.le_of_ble_eq_true rfl) (hg : c.sc.names.lookup x = some .globalImplicit := by rfl)
    (hdb : (x == ("__debug__" : Str)) = false := by decide) (he : ∀ env, starEach (e :: es) env = (false, eval e env) :: starEach es env := by intro _; rfl) (hpl : ∀ env, (backTo pos (starEach es env)).any (·.1) = false := by intro _; rfl) :
    RE c (.Call (.Name x p) (e :: es) [] pos) σ H Q := by
  obtain ⟨f, fd, F, hm, hkp, hb⟩ := D.ex
  refine re_of (t := tCall sp [] (fun _ _ _ => False) (RA c (e :: es))) (fun X h => ?_) ?_
  · refine pe_call (CX := fun _ _ _ _ _ _ => False) (k := k) (f := f) (fd := fd) (ps := ps) (ds := []) ?_ (h.room.mono hk) (gl_of h hg) (by rw [h.mg]; exact hm) (by rw [h.K]; exact hkp) (by rw [h.K]; exact hb) .nil (fun _ _ _ _ _ _ _ z => z.elim) (pa_ra h) hdb (he _) (hpl _)
    rw [h.prog, h.w, h.K, h.mg, h.base]; exact F
  · show RA c (e :: es) σ H fun vs H1 => sp (vs ++ []) H1 Q fun _ _ _ => False
    simpa only [List.append_nil] using q
theorem e_call0 {x : Str} {p : Pos} {ps : List Str} {k : Nat} {sp : Sp} (D : Dc c.toMd x ps k sp) (q : sp [] H Q fun _ _ _ => False) (hk : k ≤ c.k := by exact Nat.le_of_ble_eq_true rfl) (hg : c.sc.names.lookup x = some .globalImplicit := by rfl)
    (hdb : (x == ("__debug__" : Str)) = false := by decide) : RE c (.Call (.Name x p) [] [] pos) σ H Q := by
  obtain ⟨f, fd, F, hm, hkp, hb⟩ := D.ex
  refine re_of (t := tCall sp [] (fun _ _ _ => False) tNil) (fun X h => ?_) q
  refine pe_call0 (CX := fun _ _ _ _ _ _ => False) (k := k) (f := f) (fd := fd) (ps := ps) (ds := []) ?_ (h.room.mono hk) (gl_of h hg) (by rw [h.mg]; exact hm) (by rw [h.K]; exact hkp) (by rw [h.K]; exact hb) .nil (fun _ _ _ _ _ _ _ z => z.elim) hdb
  rw [h.prog, h.w, h.K, h.mg, h.base]; exact F
/-- a def at the module's name x -/
structure DcQ (c : Md) (x : Str) (ps : List Str) (k : Nat) (sp : Sp) : Prop where
  ex : ∃ (f : Addr) (fd : FuncData), FnQ c.prog c.w c.K c.mg c.base noX k f fd ps sp ∧ c.mg x = some (.ref f) ∧ PySem.W.keepIn c.K (.ref f) = true ∧ Binds c.K fd ps []
theorem e_callQ {x : Str} {p : Pos} {e : Expr} {es : List Expr} {ps : List Str} {k : Nat} {sp : Sp} (D : DcQ c.toMd x ps k sp) (q : RA c (e :: es) σ H fun vs H1 => sp vs H1 Q fun _ _ _ => False) (hq : c.g = true := by rfl) (hk : k ≤ c.k := by exact Nat.le_of_ble_eq_true rfl) (hg : c.sc.names.lookup x = some .globalImplicit := by rfl)
    (hdb : (x == ("__debug__" : Str)) = false := by decide) (he : ∀ env, starEach (e :: es) env = (false, eval e env) :: starEach es env := by intro _; rfl) (hpl : ∀ env, (backTo pos (starEach es env)).any (·.1) = false := by intro _; rfl) :
    RE c (.Call (.Name x p) (e :: es) [] pos) σ H Q := by
  obtain ⟨f, fd, F, hm, hkp, hb⟩ := D.ex
  refine re_of (t := tCall sp [] (fun _ _ _ => False) (RA c (e :: es))) (fun X h => ?_) ?_
  · refine peQ_call (k := k) (f := f) (fd := fd) (ps := ps) (ds := []) ?_ (h.gd hq) (h.room.mono hk) (gl_of h hg) (by rw [h.mg]; exact hm) (by rw [h.K]; exact hkp) (by rw [h.K]; exact hb) .nil (pa_ra h) hdb (he _) (hpl _)
    rw [h.prog, h.w, h.K, h.mg, h.base]; exact F
  · show RA c (e :: es) σ H fun vs H1 => sp (vs ++ []) H1 Q fun _ _ _ => False
    simpa only [List.append_nil] using q
theorem e_callQ0 {x : Str} {p : Pos} {ps : List Str} {k : Nat} {sp : Sp} (D : DcQ c.toMd x ps k sp) (q : sp [] H Q fun _ _ _ => False) (hq : c.g = true := by rfl) (hk : k ≤ c.k := by exact Nat.le_of_ble_eq_true rfl) (hg : c.sc.names.lookup x = some .globalImplicit := by rfl)
    (hdb : (x == ("__debug__" : Str)) = false := by decide) : RE c (.Call (.Name x p) [] [] pos) σ H Q := by
  obtain ⟨f, fd, F, hm, hkp, hb⟩ := D.ex
  refine re_of (t := tCall sp [] (fun _ _ _ => False) tNil) (fun X h => ?_) q
  refine peQ_call0 (k := k) (f := f) (fd := fd) (ps := ps) (ds := []) ?_ (h.gd hq) (h.room.mono hk) (gl_of h hg) (by rw [h.mg]; exact hm) (by rw [h.K]; exact hkp) (by rw [h.K]; exact hb) .nil hdb
  rw [h.prog, h.w, h.K, h.mg, h.base]; exact F
theorem e_callB {x : Str} {id : String} {p : Pos} {e : Expr} {es : List Expr} (hm : c.mg x = none) (hv : bootBuiltins x = some (.builtin id)) (q : RA c (e :: es) σ H fun vs H1 => RC c (.builtin id) vs H1 Q) (hg : c.sc.names.lookup x = some .globalImplicit := by rfl) (hn : x ≠ "__name__" := by decide) (hdb : (x == ("__debug__" : Str)) = false := by decide)
    (he : ∀ env, starEach (e :: es) env = (false, eval e env) :: starEach es env := by intro _; rfl) (hpl : ∀ env, (backTo pos (starEach es env)).any (·.1) = false := by intro _; rfl) : RE c (.Call (.Name x p) (e :: es) [] pos) σ H Q :=
  re_of (fun X h => pe_callB (call_rc h) (gl_of h hg) (by rw [h.mg]; exact hm) hv (pa_ra h) hn hdb (he _) (hpl _)) q
theorem e_callT {x : Str} {T : String} {p : Pos} {e : Expr} {es : List Expr} (hm : c.mg x = none) (hv : bootBuiltins x = some (.type T)) (q : RA c (e :: es) σ H fun vs H1 => RC c (.type T) vs H1 Q) (hg : c.sc.names.lookup x = some .globalImplicit := by rfl) (hn : x ≠ "__name__" := by decide) (hdb : (x == ("__debug__" : Str)) = false := by decide)
    (he : ∀ env, starEach (e :: es) env = (false, eval e env) :: starEach es env := by intro _; rfl) (hpl : ∀ env, (backTo pos (starEach es env)).any (·.1) = false := by intro _; rfl) : RE c (.Call (.Name x p) (e :: es) [] pos) σ H Q :=
  re_of (fun X h => pe_callTy (call_rc h) (gl_of h hg) (by rw [h.mg]; exact hm) hv (pa_ra h) hn hdb (he _) (hpl _)) q
/-- o.name(e, ..), a builtin's method -/
theorem e_bm {T id : String} {o e : Expr} {es : List Expr} {name : Str} {apos : Pos} (pa : PlainAttrs T) (slot : Slot T name id) (hty : typeOf (.builtin id) = pure (.type "method_descriptor")) (q : RE c o σ H fun x H1 => tyV c.K T x H1 ∧ RA c (e :: es) σ H1 fun xs H2 => RM c id x xs H2 Q)
    (hbase : ∀ env, attributeBase o name env (eval o env) = eval o env := by intro _; rfl)
    (hfew : ∀ env, ((backTo pos (starEach (e :: es) env)).all (fun x => !x.1) && (backToKw pos (keywordEach [] env)).all (fun x => x.1.isSome)
      && decide ((e :: es).length + ([] : List Keyword).length + (if ([] : List Keyword).isEmpty then 0 else 1) < 30)) = true := by intro _; rfl)
    (hline : (apos.endLine == pos.line) = true := by rfl) (hs : ∀ env, starEach (e :: es) env = (false, eval e env) :: starEach es env := by intro _; rfl) (hplain : ∀ env, (backTo pos (starEach es env)).any (·.1) = false := by intro _; rfl) :
    RE c (.Call (.Attribute o name apos) (e :: es) [] pos) σ H Q := by
  refine re_of (t := tBM c.K T (RM c id) (RE c o) (RA c (e :: es))) (fun X h => ?_) q
  rw [← h.K]
  exact pe_bm pa slot hty (mt_rm h) (pe_re h) (pa_ra h) (hbase _) (hfew _) hline (hs _) (hplain _)
theorem e_bm0 {T id : String} {o : Expr} {name : Str} {apos : Pos} (pa : PlainAttrs T) (slot : Slot T name id) (hty : typeOf (.builtin id) = pure (.type "method_descriptor")) (q : RE c o σ H fun x H1 => tyV c.K T x H1 ∧ RM c id x [] H1 Q)
    (hbase : ∀ env, attributeBase o name env (eval o env) = eval o env := by intro _; rfl) (hline : (apos.endLine == pos.line) = true := by rfl) : RE c (.Call (.Attribute o name apos) [] [] pos) σ H Q := by
  refine re_of (t := tBM0 c.K T (RM c id) (RE c o)) (fun X h => ?_) q
  rw [← h.K]
  exact pe_bm0 pa slot hty (mt_rm h) (pe_re h) (hbase _) hline

/-! ### tests -/
variable {R : Bool → Hp → Prop}
theorem t_val {e : Expr} (q : RE c e σ H fun x H1 => ∃ k, x = .bl k ∧ R k H1) (he : ∀ env whole, isTrue e env whole = (do let v ← whole; standAt e.pos; holding [v] (truthy v)) := by intro _ _; rfl) : RT c e σ H R :=
  rt_of (fun X h => pt_val (pe_re h) (he _)) q
theorem t_tru {e : Expr} (q : RE c e σ H fun x H1 => ∃ k, TruV c.K x H1 k ∧ R k H1) (he : ∀ env whole, isTrue e env whole = (do let v ← whole; standAt e.pos; holding [v] (truthy v)) := by intro _ _; rfl) : RT c e σ H R :=
  rt_of (t := fun σ H Q => RE c e σ H fun x H' => ∃ k, TruV c.K x H' k ∧ Q k H') (fun X h => by rw [← h.K]; exact pt_truth (pe_re h) (he _)) q
theorem t_cmp {a b : Expr} {op : CmpOp} (q : RE c a σ H fun x H1 => RE c b σ H1 fun y H2 => RQ c op x y H2 fun z H3 => ∃ k, z = .bl k ∧ R k H3) (hm : behindInMarks op b = false := by first | rfl | exact nomark _) : RT c (.Compare a [op] [b] pos) σ H R :=
  rt_of (fun X h => pt_cmpR (op_rq h) (pe_re h) (pe_re h) hm) q
theorem t_chain {a b d : Expr} {op op' : CmpOp} (q : RE c a σ H fun x H1 => RE c b σ H1 fun y H2 => RQ c op x y H2 fun z H3 => ∃ k, z = .bl k ∧ (if k = true then RE c d σ H3 fun w' H4 => RQ c op' y w' H4 (fun z H5 => ∃ k, z = .bl k ∧ R k H5) else (∃ k, V.bl false = .bl k ∧ R k H3)))
    (hm : lastMarks [op, op'] [b, d] = false := by with_unfolding_all rfl) : RT c (.Compare a [op, op'] [b, d] pos) σ H R :=
  rt_of (t := tTest (tChain (RQ c op) (RQ c op') (RE c a) (RE c b) (RE c d))) (fun X h => pt_chain (op_rq h) (op_rq h) (pe_re h) (pe_re h) (pe_re h) hm) q
theorem t_not {a : Expr} (q : RT c a σ H fun k H1 => R (!k) H1) : RT c (.UnaryOp .Not a pos) σ H R := rt_of (fun X h => pt_not (pt_rt h)) q
theorem t_w {e : Expr} (q : RW c e σ H R) : RT c e σ H R := rt_of (fun X h => (pw_rw h).pt) q
theorem w_and1 {a : Expr} (q : RT c a σ H R) : RW c (.BoolOp .And [a] pos) σ H R := rw_of (fun X h => pw_and1 (pt_rt h)) q
theorem w_or1 {a : Expr} (q : RT c a σ H R) : RW c (.BoolOp .Or [a] pos) σ H R := rw_of (fun X h => pw_or1 (pt_rt h)) q
theorem w_and {a b : Expr} {rest : List Expr} (q : RT c a σ H fun k H1 => if k = true then RW c (.BoolOp .And (b :: rest) pos) σ H1 R else R false H1) : RW c (.BoolOp .And (a :: b :: rest) pos) σ H R :=
  rw_of (fun X h => pw_and (pt_rt h) (pw_rw h)) q
theorem w_or {a b : Expr} {rest : List Expr} (q : RT c a σ H fun k H1 => if k = true then R true H1 else RW c (.BoolOp .Or (b :: rest) pos) σ H1 R) : RW c (.BoolOp .Or (a :: b :: rest) pos) σ H R :=
  rw_of (fun X h => pw_or (pt_rt h) (pw_rw h)) q
/-! ### statements -/
variable {D : Ends} {nx : L2.St → Hp → Prop} {rt : VK} {bk ct : L2.St → Hp → Prop}
theorem b_nil (q : D.nx σ H) : RB c [] D σ H := rb_of (fun _ _ => pss_nil) q
theorem b_cons {st : Stmt} {rest : List Stmt} (q : RS c st ⟨fun σ1 H1 => RB c rest ⟨nx, rt, bk, ct⟩ σ1 H1, rt, bk, ct⟩ σ H) : RB c (st :: rest) ⟨nx, rt, bk, ct⟩ σ H := rb_of (t := tSeq (RS c st) (RB c rest)) (fun X h => pss_cons (ps_rs h) (ps_rb h)) q
/-- a statement, then the rest, with a word between them -/
theorem b_cut {st : Stmt} {rest : List Stmt} (Mid : L2.St → Hp → Prop) (q : RS c st ⟨Mid, rt, bk, ct⟩ σ H) (q2 : ∀ σ1 H1, Mid σ1 H1 → RB c rest ⟨nx, rt, bk, ct⟩ σ1 H1) : RB c (st :: rest) ⟨nx, rt, bk, ct⟩ σ H :=
  b_cons (RS.mono (D := ⟨Mid, rt, bk, ct⟩) (D' := ⟨fun σ1 H1 => RB c rest ⟨nx, rt, bk, ct⟩ σ1 H1, rt, bk, ct⟩) ⟨q2, fun _ _ h => h, fun _ _ h => h, fun _ _ h => h⟩ q)
theorem b_one {st : Stmt} (q : RS c st D σ H) : RB c [st] D σ H := rb_of (fun X h => pss_one (ps_rs h)) q
theorem s_pass (q : D.nx σ H) : RS c (.Pass pos) D σ H := rs_of (fun _ _ => ps_pass) q
theorem s_break (q : D.bk σ H) : RS c (.Break pos) D σ H := rs_of (fun _ _ => ps_break) q
theorem s_cont (q : D.ct σ H) : RS c (.Continue pos) D σ H := rs_of (fun _ _ => ps_continue) q
theorem s_ret {e : Expr} (q : RE c e σ H D.rt) : RS c (.Return (some e) pos) D σ H := rs_of (fun X h => ps_ret (pe_re h)) q
theorem s_retN (q : D.rt .non H) : RS c (.Return none pos) D σ H := rs_of (fun X h => ps_retN) q
theorem s_expr {e : Expr} (q : RE c e σ H fun _ H1 => D.nx σ H1) (hs : ∀ env, swapsWith e none pos.line env = pure false := by intro _; rfl) : RS c (.Expr e pos) D σ H := rs_of (fun X h => ps_expr (pe_re h) (hs _)) q
theorem s_if {d : Expr} {a b : List Stmt} (q : RT c d σ H fun k H1 => if k = true then RB c a D σ H1 else RB c b D σ H1) : RS c (.If d a b pos) D σ H := rs_of (fun X h => ps_if (pt_rt h) (ps_rb h) (ps_rb h)) q
theorem s_asg {tg e : Expr} (q : RE c e σ H fun x H1 => RG c tg x σ H1 D.nx) (hs : ∀ env, swapsWithSole [tg] e pos.line env = pure false := by intro _; rfl) (hw : ∀ env, swappedStores [tg] e env = pure none := by intro _; rfl)
    (h1 : ∀ env, (assignEach [tg] env).map (·.2) = [assign tg env] := by intro _; rfl) : RS c (.Assign [tg] e pos) D σ H := rs_of (fun X h => ps_asg (pe_re h) (pg_rg h) (hs _) (hw _) (h1 _)) q
theorem s_set {i : Nat} {x : Str} {e : Expr} {pos' : Pos} (hA : At c.N i x) (q : RE c e σ H fun v H1 => D.nx (σ.set i (some v)) H1) (hx : c.sc.names.lookup x = some .local ∨ (c.sc.names.lookup x = some .cell ∧ c.top = true) := by first | exact Or.inl rfl | exact Or.inr ⟨rfl, rfl⟩)
    (hs : ∀ env, swapsWith e (some (.Name x pos')) pos.line env = pure false := by intro _; rfl) : RS c (.Assign [.Name x pos'] e pos) D σ H := by
  refine rs_of (t := tAsg (RE c e) (gName i)) (fun X h => ?_) q
  refine ps_set (by rw [h.N]; exact h.nd) (by rw [h.N]; exact hA.get) ?_ (pe_re h) (hs _) ?_
  · rcases hx with z | z
    · exact .inl (by rw [h.sc]; exact z)
    · exact .inr (by rw [h.sc]; exact z.1)
  · rcases hx with z | z
    · exact .inr (by rw [h.sc]; exact z)
    · exact .inl (h.top z.2 _)
theorem g_name {i : Nat} {x : Str} {v : V} {R : L2.St → Hp → Prop} (hA : At c.N i x) (q : R (σ.set i (some v)) H) (hx : c.sc.names.lookup x = some .local ∨ (c.sc.names.lookup x = some .cell ∧ c.top = true) := by first | exact Or.inl rfl | exact Or.inr ⟨rfl, rfl⟩) : RG c (.Name x pos) v σ H R := by
  refine rg_of (t := gName i) (fun X h => ?_) q
  refine pg_name (by rw [h.N]; exact h.nd) (by rw [h.N]; exact hA.get) ?_ ?_
  · rcases hx with z | z
    · exact .inl (by rw [h.sc]; exact z)
    · exact .inr (by rw [h.sc]; exact z.1)
  · rcases hx with z | z
    · exact .inr (by rw [h.sc]; exact z)
    · exact .inl (h.top z.2 _)
theorem gs_nil {R : L2.St → Hp → Prop} (q : R σ H) : RGs c [] [] σ H R := rgs_of (fun _ _ => pgs_nil) ⟨rfl, q⟩
theorem gs_cons {e : Expr} {es : List Expr} {v : V} {vs : List V} {R : L2.St → Hp → Prop} (q : RG c e v σ H fun σ1 H1 => RGs c es vs σ1 H1 R) (hs : ∀ env, (assignEach (e :: es) env).map (·.2) = assign e env :: (assignEach es env).map (·.2) := by intro _; rfl) : RGs c (e :: es) (v :: vs) σ H R :=
  rgs_of (t := gCons (RG c e) (RGs c es)) (fun X h => pgs_cons (pg_rg h) (pg_rgs h) (hs _)) ⟨v, vs, rfl, q⟩
theorem g_tup {es : List Expr} {k : Nat} {a : Addr} {xs : List V} {n : Nat} {R : L2.St → Hp → Prop} (ht : SqT c.K H a xs) (q : RGs c es xs σ H R) (hl : xs.length = n := by rfl) (hn : ∀ env, (assignEach es env).length = n := by intro _; rfl) (hst : ∀ env, (assignEach es env).findIdx? (·.1) = none := by intro _; rfl) :
    RG c (.Tuple es k pos) (.ref a) σ H R := rg_of (t := gTup c.K n (RGs c es)) (fun X h => by rw [← h.K]; exact pg_tup h.calm (pg_rgs h) (hn _) (hst _)) ⟨a, xs, rfl, ht, hl, q⟩
theorem g_sub {o i : Expr} {v : V} {R : L2.St → Hp → Prop} (q : RE c o σ H fun x H1 => RE c i σ H1 fun y H2 => RP c x y v H2 fun H3 => R σ H3)
    (ha : ∀ env v, assign (.Subscript o i pos) env v = (do
      let ov ← holding [v] (eval o env)
      let iv ← holding [v, ov] (eval i env)
      standAt pos
      holding [v, ov, iv] (setItem ov iv v)
      release [v, ov, iv] []) := by intro _ _; rfl) : RG c (.Subscript o i pos) v σ H R := rg_of (fun X h => pg_sub (pe_re h) (pe_re h) (set_rp h) (ha _)) q
/-- d[k] = v -/
theorem s_dput {o i e : Expr} {pos' : Pos} (q : RE c e σ H fun v H1 => RE c o σ H1 fun x H2 => RE c i σ H2 fun y H3 => ∃ a H4, x = .ref a ∧ DPut H3 a y v H4 ∧ D.nx σ H4)
    (hs : ∀ env, swapsWith e (some (.Subscript o i pos')) pos.line env = pure false := by intro _; rfl) : RS c (.Assign [.Subscript o i pos'] e pos) D σ H :=
  rs_of (fun X h => ps_dput (by have := h.room.units; omega) (pe_re h) (pe_re h) (pe_re h) (hs _)) q
/-- a, b = x, y -/
theorem s_par {i j : Nat} {x y : Str} {a b : Expr} {px py pt : Pos} {kt k2 pt2} (hi : At c.N i x) (hj : At c.N j y) (q : RE c a σ H fun v H1 => RE c b σ H1 fun w H2 => D.nx ((σ.set i (some v)).set j (some w)) H2) (hij : i ≠ j := by decide)
    (hx : c.sc.names.lookup x = some .local := by rfl) (hy : c.sc.names.lookup y = some .local := by rfl)
    (hw : ∀ env : Env, env.scope = c.sc → swappedStores [.Tuple [.Name x px, .Name y py] kt pt] (.Tuple [a, b] k2 pt2) env = pure (some [x, y]))
    (hs : ∀ env, swapsWithSole [.Tuple [.Name x px, .Name y py] kt pt] (.Tuple [a, b] k2 pt2) pos.line env = pure false := by intro _; rfl)
    (h1 : ∀ env, starEach [a, b] env = (false, eval a env) :: starEach [b] env := by intro _; rfl) (h2 : ∀ env, starEach [b] env = (false, eval b env) :: starEach [] env := by intro _; rfl) :
    RS c (.Assign [.Tuple [.Name x px, .Name y py] kt pt] (.Tuple [a, b] k2 pt2) pos) D σ H := by
  refine rs_of (t := tPar i j (RA c [a, b])) (fun X h => ps_par h.calm (by rw [h.N]; exact h.nd) (by rw [h.N]; exact hi.get) (by rw [h.N]; exact hj.get) hij (by rw [h.sc]; exact hx) (by rw [h.sc]; exact hy) (pa_ra h) (hw _ h.sc) (hs _)) ?_
  refine a_cons (RE.mono (fun v H1 z => a_cons (RE.mono (fun w H2 z => a_nil ⟨v, w, rfl, z⟩) z) h2) q) h1

/-! ### what is walked -/
theorem i_list {tg l : Expr} {R : It → Hp → Prop} (q : RE c l σ H fun x H1 => ∃ a, x = .ref a ∧ (∃ xs, SqL c.K H1 a xs) ∧ R (Itl c.K a) H1) : RI c tg l σ H R :=
  ri_of (t := iList c.K (RE c l)) (fun X h => by rw [← h.K]; exact pi_list (pe_re h)) q
theorem i_tup {tg l : Expr} {R : It → Hp → Prop} (q : RE c l σ H fun x H1 => ∃ a, x = .ref a ∧ (∃ xs, SqT c.K H1 a xs) ∧ R (Itt c.K a) H1) : RI c tg l σ H R :=
  ri_of (t := iTup c.K (RE c l)) (fun X h => by rw [← h.K]; exact pi_tup (pe_re h)) q
theorem i_range1 {tg a : Expr} {p : Pos} {R : It → Hp → Prop} (hm : c.mg "range" = none) (q : RA c [a] σ H fun vs H1 => ∃ j : Int, vs = [.int j] ∧ -(2 ^ 62) ≤ j ∧ j < 2 ^ 62 ∧ R (Itr 0 j.toNat) H1) (hg : c.sc.names.lookup ("range" : Str) = some .globalImplicit := by rfl) (hs : ∀ env, starEach [a] env = [(false, eval a env)] := by intro _; rfl) :
    RI c tg (.Call (.Name "range" p) [a] [] pos) σ H R := ri_of (t := iRng1 (RA c [a])) (fun X h => pi_range1 (gl_of h hg) (by rw [h.mg]; exact hm) (pa_ra h) (hs _)) q
theorem i_range2 {tg a b : Expr} {p : Pos} {R : It → Hp → Prop} (hm : c.mg "range" = none) (q : RA c [a, b] σ H fun vs H1 => ∃ i j : Int, vs = [.int i, .int j] ∧ (-(2 ^ 62) ≤ i ∧ i < 2 ^ 62 ∧ -(2 ^ 62) ≤ j ∧ j < 2 ^ 62) ∧ R (Itr i (j - i).toNat) H1) (hg : c.sc.names.lookup ("range" : Str) = some .globalImplicit := by rfl)
    (hs : ∀ env, starEach [a, b] env = [(false, eval a env), (false, eval b env)] := by intro _; rfl) (hs2 : ∀ env, starEach [b] env = [(false, eval b env)] := by intro _; rfl) :
    RI c tg (.Call (.Name "range" p) [a, b] [] pos) σ H R := ri_of (t := iRng2 (RA c [a, b])) (fun X h => pi_range2 (gl_of h hg) (by rw [h.mg]; exact hm) (pa_ra h) (hs _) (hs2 _)) q

/-! ### loops -/
theorem s_for {tg iter : Expr} {body : List Stmt} (q : RI c tg iter σ H fun J H1 => ∃ W : Nat → Nat → L2.St → Hp → Prop, (∃ m, W 0 m σ H1) ∧ ∀ i m σ H, W i m σ H →
      (J.stop i H ∧ nx σ H) ∨ (J.go i H ∧ ∃ N : L2.St → Hp → Prop, (∀ σ' H', N σ' H' → ∃ m', m' < m ∧ W (i + 1) m' σ' H') ∧ ∀ x H', J.yld i H x H' → RG c tg x σ H' fun σ2 H2 => RB c body ⟨N, rt, nx, N⟩ σ2 H2))
    (hs : ∀ env x, foldedSetIterable iter env x = pure x := by intro _ _; rfl) : RS c (.For tg iter body [] pos) ⟨nx, rt, bk, ct⟩ σ H :=
  rs_of (t := tFor (RI c tg iter) (RG c tg) (RB c body)) (fun X h => ps_for h.own h.calm (pi_ri h) (pg_rg h) (ps_rb h) (hs _)) q
theorem s_forT {tg iter : Expr} {body : List Stmt} (q : RE c iter σ H fun x H1 => ∃ a xs, x = .ref a ∧ SqT c.K H1 a xs ∧ ∃ Pv : Nat → L2.St → Hp → Prop, Pv 0 σ H1 ∧ (∀ i σ' H', i ≤ xs.length → Pv i σ' H' → SqT c.K H' a xs) ∧
      (∀ i x σ' H', xs[i]? = some x → Pv i σ' H' → RG c tg x σ' H' fun σ2 H2 => RB c body ⟨Pv (i + 1), rt, nx, Pv (i + 1)⟩ σ2 H2) ∧ ∀ σ' H', Pv xs.length σ' H' → nx σ' H')
    (hs : ∀ env x, foldedSetIterable iter env x = pure x := by intro _ _; rfl) : RS c (.For tg iter body [] pos) ⟨nx, rt, bk, ct⟩ σ H := by
  refine s_for (i_tup (RE.mono (fun x H1 z => ?_) q)) hs
  obtain ⟨a, xs, rfl, ht, Pv, h0, hl, hs, hd⟩ := z
  exact ⟨a, rfl, ⟨xs, ht⟩, for_tup (tb := RB c body) (D := ⟨nx, rt, bk, ct⟩) Pv h0 hl hs hd⟩
theorem s_forL {tg iter : Expr} {body : List Stmt} (q : RE c iter σ H fun x H1 => ∃ a xs, x = .ref a ∧ SqL c.K H1 a xs ∧ ∃ Pv : Nat → L2.St → Hp → Prop, Pv 0 σ H1 ∧ (∀ i σ' H', i ≤ xs.length → Pv i σ' H' → SqL c.K H' a xs) ∧
      (∀ i x σ' H', xs[i]? = some x → Pv i σ' H' → RG c tg x σ' H' fun σ2 H2 => RB c body ⟨Pv (i + 1), rt, nx, Pv (i + 1)⟩ σ2 H2) ∧ ∀ σ' H', Pv xs.length σ' H' → nx σ' H')
    (hs : ∀ env x, foldedSetIterable iter env x = pure x := by intro _ _; rfl) : RS c (.For tg iter body [] pos) ⟨nx, rt, bk, ct⟩ σ H := by
  refine s_for (i_list (RE.mono (fun x H1 z => ?_) q)) hs
  obtain ⟨a, xs, rfl, ht, Pv, h0, hl, hs, hd⟩ := z
  exact ⟨a, rfl, ⟨xs, ht⟩, for_list (tb := RB c body) (D := ⟨nx, rt, bk, ct⟩) Pv h0 hl hs hd⟩
theorem s_forR1 {tg a : Expr} {p ppos : Pos} {body : List Stmt} (hm : c.mg "range" = none) (q : RE c a σ H fun x H1 => ∃ n : Int, x = .int n ∧ -(2 ^ 62) ≤ n ∧ n < 2 ^ 62 ∧ ∃ Pv : Nat → L2.St → Hp → Prop, Pv 0 σ H1 ∧
      (∀ i σ' H', i < n.toNat → Pv i σ' H' → RG c tg (.int (i : Int)) σ' H' fun σ2 H2 => RB c body ⟨Pv (i + 1), rt, nx, Pv (i + 1)⟩ σ2 H2) ∧ ∀ σ' H', Pv n.toNat σ' H' → nx σ' H')
    (hg : c.sc.names.lookup ("range" : Str) = some .globalImplicit := by rfl) (h1 : ∀ env, starEach [a] env = [(false, eval a env)] := by intro _; rfl) (hs : ∀ env x, foldedSetIterable (.Call (.Name "range" p) [a] [] ppos) env x = pure x := by intro _ _; rfl) :
    RS c (.For tg (.Call (.Name "range" p) [a] [] ppos) body [] pos) ⟨nx, rt, bk, ct⟩ σ H := by
  refine s_for (i_range1 hm (a_cons (RE.mono (fun x H1 z => ?_) q) (fun env => by rw [h1]; rfl)) hg h1) hs
  obtain ⟨n, rfl, n1, n2, Pv, h0, hs, hd⟩ := z
  refine a_nil ⟨n, rfl, n1, n2, for_range (tb := RB c body) (D := ⟨nx, rt, bk, ct⟩) (lo := 0) (n := n.toNat) Pv h0 (fun i σ' H' hi p => ?_) hd⟩
  rw [Int.zero_add]
  exact hs i σ' H' hi p
theorem s_while {d : Expr} {body : List Stmt} (Pv : Nat → L2.St → Hp → Prop) (m : Nat) (h0 : Pv m σ H)
    (q : ∀ m σ H, Pv m σ H → RT c d σ H fun b H1 => if b = true then RB c body ⟨fun σ' H' => ∃ m', m' < m ∧ Pv m' σ' H', rt, nx, fun σ' H' => ∃ m', m' < m ∧ Pv m' σ' H'⟩ σ H1 else nx σ H1) : RS c (.While d body [] pos) ⟨nx, rt, bk, ct⟩ σ H := by
  refine rs_of (t := tWhile (RT c d) (RB c body)) (fun X h => ps_while h.own (pt_rt h) (ps_rb h)) ⟨Pv, ⟨m, h0⟩, fun m σ H p => RT.mono (fun b H1 z => ?_) (q m σ H p)⟩
  cases b with
  | true => exact ⟨_, fun _ _ z => z, z⟩
  | false => exact z
end
/-! ### what a goal asks of, told by its head -/
section
variable {c : Cd} {σ : L2.St} {H : Hp}
theorem gRE {e : Expr} {Q : VK} (q : RE c e σ H Q) : RE c e σ H Q := q
theorem gRT {e : Expr} {Q : Bool → Hp → Prop} (q : RT c e σ H Q) : RT c e σ H Q := q
theorem gRW {e : Expr} {Q : Bool → Hp → Prop} (q : RW c e σ H Q) : RW c e σ H Q := q
theorem gRA {e : List Expr} {Q : List V → Hp → Prop} (q : RA c e σ H Q) : RA c e σ H Q := q
theorem gRS {e : Stmt} {D : Ends} (q : RS c e D σ H) : RS c e D σ H := q
theorem gRB {e : List Stmt} {D : Ends} (q : RB c e D σ H) : RB c e D σ H := q
theorem gRG {e : Expr} {v : V} {Q : L2.St → Hp → Prop} (q : RG c e v σ H Q) : RG c e v σ H Q := q
theorem gRO {f : Operator} {x y : V} {Q : VK} (q : RO c f x y H Q) : RO c f x y H Q := q
theorem gRQ {f : CmpOp} {x y : V} {Q : VK} (q : RQ c f x y H Q) : RQ c f x y H Q := q
theorem gRU {f : UnaryOp} {x : V} {Q : VK} (q : RU c f x H Q) : RU c f x H Q := q
theorem gRC {f : Value} {xs : List V} {Q : VK} (q : RC c f xs H Q) : RC c f xs H Q := q
theorem gRX {x y : V} {Q : VK} (q : RX c x y H Q) : RX c x y H Q := q
theorem gRPo {e : Option Expr} {Q : Option Int → Hp → Prop} (q : RPo c e σ H Q) : RPo c e σ H Q := q
end
end G

namespace G
open PySem PySem.Spec PyProof.Rows L2

/-! ### heaps: what stays -/
structure Tp (H H' : Hp) : Prop where
  t : ∀ a xs, H a = some (.tup xs) → H' a = some (.tup xs)
  f : ∀ a o u, H a = some (.frz o u) → H' a = some (.frz o u)
theorem Tp.refl (H : Hp) : Tp H H := ⟨fun _ _ h => h, fun _ _ _ h => h⟩
theorem Tp.trans {H H1 H2 : Hp} (a : Tp H H1) (b : Tp H1 H2) : Tp H H2 := ⟨fun _ _ h => b.t _ _ (a.t _ _ h), fun _ _ _ h => b.f _ _ _ (a.f _ _ _ h)⟩
theorem tp_same {H H' : Hp} (s : Same H H') : Tp H H' := ⟨fun _ _ h => s _ _ h, fun _ _ _ h => s _ _ h⟩
theorem Tp.sqt {K : PySem.W.Frag} {H H' : Hp} {a : Addr} {xs : List V} (e : Tp H H') (h : SqT K H a xs) : SqT K H' a xs := by
  rcases h with (h | ⟨o, h⟩) | h
  · exact .inl (.inl (e.t _ _ h))
  · exact .inl (.inr ⟨o, e.f _ _ _ h⟩)
  · exact .inr h
theorem same_new {H : Hp} {p : Addr} {o : HO} (h : H p = none) : Same H (upd H p o) := fun b u q => by rw [upd_ne (ne_of_none q h)]; exact q
/-- all but the thing at m stays; m is no tuple and not locked -/
structure Kp (m : Addr) (H H' : Hp) : Prop where
  k : ∀ a o, a ≠ m → H a = some o → H' a = some o
  t : Tp H H'
theorem kp_same {m : Addr} {H H' : Hp} (s : Same H H') : Kp m H H' := ⟨fun _ _ _ h => s _ _ h, tp_same s⟩
theorem Kp.refl (m : Addr) (H : Hp) : Kp m H H := kp_same (Same.refl H)
theorem Kp.trans {m : Addr} {H H1 H2 : Hp} (a : Kp m H H1) (b : Kp m H1 H2) : Kp m H H2 := ⟨fun _ _ n h => b.k _ _ n (a.k _ _ n h), a.t.trans b.t⟩
/-- a list (of ours) is written -/
theorem kp_upd {H : Hp} {p : Addr} {o o' : HO} (h : H p = some o) (h1 : ∀ xs, o ≠ .tup xs) (h2 : ∀ b u, o ≠ .frz b u) : Kp p H (upd H p o') :=
  ⟨fun a u n q => by rw [upd_ne n]; exact q, fun a xs q => by rw [upd_ne (ne_of q h fun e => h1 _ e.symm)]; exact q, fun a b u q => by rw [upd_ne (ne_of q h fun e => h2 _ _ e.symm)]; exact q⟩
/-- a thing that the older heap does not know is written: for it nothing has changed -/
theorem same_mut {H H1 : Hp} {p : Addr} {o : HO} (s : Same H H1) (h : H p = none) : Same H (upd H1 p o) := fun b u q => by rw [upd_ne (ne_of_none q h)]; exact s _ _ q
theorem kp_mut {m : Addr} {H H1 : Hp} {p : Addr} {o : HO} (s : Kp m H H1) (h : H p = none) : Kp m H (upd H1 p o) :=
  ⟨fun b u n q => by rw [upd_ne (ne_of_none q h)]; exact s.k _ _ n q, fun b u q => by rw [upd_ne (ne_of_none q h)]; exact s.t.t _ _ q, fun b u v q => by rw [upd_ne (ne_of_none q h)]; exact s.t.f _ _ _ q⟩

/-! ### data that never changes: none, bools, ints, texts, tuples of these -/
mutual
inductive Dt (K : PySem.W.Frag) (H : Hp) : V → PyData → Prop
  | non : Dt K H .non .none
  | bl (b : Bool) : Dt K H (.bl b) (.bool b)
  | int (i : Int) : Dt K H (.int i) (.int i)
  | str (x : Str) : Dt K H (.str x) (.str x)
  | tup {a : Addr} {xs : List V} {ds : List PyData} : SqT K H a xs → DtAll K H xs ds → Dt K H (.ref a) (.tuple ds)
  | lst {a : Addr} {o : Obj} {xs : List V} {ds : List PyData} : H a = some (.frz o (.lst xs)) → DtAll K H xs ds → Dt K H (.ref a) (.list ds)
inductive DtAll (K : PySem.W.Frag) (H : Hp) : List V → List PyData → Prop
  | nil : DtAll K H [] []
  | cons {v : V} {vs : List V} {d : PyData} {ds : List PyData} : Dt K H v d → DtAll K H vs ds → DtAll K H (v :: vs) (d :: ds)
end
section
variable {K : PySem.W.Frag} {H H' : Hp}
mutual
theorem Dt.mono (e : Tp H H') : ∀ {d : PyData} {v : V}, Dt K H v d → Dt K H' v d
  | .none, _, h => by cases h; exact .non
  | .bool _, _, h => by cases h; exact .bl _
  | .int _, _, h => by cases h; exact .int _
  | .str _, _, h => by cases h; exact .str _
  | .tuple ds, _, h => by
    cases h with
    | tup hs ha => exact .tup (e.sqt hs) (DtAll.mono e ha)
  | .list ds, _, h => by
    cases h with
    | lst hs ha => exact .lst (e.f _ _ _ hs) (DtAll.mono e ha)
  | .dict _, _, h => by cases h
theorem DtAll.mono (e : Tp H H') : ∀ {ds : List PyData} {vs : List V}, DtAll K H vs ds → DtAll K H' vs ds
  | [], _, h => by cases h; exact .nil
  | d :: ds, _, h => by
    cases h with
    | cons h1 h2 => exact .cons (Dt.mono e h1) (DtAll.mono e h2)
end
mutual
theorem Dt.dp : ∀ {d : PyData} {v : V}, Dt K H v d → Dp K H v d
  | .none, _, h => by cases h; exact .non
  | .bool _, _, h => by cases h; exact .bl _
  | .int _, _, h => by cases h; exact .int _
  | .str _, _, h => by cases h; exact .str _
  | .tuple ds, _, h => by
    cases h with
    | tup hs ha => exact .tup hs (DtAll.dp ha)
  | .list ds, _, h => by
    cases h with
    | lst hs ha => exact .lst (.inl (.inr ⟨_, hs⟩)) (DtAll.dp ha)
  | .dict _, _, h => by cases h
theorem DtAll.dp : ∀ {ds : List PyData} {vs : List V}, DtAll K H vs ds → DpAll K H vs ds
  | [], _, h => by cases h; exact .nil
  | d :: ds, _, h => by
    cases h with
    | cons h1 h2 => exact .cons (Dt.dp h1) (DtAll.dp h2)
end
theorem DtAll.len : ∀ {ds : List PyData} {vs : List V}, DtAll K H vs ds → vs.length = ds.length
  | [], _, h => by cases h; rfl
  | d :: ds, _, h => by
    cases h with
    | cons _ h2 => exact congrArg Nat.succ (DtAll.len h2)
theorem DtAll.get : ∀ {ds : List PyData} {vs : List V} {i : Nat} {d : PyData}, DtAll K H vs ds → ds[i]? = some d → ∃ v, vs[i]? = some v ∧ Dt K H v d
  | [], _, _, _, _, e => by simp at e
  | d :: ds, _, 0, _, h, e => by
    cases h with
    | cons h1 _ =>
      simp at e
      subst e
      exact ⟨_, rfl, h1⟩
  | d :: ds, _, i + 1, _, h, e => by
    cases h with
    | cons _ h2 =>
      obtain ⟨v, e1, h3⟩ := DtAll.get (i := i) h2 (by simpa using e)
      exact ⟨v, by simpa using e1, h3⟩
theorem DtAll.getV : ∀ {ds : List PyData} {vs : List V} {i : Nat} {v : V}, DtAll K H vs ds → vs[i]? = some v → ∃ d, ds[i]? = some d ∧ Dt K H v d
  | [], _, _, _, h, e => by cases h; simp at e
  | d :: ds, _, 0, _, h, e => by
    cases h with
    | cons h1 _ =>
      simp at e
      subst e
      exact ⟨_, rfl, h1⟩
  | d :: ds, _, i + 1, _, h, e => by
    cases h with
    | cons _ h2 =>
      obtain ⟨v, e1, h3⟩ := DtAll.getV (i := i) h2 (by simpa using e)
      exact ⟨v, by simpa using e1, h3⟩
theorem DtAll.app : ∀ {ds es : List PyData} {vs us : List V}, DtAll K H vs ds → DtAll K H us es → DtAll K H (vs ++ us) (ds ++ es)
  | [], _, _, _, h, k => by cases h; exact k
  | d :: ds, _, _, _, h, k => by
    cases h with
    | cons h1 h2 => exact .cons h1 (DtAll.app h2 k)
theorem DtAll.drop : ∀ {ds : List PyData} {vs : List V} (n : Nat), DtAll K H vs ds → DtAll K H (vs.drop n) (ds.drop n)
  | _, _, 0, h => h
  | [], _, _ + 1, h => by cases h; exact .nil
  | d :: ds, _, n + 1, h => by
    cases h with
    | cons _ h2 => exact DtAll.drop n h2
theorem DtAll.take : ∀ {ds : List PyData} {vs : List V} (n : Nat), DtAll K H vs ds → DtAll K H (vs.take n) (ds.take n)
  | _, _, 0, h => .nil
  | [], _, _ + 1, h => by cases h; exact .nil
  | d :: ds, _, n + 1, h => by
    cases h with
    | cons h1 h2 => exact .cons h1 (DtAll.take n h2)
theorem Dt.intE {v : V} {i : Int} (h : Dt K H v (.int i)) : v = .int i := by cases h; rfl
theorem Dt.strE {v : V} {i : Str} (h : Dt K H v (.str i)) : v = .str i := by cases h; rfl
theorem Dt.blE {v : V} {i : Bool} (h : Dt K H v (.bool i)) : v = .bl i := by cases h; rfl
theorem Dt.nonE {v : V} (h : Dt K H v .none) : v = .non := by cases h; rfl
theorem Dt.tupE {v : V} {ds : List PyData} (h : Dt K H v (.tuple ds)) : ∃ a xs, v = .ref a ∧ SqT K H a xs ∧ DtAll K H xs ds := by
  cases h with
  | tup h1 h2 => exact ⟨_, _, rfl, h1, h2⟩
end
theorem atI_map {α β : Type} {R : α → β → Prop} {xs : List α} {ys : List β} (hl : xs.length = ys.length) {i : Int} {y : β} (h : atI ys i = some y) (g : ∀ (j : Nat) y, ys[j]? = some y → ∃ x, xs[j]? = some x ∧ R x y) : ∃ x, atI xs i = some x ∧ R x y := by
  unfold atI at h ⊢
  rw [hl]
  cases e : ixN ys.length i with
  | none => rw [e] at h; cases h
  | some j =>
    rw [e] at h
    obtain ⟨x, h1, h2⟩ := g j y h
    exact ⟨x, h1, h2⟩

/-! ### steps over data -/
section
variable {c : Cd} {σ : L2.St} {H : Hp} {Q : VK} {pos : Pos} {x y : V}
theorem ro_add {i j : Int} (q : Q (.int (i + j)) H) : RO c .Add (.int i) (.int j) H Q := ro_of (fun _ _ => op_add) ⟨i, j, rfl, rfl, q⟩
theorem ro_sub {i j : Int} (q : Q (.int (i - j)) H) : RO c .Sub (.int i) (.int j) H Q := ro_of (fun _ _ => op_sub) ⟨i, j, rfl, rfl, q⟩
theorem ro_mul {i j : Int} (hc : CMul i j) (q : Q (.int (i * j)) H) : RO c .Mult (.int i) (.int j) H Q := ro_of (fun _ _ => op_mul) ⟨i, j, rfl, rfl, hc, q⟩
theorem ro_mod {i j : Int} (hc : 0 < j) (q : Q (.int (i % j)) H) : RO c .Mod (.int i) (.int j) H Q := ro_of (fun _ _ => op_mod) ⟨i, j, rfl, rfl, hc, q⟩
theorem ro_div {i j : Int} (hc : 0 < j) (h2 : j < 1073741824) (q : Q (.int (i / j)) H) : RO c .FloorDiv (.int i) (.int j) H Q := ro_of (fun _ _ => op_fdiv) ⟨i, j, rfl, rfl, ⟨hc, h2⟩, q⟩
theorem ro_pow {i j : Int} (hc : CPow i j) (q : Q (.int (i ^ j.toNat)) H) : RO c .Pow (.int i) (.int j) H Q := ro_of (fun _ _ => op_pow) ⟨i, j, rfl, rfl, hc, q⟩
theorem ro_eq (hs : scal x y = true) (q : Q (.bl (decide (x = y))) H) : RQ c .Eq x y H Q := rq_of (fun _ _ => op_eq) ⟨hs, q⟩
theorem ro_ne (hs : scal x y = true) (q : Q (.bl (!decide (x = y))) H) : RQ c .NotEq x y H Q := rq_of (fun _ _ => op_ne) ⟨hs, q⟩
theorem ro_eqI {i j : Int} (q : Q (.bl (decide (i = j))) H) : RQ c .Eq (.int i) (.int j) H Q := ro_eq rfl (by
  have e : decide (V.int i = V.int j) = decide (i = j) := decide_eq_decide.mpr ⟨fun h => V.int.inj h, fun h => by rw [h]⟩
  rw [e]; exact q)
theorem ro_neI {i j : Int} (q : Q (.bl (!decide (i = j))) H) : RQ c .NotEq (.int i) (.int j) H Q := ro_ne rfl (by
  have e : decide (V.int i = V.int j) = decide (i = j) := decide_eq_decide.mpr ⟨fun h => V.int.inj h, fun h => by rw [h]⟩
  rw [e]; exact q)
theorem ro_eqS {i j : Str} (q : Q (.bl (decide (i = j))) H) : RQ c .Eq (.str i) (.str j) H Q := ro_eq rfl (by
  have e : decide (V.str i = V.str j) = decide (i = j) := decide_eq_decide.mpr ⟨fun h => V.str.inj h, fun h => by rw [h]⟩
  rw [e]; exact q)
theorem ro_eqB {i j : Bool} (q : Q (.bl (decide (i = j))) H) : RQ c .Eq (.bl i) (.bl j) H Q := ro_eq rfl (by
  have e : decide (V.bl i = V.bl j) = decide (i = j) := decide_eq_decide.mpr ⟨fun h => V.bl.inj h, fun h => by rw [h]⟩
  rw [e]; exact q)
theorem ro_lt {i j : Int} (q : Q (.bl (decide (i < j))) H) : RQ c .Lt (.int i) (.int j) H Q := rq_of (fun _ _ => op_lt) ⟨i, j, rfl, rfl, q⟩
theorem ro_le {i j : Int} (q : Q (.bl (decide (i ≤ j))) H) : RQ c .LtE (.int i) (.int j) H Q := rq_of (fun _ _ => op_le) ⟨i, j, rfl, rfl, q⟩
theorem ro_gt {i j : Int} (q : Q (.bl (decide (j < i))) H) : RQ c .Gt (.int i) (.int j) H Q := rq_of (fun _ _ => op_gt) ⟨i, j, rfl, rfl, q⟩
theorem ro_ge {i j : Int} (q : Q (.bl (decide (j ≤ i))) H) : RQ c .GtE (.int i) (.int j) H Q := rq_of (fun _ _ => op_ge) ⟨i, j, rfl, rfl, q⟩
theorem ro_isN (q : Q (.bl (decide (x = .non))) H) : RQ c .Is x .non H Q := rq_of (fun _ _ => op_isN) ⟨rfl, q⟩
theorem ro_notN (q : Q (.bl (!decide (x = .non))) H) : RQ c .IsNot x .non H Q := rq_of (fun _ _ => op_notN) ⟨rfl, q⟩
theorem ru_neg {i : Int} (q : Q (.int (-i)) H) : RU c .USub (.int i) H Q := ru_of (fun _ _ => un_neg) ⟨i, rfl, q⟩
/-- == of data -/
theorem ro_eqD {d e : PyData} (hx : Dp c.K H x d) (hy : Dp c.K H y e) (s1 : SeqAt.shaped d = true) (s2 : SeqAt.shaped e = true) (q : Q (.bl (PyData.eqv d e)) H) : RQ c .Eq x y H Q :=
  rq_of (r := rEqD c.K) (fun X h => by rw [← h.K]; exact op_eqD h.room.units) ⟨d, e, hx, hy, s1, s2, q⟩
theorem ro_neD {d e : PyData} (hx : Dp c.K H x d) (hy : Dp c.K H y e) (s1 : SeqAt.shaped d = true) (s2 : SeqAt.shaped e = true) (q : Q (.bl (!PyData.eqv d e)) H) : RQ c .NotEq x y H Q :=
  rq_of (r := rNeD c.K) (fun X h => by rw [← h.K]; exact op_neD h.room.units) ⟨d, e, hx, hy, s1, s2, q⟩
/-- x[i] of a tuple of data -/
theorem rx_tup {ds : List PyData} {i : Int} {d : PyData} (hx : Dt c.K H x (.tuple ds)) (hi : atI ds i = some d) (q : ∀ v, Dt c.K H v d → Q v H) : RX c x (.int i) H Q := by
  obtain ⟨a, xs, rfl, ht, ha⟩ := hx.tupE
  obtain ⟨v, h1, h2⟩ := atI_map (R := fun v d => Dt c.K H v d) ha.len hi fun j y hj => ha.get hj
  exact rx_of (r := rIxT c.K) (fun X h => by rw [← h.K]; exact ix_tup) ⟨a, xs, i, v, rfl, rfl, ht, h1, q v h2⟩
theorem rx_int {ds : List PyData} {i n : Int} (hx : Dt c.K H x (.tuple ds)) (hi : atI ds i = some (.int n)) (q : Q (.int n) H) : RX c x (.int i) H Q := rx_tup hx hi fun v h => by rw [h.intE]; exact q
theorem rx_str {ds : List PyData} {i : Int} {n : Str} (hx : Dt c.K H x (.tuple ds)) (hi : atI ds i = some (.str n)) (q : Q (.str n) H) : RX c x (.int i) H Q := rx_tup hx hi fun v h => by rw [h.strE]; exact q
theorem rx_bl {ds : List PyData} {i : Int} {n : Bool} (hx : Dt c.K H x (.tuple ds)) (hi : atI ds i = some (.bool n)) (q : Q (.bl n) H) : RX c x (.int i) H Q := rx_tup hx hi fun v h => by rw [h.blE]; exact q
/-- xs[i] of a list -/
theorem rx_list {p : Addr} {xs : List V} {i : Int} {v : V} (hx : SqL c.K H p xs) (hi : atI xs i = some v) (q : Q v H) : RX c (.ref p) (.int i) H Q :=
  rx_of (r := rIxL c.K) (fun X h => by rw [← h.K]; exact ix_list) ⟨p, xs, i, v, rfl, rfl, hx, hi, q⟩
/-- (a, b, ..), data -/
theorem e_tupD {es : List Expr} {x1} (q : RA c es σ H fun xs H1 => ∃ ds, DtAll c.K H1 xs ds ∧ xs.length ≤ 1000 ∧ ∀ v H2, Same H1 H2 → Dt c.K H2 v (.tuple ds) → Q v H2) : RE c (.Tuple es x1 pos) σ H Q :=
  e_tup (RA.mono (fun xs H1 z => by
    obtain ⟨ds, h1, h2, h3⟩ := z
    exact ⟨Nat.le_trans h2 (by decide), fun p hp => h3 _ _ (same_new hp) (.tup (.of upd_same) (h1.mono (tp_same (same_new hp))))⟩) q)
/-! calls -/
/-- a def that changes nothing: R tells what it answers -/
def spF (R : List PyData → PyData → Prop) (K : PySem.W.Frag) : Sp := fun vs H Q _ => ∃ ds d, DtAll K H vs ds ∧ R ds d ∧ ∀ v H', Same H H' → Dt K H' v d → Q v H'
theorem e_callF {x : Str} {p : Pos} {e : Expr} {es : List Expr} {ps : List Str} {k : Nat} {R : List PyData → PyData → Prop} (D : Dc c.toMd x ps k (spF R c.K)) (q : RA c (e :: es) σ H fun vs H1 => ∃ ds d, DtAll c.K H1 vs ds ∧ R ds d ∧ ∀ v H', Same H1 H' → Dt c.K H' v d → Q v H') (hk : k ≤ c.k := by exact Nat.le_of_ble_eq_true rfl) (hg : c.sc.names.lookup x = some .globalImplicit := by rfl)
    (hdb : (x == ("__debug__" : Str)) = false := by decide) (he : ∀ env, starEach (e :: es) env = (false, eval e env) :: starEach es env := by intro _; rfl) (hpl : ∀ env, (backTo pos (starEach es env)).any (·.1) = false := by intro _; rfl) :
    RE c (.Call (.Name x p) (e :: es) [] pos) σ H Q := e_call D q hk hg hdb he hpl
theorem rc_max2 {i j : Int} (q : Q (.int (if j > i then j else i)) H) : RC c (.builtin "max") [.int i, .int j] H Q := rc_of (fun X h => call_max2 h.calm) ⟨i, j, rfl, q⟩
theorem rc_min2 {i j : Int} (q : Q (.int (if j < i then j else i)) H) : RC c (.builtin "min") [.int i, .int j] H Q := rc_of (fun X h => call_min2 h.calm) ⟨i, j, rfl, q⟩
theorem rc_intI {i : Int} (q : Q (.int i) H) : RC c (.type "int") [.int i] H Q := rc_of (fun X h => call_int1) (.inl ⟨i, rfl, q⟩)
theorem rc_intB {k : Bool} (q : Q (.int (if k then 1 else 0)) H) : RC c (.type "int") [.bl k] H Q := rc_of (fun X h => call_int1) (.inr ⟨k, rfl, q⟩)
theorem rc_lenL {p : Addr} {xs : List V} (h : SqL c.K H p xs) (q : Q (.int xs.length) H) : RC c (.builtin "len") [.ref p] H Q := rc_of (r := fun xs H Q => ∃ p ys, xs = [.ref p] ∧ (SqL c.K H p ys ∨ SqT c.K H p ys) ∧ Q (.int ys.length) H) (fun X h => by rw [← h.K]; exact call_len_seq) ⟨p, xs, rfl, .inl h, q⟩
theorem rc_lenT {ds : List PyData} (h : Dt c.K H x (.tuple ds)) (q : Q (.int ds.length) H) : RC c (.builtin "len") [x] H Q := by
  obtain ⟨a, xs, rfl, ht, ha⟩ := h.tupE
  refine rc_of (r := fun xs H Q => ∃ p ys, xs = [.ref p] ∧ (SqL c.K H p ys ∨ SqT c.K H p ys) ∧ Q (.int ys.length) H) (fun X h => by rw [← h.K]; exact call_len_seq) ⟨a, xs, rfl, .inr ht, ?_⟩
  rw [ha.len]; exact q
end

/-! ### a def -/
section
variable {P : Program} {w : World} {K : PySem.W.Frag} {mg : Str → Option Value} {base : Heap}
theorem is_cx {M : Md} {N : List Str} {qual : Str} {sc : Scope} {f : Addr} {cdv : Value} {A : Around} {outer : List Env} {s : Shared} {H : Hp} {E : XK} {k : Nat} {g : Bool} (hn : N.Nodup) (hg : g = true → A.guards = some []) (hr : Room k (A.deeper (envOfC qual sc s.heap.objs.size f cdv))) :
    Is ⟨M, N, sc, k, true, g, none⟩ (cxOf CX0 M.prog M.w M.K M.mg M.base N qual sc f cdv A outer s H E).nox :=
  ⟨rfl, rfl, rfl, rfl, rfl, rfl, rfl, rfl, hr, fun _ _ => rfl, PassesOwn.never, hn, hg, fun _ _ z => nomatch z⟩
theorem fn_ok {M : Md} {x qual : Str} {st : Stmt} {f : Addr} {fd : FuncData} {N ps : List Str} {k : Nat} {sp : Sp} (F : Fun M.K x qual st f fd) (S : FnScope N ps (defScope st)) (len : ∀ vs H Q E, sp vs H Q E → vs.length = ps.length)
    (body : ∀ (H : Hp) (vs : List V) (Q : VK) (E : XK), sp vs H Q E → RB ⟨M, N, defScope st, k, true, false, none⟩ (defBody st) { nx := fun _ H' => Q .non H', rt := Q } (start N vs) H) : FnG M.prog M.w M.K M.mg M.base CX0 (k + 1) f fd ps sp :=
  F.ok S len fun cdv A outer s H vs Q E hr h => ⟨RB ⟨M, N, defScope st, k, true, false, none⟩ (defBody st), ps_rb (is_cx S.nd (fun z => Bool.noConfusion z) hr), body H vs Q E h⟩
theorem fn_okQ {M : Md} {x qual : Str} {st : Stmt} {f : Addr} {fd : FuncData} {N ps : List Str} {k : Nat} {sp : Sp} (F : Fun M.K x qual st f fd) (S : FnScope N ps (defScope st)) (len : ∀ vs H Q E, sp vs H Q E → vs.length = ps.length)
    (body : ∀ (H : Hp) (vs : List V) (Q : VK) (E : XK), sp vs H Q E → RB ⟨M, N, defScope st, k, true, true, none⟩ (defBody st) { nx := fun _ H' => Q .non H', rt := Q } (start N vs) H) : FnQ M.prog M.w M.K M.mg M.base CX0 (k + 1) f fd ps sp := by
  obtain ⟨oc, od, kV, doc, pm, an, cdv, ct, osl, rfl, at_, cod⟩ := F.ex
  exact fnQ_of at_ cod S len fun A up s H vs Q E hg hr h => ⟨RB ⟨M, N, defScope st, k, true, true, none⟩ (defBody st), (ps_rb (is_cx S.nd (fun _ => hg) hr)).nox, body H vs Q E h⟩
end
end G
namespace G
open PySem PySem.Spec PyProof.Rows L2
theorem ifd {p A B : Prop} [Decidable p] (h1 : p → A) (h2 : ¬ p → B) : if decide p = true then A else B := by
  by_cases h : p
  · rw [if_pos (decide_eq_true h)]; exact h1 h
  · rw [if_neg (by simp [h])]; exact h2 h
theorem ifnd {p A B : Prop} [Decidable p] (h1 : ¬ p → A) (h2 : p → B) : if (!decide p) = true then A else B := by
  by_cases h : p
  · rw [if_neg (by simp [h])]; exact h2 h
  · rw [if_pos (by simp [h])]; exact h1 h
theorem ifT {p A B : Prop} [Decidable p] (h : p) (a : A) : if decide p = true then A else B := by rw [if_pos (decide_eq_true h)]; exact a
theorem ifF {p A B : Prop} [Decidable p] (h : ¬ p) (b : B) : if decide p = true then A else B := by rw [if_neg (by simp [h])]; exact b
theorem ifnT {p A B : Prop} [Decidable p] (h : ¬ p) (a : A) : if (!decide p) = true then A else B := by rw [if_pos (by simp [h])]; exact a
theorem ifnF {p A B : Prop} [Decidable p] (h : p) (b : B) : if (!decide p) = true then A else B := by rw [if_neg (by simp [h])]; exact b
theorem ifb {k : Bool} {A B : Prop} (h1 : k = true → A) (h2 : k = false → B) : if k = true then A else B := by
  cases k with
  | true => exact h1 rfl
  | false => exact h2 rfl
end G
namespace G
open PySem PySem.Spec PyProof.Rows L2
section
variable {c : Cd} {σ : L2.St} {H : Hp} {Q : VK} {pos : Pos} {x y : V}
/-- d[k] with a written text -/
theorem e_dgetS {a : Expr} {s : Str} {j : Nat} {p2 : Pos} (q : RE c a σ H fun x H1 => ∃ p kvs v, x = .ref p ∧ H1 p = some (.dK kvs) ∧ valV kvs (Sum.inr s) = some v ∧ Q v H1) (hs : NoSl (.Constant (.str s) j p2) := by intro _ _; rfl) : RE c (.Subscript a (.Constant (.str s) j p2) pos) σ H Q :=
  e_dget (RE.mono (fun x H1 z => e_str (by
    obtain ⟨p, kvs, v, rfl, h, e, q⟩ := z
    refine ⟨p, v, rfl, ?_, q⟩
    rw [← e]; exact DGet.k (k := Sum.inr s) h)) q) hs
theorem e_dgetK {a b : Expr} (q : RE c a σ H fun x H1 => RE c b σ H1 fun y H2 => ∃ p kvs k v, x = .ref p ∧ H2 p = some (.dK kvs) ∧ y = kV k ∧ valV kvs k = some v ∧ Q v H2) (hs : NoSl b := by intro _ _; rfl) : RE c (.Subscript a b pos) σ H Q :=
  e_dget (RE.mono (fun x H1 z => RE.mono (fun y H2 z => by
    obtain ⟨p, kvs, k, v, rfl, h, rfl, e, q⟩ := z
    refine ⟨p, v, rfl, ?_, q⟩
    rw [← e]; exact DGet.k h) z) q) hs
variable {nx : L2.St → Hp → Prop} {rt : VK} {bk ct : L2.St → Hp → Prop}
theorem s_dputS {a e : Expr} {s : Str} {j : Nat} {p2 p3 : Pos} (q : RE c e σ H fun v H1 => RE c a σ H1 fun x H2 => ∃ p kvs, x = .ref p ∧ H2 p = some (.dK kvs) ∧ kvs.length < 1000 ∧ nx σ (upd H2 p (.dK (putK kvs (Sum.inr s) v))))
    (hs : ∀ env, swapsWith e (some (.Subscript a (.Constant (.str s) j p2) p3)) pos.line env = pure false := by intro _; rfl) : RS c (.Assign [.Subscript a (.Constant (.str s) j p2) p3] e pos) ⟨nx, rt, bk, ct⟩ σ H :=
  s_dput (RE.mono (fun v H1 z => RE.mono (fun x H2 z => e_str (by
    obtain ⟨p, kvs, rfl, h, l, q⟩ := z
    exact ⟨p, _, rfl, DPut.k (k := Sum.inr s) h (Nat.lt_trans l (by decide)), q⟩)) z) q) hs
end

/-! ### the law's source of draws: a dict of four things -/
def fkv (a : V) (b d e : Int) : List (Key × V) := [(Sum.inr "cells", a), (Sum.inr "rest", .int b), (Sum.inr "used", .int d), (Sum.inr "draws", .int e)]
theorem fkv_len (a : V) (b d e : Int) : (fkv a b d e).length = 4 := rfl
theorem n01 : ¬ (Sum.inr ("cells" : Str) : Key) = Sum.inr ("rest" : Str) := by decide +kernel
theorem n02 : ¬ (Sum.inr ("cells" : Str) : Key) = Sum.inr ("used" : Str) := by decide +kernel
theorem n03 : ¬ (Sum.inr ("cells" : Str) : Key) = Sum.inr ("draws" : Str) := by decide +kernel
theorem n12 : ¬ (Sum.inr ("rest" : Str) : Key) = Sum.inr ("used" : Str) := by decide +kernel
theorem n13 : ¬ (Sum.inr ("rest" : Str) : Key) = Sum.inr ("draws" : Str) := by decide +kernel
theorem n23 : ¬ (Sum.inr ("used" : Str) : Key) = Sum.inr ("draws" : Str) := by decide +kernel
theorem fkv_0 {a : V} {b d e : Int} : valV (fkv a b d e) (Sum.inr "cells") = some a := valV_pos rfl
theorem fkv_1 {a : V} {b d e : Int} : valV (fkv a b d e) (Sum.inr "rest") = some (.int b) := by rw [fkv, valV_neg n01]; exact valV_pos rfl
theorem fkv_2 {a : V} {b d e : Int} : valV (fkv a b d e) (Sum.inr "used") = some (.int d) := by rw [fkv, valV_neg n02, valV_neg n12]; exact valV_pos rfl
theorem fkv_3 {a : V} {b d e : Int} : valV (fkv a b d e) (Sum.inr "draws") = some (.int e) := by rw [fkv, valV_neg n03, valV_neg n13, valV_neg n23]; exact valV_pos rfl
theorem fput_1 {a : V} {b d e x : Int} : putK (fkv a b d e) (Sum.inr "rest") (.int x) = fkv a x d e := by
  unfold putK
  rw [valV_any, fkv_1, Option.isSome_some, if_pos rfl]
  simp only [fkv, List.map_cons, List.map_nil, if_neg n01, if_pos, if_neg (fun h => n12 (Eq.symm h)), if_neg (fun h => n13 (Eq.symm h))]
theorem fput_2 {a : V} {b d e x : Int} : putK (fkv a b d e) (Sum.inr "used") (.int x) = fkv a b x e := by
  unfold putK
  rw [valV_any, fkv_2, Option.isSome_some, if_pos rfl]
  simp only [fkv, List.map_cons, List.map_nil, if_neg n02, if_neg n12, if_pos, if_neg (fun h => n23 (Eq.symm h))]
theorem fput_3 {a : V} {b d e x : Int} : putK (fkv a b d e) (Sum.inr "draws") (.int x) = fkv a b d x := by
  unfold putK
  rw [valV_any, fkv_3, Option.isSome_some, if_pos rfl]
  simp only [fkv, List.map_cons, List.map_nil, if_neg n03, if_neg n13, if_neg n23, if_pos]
def Feed (K : PySem.W.Frag) (H : Hp) (fd cl : Addr) (n : Nat) : Prop := ∃ (ns : List Int) (b d e : Int), H fd = some (.dK (fkv (.ref cl) b d e)) ∧ H cl = some (.lst (ns.map V.int)) ∧ ns.length ≤ 63 ∧ 0 ≤ e ∧ e ≤ n
theorem Feed.same {K : PySem.W.Frag} {H H' : Hp} {fd cl : Addr} {n : Nat} (h : Feed K H fd cl n) (s : Same H H') : Feed K H' fd cl n := by
  obtain ⟨ns, b, d, e, h1, h2, h3⟩ := h
  exact ⟨ns, b, d, e, s _ _ h1, s _ _ h2, h3⟩
theorem Feed.up {K : PySem.W.Frag} {H : Hp} {fd cl : Addr} {n m : Nat} (h : Feed K H fd cl n) (g : n ≤ m) : Feed K H fd cl m := by
  obtain ⟨ns, b, d, e, h1, h2, h3, h4, h5⟩ := h
  exact ⟨ns, b, d, e, h1, h2, h3, h4, by omega⟩
theorem Feed.upd {K : PySem.W.Frag} {H : Hp} {fd cl l : Addr} {o : HO} {n : Nat} (h : Feed K H fd cl n) (n1 : l ≠ fd) (n2 : l ≠ cl) : Feed K (upd H l o) fd cl n := by
  obtain ⟨ns, b, d, e, h1, h2, h3⟩ := h
  exact ⟨ns, b, d, e, by rw [upd_ne (fun e => n1 e.symm)]; exact h1, by rw [upd_ne (fun e => n2 e.symm)]; exact h2, h3⟩
theorem kp_fd {H : Hp} {p : Addr} {kvs : List (Key × V)} {o' : HO} (h : H p = some (.dK kvs)) : Kp p H (upd H p o') := kp_upd h (fun _ e => nomatch e) fun _ _ e => nomatch e
/-- a def that draws: what it asks of its other arguments, what it may answer -/
def spD (w : Nat) (Pre : List PyData → Prop) (R : List PyData → PyData → Prop) (K : PySem.W.Frag) : Sp := fun vs H Q _ => ∃ fd cl rest ds n, vs = .ref fd :: rest ∧ Feed K H fd cl n ∧ n + w ≤ 1000000 ∧ DtAll K H rest ds ∧ Pre ds ∧
  ∀ d v H', R ds d → Kp fd H H' → Feed K H' fd cl (n + w) → Dt K H' v d → Q v H'
theorem spD_len {w : Nat} {Pre : List PyData → Prop} {R : List PyData → PyData → Prop} {K : PySem.W.Frag} {n : Nat} (hp : ∀ ds, Pre ds → ds.length = n) : ∀ vs H Q E, spD w Pre R K vs H Q E → vs.length = n + 1 := by
  rintro vs H Q E ⟨fd, cl, rest, ds, m, rfl, _, _, h, p, _⟩
  rw [List.length_cons, h.len, hp ds p]
end G

namespace G
open PySem PySem.Spec PyProof.Rows L2
structure Bl (M : Md) : Prop where
  len : M.mg "len" = none
  int : M.mg "int" = none
  max : M.mg "max" = none
  min : M.mg "min" = none
  range : M.mg "range" = none
  tuple : M.mg "tuple" = none
  list : M.mg "list" = none
  isinst : M.mg "isinstance" = none
  str : M.mg "str" = none
  bool : M.mg "bool" = none
  set : M.mg "set" = none
  dict : M.mg "dict" = none
  sorted : M.mg "sorted" = none
theorem dpInts {K : PySem.W.Frag} {H : Hp} : ∀ ns : List Int, DpAll K H (ns.map V.int) (ns.map PyData.int)
  | [] => .nil
  | n :: ns => .cons (.int n) (dpInts ns)
theorem shInts (ns : List Int) : SeqAt.shaped (.list (ns.map PyData.int)) = true := by
  have h : ∀ ns : List Int, PyData.canLayAll0 (ns.map PyData.int) = true ∧ PyData.depthAll (ns.map PyData.int) ≤ 1 := by
    intro ns
    induction ns with
    | nil => exact ⟨by simp [PyData.canLayAll0], by simp [PyData.depthAll]⟩
    | cons n ns ih => exact ⟨by simp [PyData.canLayAll0, PyData.canLay0, ih.1], by simp only [List.map_cons, PyData.depthAll, PyData.depth]; omega⟩
  show (PyData.canLay0 (.list _) && decide (PyData.depth (.list _) ≤ 64)) = true
  rw [Bool.and_eq_true]
  refine ⟨by simp only [PyData.canLay0]; exact (h ns).1, decide_eq_true ?_⟩
  simp only [PyData.depth]
  have := (h ns).2
  omega
theorem pl_at {α : Type} {xs : List α} {z : Int} {j : Nat} {v : α} (e : z = (j : Int)) (h : xs[j]? = some v) : atI xs z = some v := by
  rw [e]
  exact atI_nat h
end G

namespace G
open PySem PySem.Spec PyProof.Rows L2
/-! ### comprehensions -/
abbrev blkCd (c : Cd) (scope : Scope) : Cd := ⟨c.toMd, c.N, relS scope c.sc, c.k, false, c.g, none⟩
theorem is_blk {c : Cd} {X : Cx} (h : Is c X) {scope : Scope} (s : Shared) (H : Hp) (C : Addr) (cl : List (Str × Addr)) (fp : List Addr) : Is (blkCd c scope) (X.blk s H scope (compEnvC scope cl C X.env) fp) := by
  refine ⟨h.prog, h.w, h.K, h.mg, h.base, h.N, ?_, h.calm, h.room, (fun z => Bool.noConfusion z), PassesOwn.never, h.nd, h.gd, fun _ _ z => nomatch z⟩
  show relS scope X.env.scope = relS scope c.sc
  rw [h.sc]
section
variable {c : Cd} {σ : L2.St} {H : Hp} {Q : VK} {pos : Pos} {x y : V}
theorem ts_nil {Q : Bool → Hp → Prop} (q : Q true H) : RTs c [] σ H Q := rts_of (fun _ _ => pts_nil) q
theorem ts_one {Q : Bool → Hp → Prop} {e : Expr} (q : RT c e σ H Q) : RTs c [e] σ H Q := rts_of (fun _ h => pts_one (pt_rt h)) q
/-- what is asked of a comprehension's block -/
structure Blk (c : Cd) (scope : Scope) (own : List (Str × Nat)) : Prop where
  ok : BlkOk c.N c.sc scope own
theorem Blk.of {c : Cd} {scope : Scope} {own : List (Str × Nat)} {N : List Str} {sc : Scope} (h1 : c.N = N) (h2 : c.sc = sc) (h : blkC N sc scope own = true) : Blk c scope own := ⟨by rw [h1, h2]; exact blkOk_by h⟩
theorem e_lc {elt tg iter : Expr} {ifs : List Expr} {scope : Scope} {own : List (Str × Nat)} (ok : Blk c scope own)
    (q : tLc (RI c tg iter) (RG (blkCd c scope) tg) (RTs (blkCd c scope) ifs) (RE (blkCd c scope) elt) (own.map (·.2)) σ H Q) (hs : ∀ env x, foldedSetIterable iter env x = pure x := by intro _ _; rfl) : RE c (.ListComp elt [⟨tg, iter, ifs, 0⟩] scope pos) σ H Q :=
  re_of (fun X h => pe_lc h.calm (by rw [h.N]; exact h.nd) (pi_ri h) (by rw [h.N, h.sc]; exact ok.ok) (fun s H C cl fp => pg_rg (is_blk h s H C cl fp)) (fun s H C cl fp => pts_rts (is_blk h s H C cl fp)) (fun s H C cl fp => pe_re (is_blk h s H C cl fp)) (hs _)) q
theorem s_setLc {nx : L2.St → Hp → Prop} {rt : VK} {bk ct : L2.St → Hp → Prop} {i : Nat} {y : Str} {py : Pos} {elt tg iter : Expr} {ifs : List Expr} {scope : Scope} {own : List (Str × Nat)} {spos : Pos} (hA : At c.N i y) (ok : Blk c scope own)
    (q : tLc (RI c tg iter) (RG (blkCd c scope) tg) (RTs (blkCd c scope) ifs) (RE (blkCd c scope) elt) (own.map (·.2)) σ H fun v H1 => nx (σ.set i (some v)) H1)
    (hy : c.sc.names.lookup y = some .local := by rfl) (hl : (py.line == pos.line) = true := by rfl) (ha : (scope.names.any fun (n, k) => n == y && (k == .local || k == .cell)) = false := by rfl) (hf : c.sc.kind = .function := by rfl) (hs : ∀ env x, foldedSetIterable iter env x = pure x := by intro _ _; rfl) :
    RS c (.Assign [.Name y py] (.ListComp elt [⟨tg, iter, ifs, 0⟩] scope pos) spos) ⟨nx, rt, bk, ct⟩ σ H :=
  rs_of (c := c) (σ := σ) (H := H) (D := ⟨nx, rt, bk, ct⟩) (t := tAsg (tLc (RI c tg iter) (RG (blkCd c scope) tg) (RTs (blkCd c scope) ifs) (RE (blkCd c scope) elt) (own.map (fun p : Str × Nat => p.2))) (gName i)) (fun X h => ps_setLc h.calm (by rw [h.N]; exact h.nd) (by rw [h.N]; exact hA.get) (by rw [h.sc]; exact hy)
    (sw_true (by rw [h.sc]; exact hf) (by rw [h.sc]; exact hy) hl ha) (pi_ri h) (by rw [h.N, h.sc]; exact ok.ok) (fun s H C cl fp => pg_rg (is_blk h s H C cl fp)) (fun s H C cl fp => pts_rts (is_blk h s H C cl fp)) (fun s H C cl fp => pe_re (is_blk h s H C cl fp)) (hs _)) q

/-- a turn of a comprehension, with a word Pv: what the turn, the collected values and the heap are -/
def Turn1 (cB : Cd) (tg : Expr) (ifs : List Expr) (elt : Expr) (vs : List Nat) (σ : L2.St) (D : Addr) (x : V) (H' : Hp) (acc : List V) (Nx : List V → Hp → Prop) : Prop :=
  RG cB tg x (wipe σ vs) H' fun σ2 H2 => wipe σ2 vs = wipe σ vs ∧ RTs cB ifs σ2 H2 fun b H3 => if b = true then RE cB elt σ2 H3 fun y H4 => H4 D = some (.lst acc) ∧ Nx (acc ++ [y]) (upd H4 D (.lst (acc ++ [y]))) else Nx acc H3
section
variable {elt tg iter : Expr} {ifs : List Expr} {scope : Scope} {vs : List Nat}
/-- over a tuple -/
theorem lc_T (q : RE c iter σ H fun x H1 => ∃ a xs, x = .ref a ∧ SqT c.K H1 a xs ∧ xs.length ≤ 1000 ∧ ∀ D, H1 D = none → ∃ Pv : Nat → List V → Hp → Prop, Pv 0 [] (upd H1 D (.lst [])) ∧ (∀ i acc H', i ≤ xs.length → Pv i acc H' → SqT c.K H' a xs ∧ acc.length ≤ i) ∧
      (∀ i x acc H', xs[i]? = some x → Pv i acc H' → Turn1 (blkCd c scope) tg ifs elt vs σ D x H' acc (Pv (i + 1))) ∧ ∀ acc H', Pv xs.length acc H' → Q (.ref D) H') :
    tLc (RI c tg iter) (RG (blkCd c scope) tg) (RTs (blkCd c scope) ifs) (RE (blkCd c scope) elt) vs σ H Q := by
  refine i_tup (RE.mono (fun x H1 z => ?_) q)
  obtain ⟨a, xs, rfl, ht, hl, z⟩ := z
  refine ⟨a, rfl, ⟨xs, ht⟩, fun D hD => ?_⟩
  obtain ⟨Pv, p0, pk, pt, pe⟩ := z D hD
  refine lc_tup (xs := xs) (fun i H' => ∃ acc, Pv i acc H') ⟨_, p0⟩ (fun i H' hi ⟨acc, p⟩ => (pk i acc H' hi p).1) (fun i x H' hx ⟨acc, p⟩ => ?_) fun H' ⟨acc, p⟩ => pe acc H' p
  have hi : i < xs.length := (List.getElem?_eq_some_iff.mp hx).1
  have la := (pk i acc H' (Nat.le_of_lt hi) p).2
  refine RG.mono (fun σ2 H2 z => ?_) (pt i x acc H' hx p)
  refine ⟨z.1, RTs.mono (fun b H3 z => ?_) z.2⟩
  cases b with
  | true => exact RE.mono (fun y H4 z => ⟨acc, z.1, Nat.lt_of_le_of_lt la (Nat.lt_of_lt_of_le hi (Nat.le_trans hl (by decide))), _, z.2⟩) z
  | false => exact ⟨_, z⟩
/-- over a list -/
theorem lc_L (q : RE c iter σ H fun x H1 => ∃ a xs, x = .ref a ∧ SqL c.K H1 a xs ∧ xs.length ≤ 1000 ∧ ∀ D, H1 D = none → ∃ Pv : Nat → List V → Hp → Prop, Pv 0 [] (upd H1 D (.lst [])) ∧ (∀ i acc H', i ≤ xs.length → Pv i acc H' → SqL c.K H' a xs ∧ acc.length ≤ i) ∧
      (∀ i x acc H', xs[i]? = some x → Pv i acc H' → Turn1 (blkCd c scope) tg ifs elt vs σ D x H' acc (Pv (i + 1))) ∧ ∀ acc H', Pv xs.length acc H' → Q (.ref D) H') :
    tLc (RI c tg iter) (RG (blkCd c scope) tg) (RTs (blkCd c scope) ifs) (RE (blkCd c scope) elt) vs σ H Q := by
  refine i_list (RE.mono (fun x H1 z => ?_) q)
  obtain ⟨a, xs, rfl, ht, hl, z⟩ := z
  refine ⟨a, rfl, ⟨xs, ht⟩, fun D hD => ?_⟩
  obtain ⟨Pv, p0, pk, pt, pe⟩ := z D hD
  refine lc_list (xs := xs) (fun i H' => ∃ acc, Pv i acc H') ⟨_, p0⟩ (fun i H' hi ⟨acc, p⟩ => (pk i acc H' hi p).1) (fun i x H' hx ⟨acc, p⟩ => ?_) fun H' ⟨acc, p⟩ => pe acc H' p
  have hi : i < xs.length := (List.getElem?_eq_some_iff.mp hx).1
  have la := (pk i acc H' (Nat.le_of_lt hi) p).2
  refine RG.mono (fun σ2 H2 z => ?_) (pt i x acc H' hx p)
  refine ⟨z.1, RTs.mono (fun b H3 z => ?_) z.2⟩
  cases b with
  | true => exact RE.mono (fun y H4 z => ⟨acc, z.1, Nat.lt_of_le_of_lt la (Nat.lt_of_lt_of_le hi (Nat.le_trans hl (by decide))), _, z.2⟩) z
  | false => exact ⟨_, z⟩
/-- over range(a, b) -/
theorem lc_R2 {a b : Expr} {p ppos : Pos} (hm : c.mg "range" = none) (q : RE c a σ H fun x H1 => RE c b σ H1 fun y H2 => ∃ i j : Int, x = .int i ∧ y = .int j ∧ (-1000 ≤ i ∧ i ≤ 1000) ∧ (-1000 ≤ j ∧ j ≤ 1000) ∧ ∀ D, H2 D = none → ∃ Pv : Nat → List V → Hp → Prop, Pv 0 [] (upd H2 D (.lst [])) ∧ (∀ t acc H', Pv t acc H' → acc.length ≤ t) ∧
      (∀ t acc H', t < (j - i).toNat → Pv t acc H' → Turn1 (blkCd c scope) tg ifs elt vs σ D (.int (i + t)) H' acc (Pv (t + 1))) ∧ ∀ acc H', Pv (j - i).toNat acc H' → Q (.ref D) H')
    (hg : c.sc.names.lookup ("range" : Str) = some .globalImplicit := by rfl) (hs : ∀ env, starEach [a, b] env = [(false, eval a env), (false, eval b env)] := by intro _; rfl) (hs2 : ∀ env, starEach [b] env = [(false, eval b env)] := by intro _; rfl) :
    tLc (RI c tg (.Call (.Name "range" p) [a, b] [] ppos)) (RG (blkCd c scope) tg) (RTs (blkCd c scope) ifs) (RE (blkCd c scope) elt) vs σ H Q := by
  refine i_range2 hm (a_cons (RE.mono (fun x H1 z => a_cons (RE.mono (fun y H2 z => a_nil ?_) z) (fun env => by rw [hs2]; rfl)) q) (fun env => by rw [hs, hs2])) hg hs hs2
  obtain ⟨i, j, rfl, rfl, h1, h2, z⟩ := z
  refine ⟨i, j, rfl, ⟨by omega, by omega, by omega, by omega⟩, fun D hD => ?_⟩
  obtain ⟨Pv, p0, pk, pt, pe⟩ := z D hD
  refine lc_range (lo := i) (n := (j - i).toNat) (fun t H' => ∃ acc, Pv t acc H') ⟨_, p0⟩ (fun t H' ht ⟨acc, p⟩ => ?_) fun H' ⟨acc, p⟩ => pe acc H' p
  have la := pk t acc H' p
  refine RG.mono (fun σ2 H2 z => ?_) (pt t acc H' ht p)
  refine ⟨z.1, RTs.mono (fun b H3 z => ?_) z.2⟩
  cases b with
  | true => exact RE.mono (fun y H4 z => ⟨acc, z.1, Nat.lt_of_le_of_lt la (Nat.lt_of_lt_of_le ht (Nat.le_trans (show (j - i).toNat ≤ 2000 by omega) (by decide))), _, z.2⟩) z
  | false => exact ⟨_, z⟩
/-- over range(n) -/
theorem lc_R1 {a : Expr} {p ppos : Pos} (hm : c.mg "range" = none) (q : RE c a σ H fun y H2 => ∃ j : Int, y = .int j ∧ (-1000 ≤ j ∧ j ≤ 1000) ∧ ∀ D, H2 D = none → ∃ Pv : Nat → List V → Hp → Prop, Pv 0 [] (upd H2 D (.lst [])) ∧ (∀ t acc H', Pv t acc H' → acc.length ≤ t) ∧
      (∀ t acc H', t < j.toNat → Pv t acc H' → Turn1 (blkCd c scope) tg ifs elt vs σ D (.int t) H' acc (Pv (t + 1))) ∧ ∀ acc H', Pv j.toNat acc H' → Q (.ref D) H')
    (hg : c.sc.names.lookup ("range" : Str) = some .globalImplicit := by rfl) (hs : ∀ env, starEach [a] env = [(false, eval a env)] := by intro _; rfl) :
    tLc (RI c tg (.Call (.Name "range" p) [a] [] ppos)) (RG (blkCd c scope) tg) (RTs (blkCd c scope) ifs) (RE (blkCd c scope) elt) vs σ H Q := by
  refine i_range1 hm (a_cons (RE.mono (fun x H1 z => a_nil ?_) q) (fun env => by rw [hs]; rfl)) hg hs
  obtain ⟨j, rfl, h2, z⟩ := z
  refine ⟨j, rfl, by omega, by omega, fun D hD => ?_⟩
  obtain ⟨Pv, p0, pk, pt, pe⟩ := z D hD
  refine lc_range (lo := 0) (n := j.toNat) (fun t H' => ∃ acc, Pv t acc H') ⟨_, p0⟩ (fun t H' ht ⟨acc, p⟩ => ?_) fun H' ⟨acc, p⟩ => pe acc H' p
  have la := pk t acc H' p
  rw [Int.zero_add]
  refine RG.mono (fun σ2 H2 z => ?_) (pt t acc H' ht p)
  refine ⟨z.1, RTs.mono (fun b H3 z => ?_) z.2⟩
  cases b with
  | true => exact RE.mono (fun y H4 z => ⟨acc, z.1, Nat.lt_of_le_of_lt la (Nat.lt_of_lt_of_le ht (Nat.le_trans (show j.toNat ≤ 1000 by omega) (by decide))), _, z.2⟩) z
  | false => exact ⟨_, z⟩
/-- over a text's signs -/
theorem lc_S (q : RE c iter σ H fun x H1 => ∃ z : Str, x = .str z ∧ z.cps.size ≤ 1000 ∧ ∀ D, H1 D = none → ∃ Pv : Nat → List V → Hp → Prop, Pv 0 [] (upd H1 D (.lst [])) ∧ (∀ i acc H', Pv i acc H' → acc.length ≤ i) ∧
      (∀ i ch acc H', i < z.cps.size → Pv i acc H' → Turn1 (blkCd c scope) tg ifs elt vs σ D (.str ⟨#[ch]⟩) H' acc (Pv (i + 1))) ∧ ∀ acc H', Pv z.cps.size acc H' → Q (.ref D) H') :
    tLc (RI c tg iter) (RG (blkCd c scope) tg) (RTs (blkCd c scope) ifs) (RE (blkCd c scope) elt) vs σ H Q := by
  refine ri_of (t := iStr (RE c iter)) (fun X h => pi_str (pe_re h)) (RE.mono (fun x H1 z => ?_) q)
  obtain ⟨z, rfl, hl, w⟩ := z
  refine ⟨z, rfl, fun D hD => ?_⟩
  obtain ⟨Pv, p0, pk, pt, pe⟩ := w D hD
  refine ⟨fun i m H' => m = z.cps.size - i ∧ i ≤ z.cps.size ∧ ∃ acc, Pv i acc H', ⟨z.cps.size, by simp, Nat.zero_le _, _, p0⟩, ?_⟩
  rintro i m H' ⟨rfl, hi, acc, p⟩
  by_cases hlt : i < z.cps.size
  · refine .inr ⟨hlt, fun H' => ∃ acc, Pv (i + 1) acc H', fun H' p' => ⟨z.cps.size - (i + 1), by omega, rfl, hlt, p'⟩, fun x H2 yy => ?_⟩
    obtain ⟨e, ch, hc, rfl⟩ := yy
    subst e
    have la := pk i acc _ p
    refine RG.mono (fun σ2 H2 z => ?_) (pt i ch acc _ hlt p)
    refine ⟨z.1, RTs.mono (fun b H3 z => ?_) z.2⟩
    cases b with
    | true => exact RE.mono (fun y H4 z => ⟨acc, z.1, Nat.lt_of_le_of_lt la (Nat.lt_of_lt_of_le hlt (Nat.le_trans hl (by decide))), _, z.2⟩) z
    | false => exact ⟨_, z⟩
  · have e : i = z.cps.size := by omega
    subst e
    exact .inl ⟨Nat.le_refl _, pe acc H' p⟩
end
end

/-! ### comprehensions that change nothing: a function on data -/
section
variable {c : Cd} {σ : L2.St} {H : Hp} {Q : VK} {pos : Pos} {x y : V} {elt tg iter : Expr} {ifs : List Expr} {scope : Scope} {vs : List Nat}
/-- the pure turn -/
def TurnF (cB : Cd) (tg : Expr) (ifs : List Expr) (elt : Expr) (vs : List Nat) (σ : L2.St) (K : PySem.W.Frag) (x : V) (H' : Hp) (o : Option PyData) : Prop :=
  RG cB tg x (wipe σ vs) H' fun σ2 H2 => H2 = H' ∧ wipe σ2 vs = wipe σ vs ∧ RTs cB ifs σ2 H2 fun b H3 => Same H' H3 ∧ if b = true then RE cB elt σ2 H3 fun y H4 => Same H3 H4 ∧ ∃ e, o = some e ∧ Dt K H4 y e else o = none
theorem TurnF.one {cB : Cd} {σ : L2.St} {K : PySem.W.Frag} {x : V} {H1 H' : Hp} {o : Option PyData} {D : Addr} {acc : List V} {es : List PyData} (hD : H1 D = none) (s : Same H1 H') (ha : H' D = some (.lst acc)) (hd : DtAll K H' acc es) (t : TurnF cB tg ifs elt vs σ K x H' o) :
    Turn1 cB tg ifs elt vs σ D x H' acc fun acc' H2 => H2 D = some (.lst acc') ∧ Same H1 H2 ∧ DtAll K H2 acc' (es ++ o.toList) := by
  refine RG.mono (fun σ2 H2 z => ?_) t
  obtain ⟨rfl, z1, z2⟩ := z
  refine ⟨z1, RTs.mono (fun b H3 z => ?_) z2⟩
  obtain ⟨s3, z⟩ := z
  cases b with
  | true =>
    refine RE.mono (fun y H4 z => ?_) z
    obtain ⟨s4, e, rfl, he⟩ := z
    have aD := s4 _ _ (s3 _ _ ha)
    have k := kp_upd (o' := .lst (acc ++ [y])) aD (fun _ e => nomatch e) (fun _ _ e => nomatch e)
    exact ⟨aD, upd_same, same_mut (s.trans (s3.trans s4)) hD, ((hd.mono (tp_same (s3.trans s4))).mono k.t).app (.cons (he.mono k.t) .nil)⟩
  | false =>
    have z : o = none := z
    subst z
    exact ⟨s3 _ _ ha, s.trans s3, by rw [Option.toList_none, List.append_nil]; exact hd.mono (tp_same s3)⟩
theorem outs_step {g : PyData → Option PyData} {ds : List PyData} {i : Nat} {d : PyData} (h : ds[i]? = some d) : (ds.take i).filterMap g ++ (g d).toList = (ds.take (i + 1)).filterMap g := by
  obtain ⟨h1, rfl⟩ := List.getElem?_eq_some_iff.mp h
  rw [List.take_succ_eq_append_getElem h1, List.filterMap_append]
  congr 1
theorem lcT_F (g : PyData → Option PyData) (q : RE c iter σ H fun x H1 => ∃ ds, Dt c.K H1 x (.tuple ds) ∧ ds.length ≤ 1000 ∧ (∀ d x H', d ∈ ds → Same H1 H' → Dt c.K H' x d → TurnF (blkCd c scope) tg ifs elt vs σ c.K x H' (g d)) ∧
      ∀ p us H2, Same H1 H2 → H1 p = none → H2 p = some (.lst us) → DtAll c.K H2 us (ds.filterMap g) → Q (.ref p) H2) :
    tLc (RI c tg iter) (RG (blkCd c scope) tg) (RTs (blkCd c scope) ifs) (RE (blkCd c scope) elt) vs σ H Q := by
  refine lc_T (RE.mono (fun x H1 z => ?_) q)
  obtain ⟨ds, hx, hl, t, k⟩ := z
  obtain ⟨a, xs, rfl, ht, ha⟩ := hx.tupE
  have hle := ha.len
  refine ⟨a, xs, rfl, ht, by omega, fun D hD => ⟨fun i acc H' => acc.length ≤ i ∧ H' D = some (.lst acc) ∧ Same H1 H' ∧ DtAll c.K H' acc ((ds.take i).filterMap g), ⟨Nat.le_refl _, upd_same, same_new hD, .nil⟩, ?_, ?_, ?_⟩⟩
  · rintro i acc H' _ ⟨l, _, s, _⟩
    exact ⟨(tp_same s).sqt ht, l⟩
  · rintro i x acc H' hx ⟨l, h1, s, h2⟩
    obtain ⟨d, hd, hx'⟩ := ha.getV hx
    have T := TurnF.one hD s h1 h2 (t d x H' (List.mem_of_getElem? hd) s (hx'.mono (tp_same s)))
    refine RG.mono (fun σ2 H2 z => ⟨z.1, RTs.mono (fun b H3 z => ?_) z.2⟩) T
    cases b with
    | true => exact RE.mono (fun y H4 z => ⟨z.1, by rw [List.length_append, List.length_singleton]; omega, z.2.1, z.2.2.1, by rw [← outs_step hd]; exact z.2.2.2⟩) z
    | false => exact ⟨by omega, z.1, z.2.1, by rw [← outs_step hd]; exact z.2.2⟩
  · rintro acc H' ⟨l, h1, s, h2⟩
    refine k D acc H' s hD h1 ?_
    rw [hle, List.take_length] at h2
    exact h2
theorem lcL_F (g : PyData → Option PyData) (q : RE c iter σ H fun x H1 => ∃ a xs ds, x = .ref a ∧ SqL c.K H1 a xs ∧ DtAll c.K H1 xs ds ∧ ds.length ≤ 1000 ∧ (∀ d x H', d ∈ ds → Same H1 H' → Dt c.K H' x d → TurnF (blkCd c scope) tg ifs elt vs σ c.K x H' (g d)) ∧
      ∀ p us H2, Same H1 H2 → H1 p = none → H2 p = some (.lst us) → DtAll c.K H2 us (ds.filterMap g) → Q (.ref p) H2) :
    tLc (RI c tg iter) (RG (blkCd c scope) tg) (RTs (blkCd c scope) ifs) (RE (blkCd c scope) elt) vs σ H Q := by
  refine lc_L (RE.mono (fun x H1 z => ?_) q)
  obtain ⟨a, xs, ds, rfl, ht, ha, hl, t, k⟩ := z
  have hle := ha.len
  refine ⟨a, xs, rfl, ht, by omega, fun D hD => ⟨fun i acc H' => acc.length ≤ i ∧ H' D = some (.lst acc) ∧ Same H1 H' ∧ DtAll c.K H' acc ((ds.take i).filterMap g), ⟨Nat.le_refl _, upd_same, same_new hD, .nil⟩, ?_, ?_, ?_⟩⟩
  · rintro i acc H' _ ⟨l, _, s, _⟩
    exact ⟨s.seq ht, l⟩
  · rintro i x acc H' hx ⟨l, h1, s, h2⟩
    obtain ⟨d, hd, hx'⟩ := ha.getV hx
    have T := TurnF.one hD s h1 h2 (t d x H' (List.mem_of_getElem? hd) s (hx'.mono (tp_same s)))
    refine RG.mono (fun σ2 H2 z => ⟨z.1, RTs.mono (fun b H3 z => ?_) z.2⟩) T
    cases b with
    | true => exact RE.mono (fun y H4 z => ⟨z.1, by rw [List.length_append, List.length_singleton]; omega, z.2.1, z.2.2.1, by rw [← outs_step hd]; exact z.2.2.2⟩) z
    | false => exact ⟨by omega, z.1, z.2.1, by rw [← outs_step hd]; exact z.2.2⟩
  · rintro acc H' ⟨l, h1, s, h2⟩
    refine k D acc H' s hD h1 ?_
    rw [hle, List.take_length] at h2
    exact h2

/-! ### lists that grow -/
theorem e_app {o e : Expr} {apos : Pos} (q : RE c o σ H fun x H1 => ∃ l zs, x = .ref l ∧ H1 l = some (.lst zs) ∧ RE c e σ H1 fun y H2 => ∃ ys, H2 l = some (.lst ys) ∧ ys.length < 100000 ∧ Q .non (upd H2 l (.lst (ys ++ [y]))))
    (hbase : ∀ env, attributeBase o "append" env (eval o env) = eval o env := by intro _; rfl)
    (hfew : ∀ env, ((backTo pos (starEach [e] env)).all (fun x => !x.1) && (backToKw pos (keywordEach [] env)).all (fun x => x.1.isSome)
      && decide (([e] : List Expr).length + ([] : List Keyword).length + (if ([] : List Keyword).isEmpty then 0 else 1) < 30)) = true := by intro _; rfl)
    (hline : (apos.endLine == pos.line) = true := by rfl) (hs : ∀ env, starEach [e] env = (false, eval e env) :: starEach [] env := by intro _; rfl) (hplain : ∀ env, (backTo pos (starEach [] env)).any (·.1) = false := by intro _; rfl) :
    RE c (.Call (.Attribute o "append" apos) [e] [] pos) σ H Q := by
  refine e_bm PySem.F.plainAttrs_list PySem.F.slot_list_append PySem.F.type_list_append (RE.mono (fun x H1 z => ?_) q) hbase hfew hline hs hplain
  obtain ⟨l, zs, rfl, hl, z⟩ := z
  refine ⟨Or.inl ⟨rfl, _, Or.inl (Or.inl hl)⟩, a_cons (RE.mono (fun y H2 z => a_nil ?_) z) hs⟩
  obtain ⟨ys, hl, hz, z⟩ := z
  exact rm_of (fun X h => mt_append) ⟨l, ys, y, rfl, rfl, hl, Nat.lt_of_lt_of_le hz (by decide), z⟩
theorem e_ext {o e : Expr} {apos : Pos} (q : RE c o σ H fun x H1 => ∃ l zs, x = .ref l ∧ H1 l = some (.lst zs) ∧ RE c e σ H1 fun y H2 => ∃ b ys ws, y = .ref b ∧ H2 l = some (.lst ys) ∧ H2 b = some (.lst ws) ∧ ys.length + ws.length ≤ 100000 ∧ Q .non (upd H2 l (.lst (ys ++ ws))))
    (hbase : ∀ env, attributeBase o "extend" env (eval o env) = eval o env := by intro _; rfl)
    (hfew : ∀ env, ((backTo pos (starEach [e] env)).all (fun x => !x.1) && (backToKw pos (keywordEach [] env)).all (fun x => x.1.isSome)
      && decide (([e] : List Expr).length + ([] : List Keyword).length + (if ([] : List Keyword).isEmpty then 0 else 1) < 30)) = true := by intro _; rfl)
    (hline : (apos.endLine == pos.line) = true := by rfl) (hs : ∀ env, starEach [e] env = (false, eval e env) :: starEach [] env := by intro _; rfl) (hplain : ∀ env, (backTo pos (starEach [] env)).any (·.1) = false := by intro _; rfl) :
    RE c (.Call (.Attribute o "extend" apos) [e] [] pos) σ H Q := by
  refine e_bm PySem.F.plainAttrs_list PySem.F.slot_list_extend PySem.F.type_list_extend (RE.mono (fun x H1 z => ?_) q) hbase hfew hline hs hplain
  obtain ⟨l, zs, rfl, hl, z⟩ := z
  refine ⟨Or.inl ⟨rfl, _, Or.inl (Or.inl hl)⟩, a_cons (RE.mono (fun y H2 z => a_nil ?_) z) hs⟩
  obtain ⟨b, ys, ws, rfl, hl, hb, hz, z⟩ := z
  exact rm_of (fun X h => mt_extend) ⟨l, b, ys, ws, rfl, rfl, hl, hb, Nat.le_trans hz (by decide), z⟩
theorem tupend {K : PySem.W.Frag} {H1 : Hp} {xs : List V} {ds : List PyData} {Q : VK} (h : DtAll K H1 xs ds) (hl : xs.length ≤ 1000) (q : ∀ v H2, Same H1 H2 → Dt K H2 v (.tuple ds) → Q v H2) : ∃ ds, DtAll K H1 xs ds ∧ xs.length ≤ 1000 ∧ ∀ v H2, Same H1 H2 → Dt K H2 v (.tuple ds) → Q v H2 := ⟨ds, h, hl, q⟩
/-- [a, b, ..] -/
theorem e_lstD {es : List Expr} (q : RA c es σ H fun xs H1 => xs.length ≤ 1000 ∧ ∀ p H2, Same H1 H2 → H1 p = none → H2 p = some (.lst xs) → Q (.ref p) H2) : RE c (.List es pos) σ H Q :=
  e_lst (RA.mono (fun xs H1 z => ⟨Nat.le_trans z.1 (by decide), fun p hp => z.2 p _ (same_new hp) hp upd_same⟩) q)
/-- tuple(xs) of a list -/
theorem rc_tupL {p : Addr} {ys : List V} {ds : List PyData} (hl : SqL c.K H p ys) (hd : DtAll c.K H ys ds) (q : ∀ v H2, Same H H2 → Dt c.K H2 v (.tuple ds) → Q v H2) : RC c (.type "tuple") [.ref p] H Q :=
  rc_of (r := fun xs H Q => ∃ p ys, xs = [.ref p] ∧ ((SqL c.K H p ys ∧ ∀ l, H l = none → Q (.ref l) (upd H l (.tup ys))) ∨ (SqT c.K H p ys ∧ Q (.ref p) H))) (fun X h => by rw [← h.K]; exact call_tuple_of) ⟨p, ys, rfl, .inl ⟨hl, fun l hn => q _ _ (same_new hn) (.tup (.of upd_same) (hd.mono (tp_same (same_new hn))))⟩⟩
/-- list(xs) -/
theorem rc_lstL {p : Addr} {ys : List V} (hl : SqL c.K H p ys) (q : ∀ l H2, Same H H2 → H l = none → H2 l = some (.lst ys) → Q (.ref l) H2) : RC c (.type "list") [.ref p] H Q :=
  rc_of (r := fun xs H Q => ∃ p ys, xs = [.ref p] ∧ (SqL c.K H p ys ∨ SqT c.K H p ys) ∧ ∀ l, H l = none → Q (.ref l) (upd H l (.lst ys))) (fun X h => by rw [← h.K]; exact call_list_of) ⟨p, ys, rfl, .inl hl, fun l hn => q _ _ (same_new hn) hn upd_same⟩
theorem rc_lstT {ds : List PyData} (hx : Dt c.K H x (.tuple ds)) (q : ∀ l ys H2, Same H H2 → H l = none → H2 l = some (.lst ys) → DtAll c.K H2 ys ds → Q (.ref l) H2) : RC c (.type "list") [x] H Q := by
  obtain ⟨a, ys, rfl, ht, hd⟩ := hx.tupE
  exact rc_of (r := fun xs H Q => ∃ p ys, xs = [.ref p] ∧ (SqL c.K H p ys ∨ SqT c.K H p ys) ∧ ∀ l, H l = none → Q (.ref l) (upd H l (.lst ys))) (fun X h => by rw [← h.K]; exact call_list_of) ⟨a, ys, rfl, .inr ht, fun l hn => q _ _ _ (same_new hn) hn upd_same (hd.mono (tp_same (same_new hn)))⟩
end
end G
namespace G
open PySem PySem.Spec PyProof.Rows L2
/-! ### xs[lo:hi:step] of a list: some of its items -/
theorem picked_vals {xs : List V} {its : List Value} (r : Vals xs its) : ∀ ix : List Nat, ∃ ys : List V, Vals ys (ix.filterMap (its.toArray[·]?)) ∧ ∀ y ∈ ys, y ∈ xs
  | [] => ⟨[], .nil, fun _ h => nomatch h⟩
  | i :: ix => by
    obtain ⟨ys, h1, h2⟩ := picked_vals r ix
    cases e : its.toArray[i]? with
    | none => exact ⟨ys, by rw [List.filterMap_cons, e]; exact h1, h2⟩
    | some u =>
      have e' : its[i]? = some u := by simpa using e
      cases ex : xs[i]? with
      | none =>
        have := r.none_of ex
        rw [e'] at this
        cases this
      | some x =>
        obtain ⟨u', hu, ru⟩ := r.get ex
        rw [e'] at hu
        cases hu
        refine ⟨x :: ys, by rw [List.filterMap_cons, e]; exact .cons ru h1, fun y hy => ?_⟩
        rcases List.mem_cons.mp hy with rfl | hy
        · exact List.mem_of_getElem? ex
        · exact h2 y hy
def tSlS (K : PySem.W.Frag) (te : TE) (tl th ts : TO) : TE := fun σ H Q => te σ H fun x H1 => tl σ H1 fun l H2 => th σ H2 fun u H3 => ts σ H3 fun st H4 => ∃ a xs, x = .ref a ∧ SqL K H4 a xs ∧ st ≠ some 0 ∧
  ∀ p ys, H4 p = none → (∀ y ∈ ys, y ∈ xs) → ys.length ≤ xs.length → Q (.ref p) (upd H4 p (.lst ys))
theorem pe_sliceS {X : Cx} {e st : Expr} {lo hi : Option Expr} {p2 pos : Pos} {te : TE} {tl th ts : TO} (he : PE X e te) (hl : PO X lo tl) (hu : PO X hi th) (hst : PO X (some st) ts) : PE X (.Subscript e (.Slice lo hi (some st) p2) pos) (tSlS X.K te tl th ts) := by
  constructor
  intro pins s σ H Q I h
  apply Subscript_ (thn (he.run pins s σ H _ I h) _)
  rintro v s1 ⟨x, H1, I1, r1, q1⟩
  refine wpAny_Slice (thn (hl.run pins s1 σ H1 _ I1 q1) fun vl s2 ⟨l, H2, I2, pl, q2⟩ => thn (hu.run pins s2 σ H2 _ I2 q2) fun vu s3 ⟨u, H3, I3, pu, q3⟩ => thn (hst.run pins s3 σ H3 _ I3 q3) fun vs s4 ⟨sv, H4, I4, ps, q4⟩ => ?_)
  obtain ⟨a, xs, rfl, hx, h0, q⟩ := q4
  cases r1
  have J5 : Inv X pins σ H4 { s4 with heap := s4.heap.push { cls := .type "slice", data := .fields #[vl, vu, vs] } } := I4.kept (t' := s4.toks) fun b ob q => Heap.get?_push_of_some _ q
  obtain ⟨its, r, ht, hz⟩ := (J5.list hx)
  have hlen := r.length
  show wpAny (model X.prog X.w) X.A (subscriptTail e (.Slice lo hi (some st) p2) (.ref a) (.ref s4.heap.objs.size)) (EP X pins σ Q) X.xe { s4 with heap := s4.heap.push { cls := .type "slice", data := .fields #[vl, vu, vs] } }
  refine tail_any (ops := [.ref a, .ref s4.heap.objs.size]) (id := "list.__getitem__") ht.isList.typeIs slot_list_getitem.lookup ?_ (by with_unfolding_all rfl)
  refine wpAny_getItem_list_slice ht.isList (Heap.IsSliceOf.new ..) pl pu ps h0 ?_ (by rw [List.size_toArray] <;> omega)
  obtain ⟨ys, y1, y2⟩ := picked_vals r (sliceRange (sliceBounds l u sv its.toArray.size).1 (sliceBounds l u sv its.toArray.size).2.1 (sliceBounds l u sv its.toArray.size).2.2)
  have y3 : ys.length ≤ xs.length := by
    rw [y1.length, hlen]
    have := slicePick_size_le its.toArray l u sv
    unfold slicePick at this
    rw [List.size_toArray, List.size_toArray] at this
    exact this
  refine ⟨.ref _, _, J5.laid (t' := s4.toks) (o := .lst ys) (fun b ob q => Heap.get?_push_of_some _ q) (Nat.le_refl _) ?_, rfl, q _ ys (J5.hok.fresh (Nat.le_refl _)) y2 y3⟩
  exact ⟨Nat.le_trans y3 hz, _, 0, y1, Heap.get?_push_size _ rfl⟩
section
variable {c : Cd} {σ : L2.St} {H : Hp} {Q : VK} {pos : Pos} {x y : V}
theorem e_sliceS {e st : Expr} {lo hi : Option Expr} {p2 : Pos} (q : RE c e σ H fun x H1 => RPo c lo σ H1 fun l H2 => RPo c hi σ H2 fun u H3 => RPo c (some st) σ H3 fun sv H4 => ∃ a xs, x = .ref a ∧ SqL c.K H4 a xs ∧ sv ≠ some 0 ∧
    ∀ p ys H5, Same H4 H5 → H4 p = none → H5 p = some (.lst ys) → (∀ y ∈ ys, y ∈ xs) → ys.length ≤ xs.length → Q (.ref p) H5) : RE c (.Subscript e (.Slice lo hi (some st) p2) pos) σ H Q := by
  refine re_of (t := tSlS c.K (RE c e) (RPo c lo) (RPo c hi) (RPo c (some st))) (fun X h => by rw [← h.K]; exact pe_sliceS (pe_re h) (po_rp h) (po_rp h) (po_rp h)) ?_
  refine RE.mono (fun x H1 z => ?_) q
  obtain ⟨⟨t1, Q1, h1, q1, w1⟩⟩ := z
  refine ⟨⟨t1, Q1, h1, q1, fun l H2 z => ?_⟩⟩
  obtain ⟨⟨t2, Q2, h2, q2, w2⟩⟩ := w1 _ _ z
  refine ⟨⟨t2, Q2, h2, q2, fun u H3 z => ?_⟩⟩
  obtain ⟨⟨t3, Q3, h3, q3, w3⟩⟩ := w2 _ _ z
  refine ⟨⟨t3, Q3, h3, q3, fun sv H4 z => ?_⟩⟩
  obtain ⟨a, xs, e1, e2, e3, k⟩ := w3 _ _ z
  exact ⟨a, xs, e1, e2, e3, fun p ys hp m l => k p ys _ (same_new hp) hp upd_same m l⟩
theorem rsl_list {a : Addr} {xs : List V} {lo hi : Option Int} (hx : SqL c.K H a xs) (q : ∀ p H2, Same H H2 → H p = none → H2 p = some (.lst (cutV xs lo hi)) → Q (.ref p) H2) : RSl c (.ref a) lo hi H Q :=
  rsl_of (r := rSlL c.K) (fun X h => by rw [← h.K]; exact sl_list) ⟨a, xs, rfl, hx, fun p hp => q _ _ (same_new hp) hp upd_same⟩
/-- xs + ys of lists -/
theorem ro_cat {a b : Addr} {xs ys : List V} (h1 : H a = some (.lst xs)) (h2 : H b = some (.lst ys)) (hl : xs.length + ys.length ≤ 100000) (q : ∀ p H2, Same H H2 → H p = none → H2 p = some (.lst (xs ++ ys)) → Q (.ref p) H2) : RO c .Add (.ref a) (.ref b) H Q :=
  ro_of (fun X h => op_cat) ⟨a, b, xs, ys, rfl, rfl, h1, h2, Nat.le_trans hl (by decide), fun p hp => q _ _ (same_new hp) hp upd_same⟩
/-- xs * n of a list -/
theorem ro_rep {a : Addr} {xs : List V} {k : Int} (h1 : H a = some (.lst xs)) (h2 : -1000 ≤ k ∧ k ≤ 1000) (hl : xs.length ≤ 1000) (q : ∀ p H2, Same H H2 → H p = none → H2 p = some (.lst (List.replicate k.toNat xs).flatten) → Q (.ref p) H2) : RO c .Mult (.ref a) (.int k) H Q := by
  refine ro_of (fun X h => op_rep) ⟨a, k, xs, rfl, rfl, h1, by omega, by omega, ?_, fun p hp => q _ _ (same_new hp) hp upd_same⟩
  have : xs.length * k.toNat ≤ 1000 * 1000 := Nat.mul_le_mul hl (by omega)
  exact Nat.le_trans this (by decide)
end
end G

namespace G
open PySem PySem.Spec PyProof.Rows L2
theorem same_none {H H1 : Hp} (s : Same H H1) {l : Addr} (h : H1 l = none) : H l = none := by
  cases e : H l with
  | none => rfl
  | some o => rw [s _ _ e] at h; cases h
theorem ift {A B : Prop} (a : A) : if true = true then A else B := a
theorem ne_feed {K : PySem.W.Frag} {H H1 : Hp} {fd cl l : Addr} {fn : Nat} (h : Feed K H fd cl fn) (g : Same H H1) (n : H1 l = none) : l ≠ fd := by
  rintro rfl
  obtain ⟨ns, b, d, e, h1, _⟩ := h
  rw [g _ _ h1] at n
  cases n
theorem ne_cl {K : PySem.W.Frag} {H H1 : Hp} {fd cl l : Addr} {fn : Nat} (h : Feed K H fd cl fn) (g : Same H H1) (n : H1 l = none) : l ≠ cl := by
  rintro rfl
  obtain ⟨ns, b, d, e, _, h1, _⟩ := h
  rw [g _ _ h1] at n
  cases n
theorem fresh_ne {H H1 : Hp} {a l : Addr} {o : HO} (h : H a = some o) (g : Same H H1) (n : H1 l = none) : l ≠ a := by
  rintro rfl
  rw [g _ _ h] at n
  cases n
section
variable {c : Cd} {σ : L2.St} {H : Hp} {Q : VK} {pos : Pos} {x y : V}
/-- t + u of data -/
theorem ro_catT {ds es : List PyData} (h1 : Dt c.K H x (.tuple ds)) (h2 : Dt c.K H y (.tuple es)) (hl : ds.length + es.length ≤ 100000) (q : ∀ v H2, Same H H2 → Dt c.K H2 v (.tuple (ds ++ es)) → Q v H2) : RO c .Add x y H Q := by
  obtain ⟨a, xs, rfl, t1, d1⟩ := h1.tupE
  obtain ⟨b, ys, rfl, t2, d2⟩ := h2.tupE
  have l1 := d1.len
  have l2 := d2.len
  refine ro_of (r := rCatA c.K) (fun X h => by rw [← h.K]; exact op_catA) ⟨a, b, xs, ys, rfl, rfl, t1, t2, Nat.le_trans (by omega : xs.length + ys.length ≤ 100000) (by decide), ?_, ?_, ?_⟩
  · rintro rfl
    cases d1
    exact q _ _ (Same.refl _) h2
  · rintro _ rfl
    cases d2
    rw [List.append_nil] at q
    exact q _ _ (Same.refl _) h1
  · intro _ _ p hp
    exact q _ _ (same_new hp) (.tup (.of upd_same) ((d1.app d2).mono (tp_same (same_new hp))))
/-- a def that answers with a new list of data -/
def spL (R : List PyData → List PyData → Prop) (K : PySem.W.Frag) : Sp := fun vs H Q _ => ∃ ds es, DtAll K H vs ds ∧ R ds es ∧ ∀ l us H', Same H H' → H l = none → H' l = some (.lst us) → DtAll K H' us es → Q (.ref l) H'
theorem e_callL {x : Str} {p : Pos} {e : Expr} {es : List Expr} {ps : List Str} {k : Nat} {R : List PyData → List PyData → Prop} (D : Dc c.toMd x ps k (spL R c.K)) (q : RA c (e :: es) σ H fun vs H1 => ∃ ds es, DtAll c.K H1 vs ds ∧ R ds es ∧ ∀ l us H', Same H1 H' → H1 l = none → H' l = some (.lst us) → DtAll c.K H' us es → Q (.ref l) H') (hk : k ≤ c.k := by exact Nat.le_of_ble_eq_true rfl) (hg : c.sc.names.lookup x = some .globalImplicit := by rfl)
    (hdb : (x == ("__debug__" : Str)) = false := by decide) (he : ∀ env, starEach (e :: es) env = (false, eval e env) :: starEach es env := by intro _; rfl) (hpl : ∀ env, (backTo pos (starEach es env)).any (·.1) = false := by intro _; rfl) :
    RE c (.Call (.Name x p) (e :: es) [] pos) σ H Q := e_call D q hk hg hdb he hpl
/-- a def that is given a list of data (and data behind it) and answers with a new list of data -/
def spLL (R : List PyData → List PyData → List PyData → Prop) (K : PySem.W.Frag) : Sp := fun vs H Q _ => ∃ a xs rest ds cs es, vs = .ref a :: rest ∧ SqL K H a xs ∧ DtAll K H xs ds ∧ DtAll K H rest cs ∧ R ds cs es ∧ ∀ l us H', Same H H' → H l = none → H' l = some (.lst us) → DtAll K H' us es → Q (.ref l) H'
theorem rx_pick {p : Addr} {xs : List V} {ds : List PyData} {i : Int} (hx : SqL c.K H p xs) (hd : DtAll c.K H xs ds) (h0 : 0 ≤ i) (h1 : i < ds.length) (q : ∀ v d, ds[i.toNat]? = some d → Dt c.K H v d → Q v H) : RX c (.ref p) (.int i) H Q := by
  have hlt : i.toNat < ds.length := by omega
  obtain ⟨v, hv, h⟩ := hd.get (List.getElem?_eq_getElem hlt)
  exact rx_list hx (pl_at (j := i.toNat) (by omega) hv) (q v _ (List.getElem?_eq_getElem hlt) h)
theorem rx_pickT {ds : List PyData} {i : Int} (hx : Dt c.K H x (.tuple ds)) (h0 : 0 ≤ i) (h1 : i < ds.length) (q : ∀ v d, ds[i.toNat]? = some d → Dt c.K H v d → Q v H) : RX c x (.int i) H Q := by
  have hlt : i.toNat < ds.length := by omega
  exact rx_tup hx (pl_at (j := i.toNat) (by omega) (List.getElem?_eq_getElem hlt)) fun v h => q v _ (List.getElem?_eq_getElem hlt) h
/-- a drawing call -/
theorem e_callD {x : Str} {p : Pos} {e : Expr} {es : List Expr} {ps : List Str} {k : Nat} {w : Nat} {Pre : List PyData → Prop} {R : List PyData → PyData → Prop} (D : Dc c.toMd x ps k (spD w Pre R c.K)) (q : RA c (e :: es) σ H fun vs H1 => ∃ fd cl rest ds n, vs = .ref fd :: rest ∧ Feed c.K H1 fd cl n ∧ n + w ≤ 1000000 ∧ DtAll c.K H1 rest ds ∧ Pre ds ∧ ∀ d v H', R ds d → Kp fd H1 H' → Feed c.K H' fd cl (n + w) → Dt c.K H' v d → Q v H') (hk : k ≤ c.k := by exact Nat.le_of_ble_eq_true rfl) (hg : c.sc.names.lookup x = some .globalImplicit := by rfl)
    (hdb : (x == ("__debug__" : Str)) = false := by decide) (he : ∀ env, starEach (e :: es) env = (false, eval e env) :: starEach es env := by intro _; rfl) (hpl : ∀ env, (backTo pos (starEach es env)).any (·.1) = false := by intro _; rfl) :
    RE c (.Call (.Name x p) (e :: es) [] pos) σ H Q := e_call D q hk hg hdb he hpl

section
variable {elt tg iter : Expr} {ifs : List Expr} {scope : Scope} {vs : List Nat}
theorem rng_step {g : Int → Option PyData} {i : Int} (t : Nat) : (List.range t).filterMap (fun t : Nat => g (i + (t : Int))) ++ (g (i + (t : Int))).toList = (List.range (t + 1)).filterMap (fun t : Nat => g (i + (t : Int))) := by
  rw [List.range_succ, List.filterMap_append]
  congr 1
theorem lcR2_F (g : Int → Option PyData) {a b : Expr} {p ppos : Pos} (hm : c.mg "range" = none) (q : RE c a σ H fun x H1 => RE c b σ H1 fun y H2 => ∃ i j : Int, x = .int i ∧ y = .int j ∧ (-1000 ≤ i ∧ i ≤ 1000) ∧ (-1000 ≤ j ∧ j ≤ 1000) ∧ (∀ (t : Nat) H', t < (j - i).toNat → Same H2 H' → TurnF (blkCd c scope) tg ifs elt vs σ c.K (.int (i + t)) H' (g (i + t))) ∧
      ∀ p us H3, Same H2 H3 → H2 p = none → H3 p = some (.lst us) → DtAll c.K H3 us ((List.range (j - i).toNat).filterMap fun t : Nat => g (i + (t : Int))) → Q (.ref p) H3)
    (hg : c.sc.names.lookup ("range" : Str) = some .globalImplicit := by rfl) (hs : ∀ env, starEach [a, b] env = [(false, eval a env), (false, eval b env)] := by intro _; rfl) (hs2 : ∀ env, starEach [b] env = [(false, eval b env)] := by intro _; rfl) :
    tLc (RI c tg (.Call (.Name "range" p) [a, b] [] ppos)) (RG (blkCd c scope) tg) (RTs (blkCd c scope) ifs) (RE (blkCd c scope) elt) vs σ H Q := by
  refine lc_R2 hm (RE.mono (fun x H1 z => RE.mono (fun y H2 z => ?_) z) q) hg hs hs2
  obtain ⟨i, j, rfl, rfl, h1, h2, tn, k⟩ := z
  refine ⟨i, j, rfl, rfl, h1, h2, fun D hD => ⟨fun t acc H' => acc.length ≤ t ∧ H' D = some (.lst acc) ∧ Same H2 H' ∧ DtAll c.K H' acc ((List.range t).filterMap fun t : Nat => g (i + (t : Int))), ⟨Nat.le_refl _, upd_same, same_new hD, .nil⟩, fun _ _ _ h => h.1, ?_, ?_⟩⟩
  · rintro t acc H' ht ⟨l, h1, s, h2⟩
    have T := TurnF.one hD s h1 h2 (tn t H' ht s)
    refine RG.mono (fun σ2 H2 z => ⟨z.1, RTs.mono (fun b H3 z => ?_) z.2⟩) T
    cases b with
    | true => exact RE.mono (fun y H4 z => ⟨z.1, by rw [List.length_append, List.length_singleton]; omega, z.2.1, z.2.2.1, by rw [← rng_step]; exact z.2.2.2⟩) z
    | false => exact ⟨by omega, z.1, z.2.1, by rw [← rng_step]; exact z.2.2⟩
  · rintro acc H' ⟨l, h1, s, h2⟩
    exact k D acc H' s hD h1 h2
theorem lcR1_F (g : Int → Option PyData) {a : Expr} {p ppos : Pos} (hm : c.mg "range" = none) (q : RE c a σ H fun y H2 => ∃ j : Int, y = .int j ∧ (-1000 ≤ j ∧ j ≤ 1000) ∧ (∀ (t : Nat) H', t < j.toNat → Same H2 H' → TurnF (blkCd c scope) tg ifs elt vs σ c.K (.int t) H' (g t)) ∧
      ∀ p us H3, Same H2 H3 → H2 p = none → H3 p = some (.lst us) → DtAll c.K H3 us ((List.range j.toNat).filterMap fun t : Nat => g (t : Int)) → Q (.ref p) H3)
    (hg : c.sc.names.lookup ("range" : Str) = some .globalImplicit := by rfl) (hs : ∀ env, starEach [a] env = [(false, eval a env)] := by intro _; rfl) :
    tLc (RI c tg (.Call (.Name "range" p) [a] [] ppos)) (RG (blkCd c scope) tg) (RTs (blkCd c scope) ifs) (RE (blkCd c scope) elt) vs σ H Q := by
  refine lc_R1 hm (RE.mono (fun y H2 z => ?_) q) hg hs
  obtain ⟨j, rfl, h2, tn, k⟩ := z
  refine ⟨j, rfl, h2, fun D hD => ⟨fun t acc H' => acc.length ≤ t ∧ H' D = some (.lst acc) ∧ Same H2 H' ∧ DtAll c.K H' acc ((List.range t).filterMap fun t : Nat => g (t : Int)), ⟨Nat.le_refl _, upd_same, same_new hD, .nil⟩, fun _ _ _ h => h.1, ?_, ?_⟩⟩
  · rintro t acc H' ht ⟨l, h1, s, h2⟩
    have T := TurnF.one hD s h1 h2 (tn t H' ht s)
    have e := rng_step (g := g) (i := 0) t
    simp only [Int.zero_add] at e
    refine RG.mono (fun σ2 H2 z => ⟨z.1, RTs.mono (fun b H3 z => ?_) z.2⟩) T
    cases b with
    | true => exact RE.mono (fun y H4 z => ⟨z.1, by rw [List.length_append, List.length_singleton]; omega, z.2.1, z.2.2.1, by rw [← e]; exact z.2.2.2⟩) z
    | false => exact ⟨by omega, z.1, z.2.1, by rw [← e]; exact z.2.2⟩
  · rintro acc H' ⟨l, h1, s, h2⟩
    exact k D acc H' s hD h1 h2
end
end
end G

namespace G
open PySem PySem.Spec PyProof.Rows L2
def isStar : Expr → Bool
  | .Starred .. => true
  | _ => false
theorem any_star (vs : List Expr) : (vs.any fun | .Starred .. => true | _ => false) = vs.any isStar := by
  congr 1
theorem sw2 {x y : Str} {px py pt : Pos} {kt k2 pt2} {a b : Expr} {env : Env} (hk : env.scope.kind = .function) (hx : env.scope.names.lookup x = some .local) (hy : env.scope.names.lookup y = some .local) (hxy : [x, y].eraseDups.length = 2) (hl : (py.line == px.line) = true)
    (h1 : [a, b].any isStar = false) (h2 : [a, b].all (foldedForSure 8) = false) (h3 : [a, b].all (constantsAlone 8) = false) :
    swappedStores [.Tuple [.Name x px, .Name y py] kt pt] (.Tuple [a, b] k2 pt2) env = pure (some [x, y]) := by
  have kx : env.kindOf x = some .local := hx
  have ky : env.kindOf y = some .local := hy
  have hb : env.blockKind = .function := by unfold Env.blockKind; rw [hk]; rfl
  have hn : ([Expr.Name x px, Expr.Name y py].filterMap fun
    | .Name id pos => if env.kindOf id == some .local && pos.line == px.line then some id else none
    | _ => none) = [x, y] := by
    simp only [List.filterMap_cons, List.filterMap_nil, kx, ky, hl, beq_self_eq_true, Bool.and_self, if_true]
  unfold swappedStores
  simp only [hb]
  show (if _ = true then _ else if ([a, b].any fun | .Starred .. => true | _ => false) = true then _ else _) = _
  rw [any_star, h1]
  generalize hz : List.filterMap _ [Expr.Name x px, Expr.Name y py] = z
  have hz' : z = [x, y] := by rw [← hz]; exact hn
  subst hz'
  rw [if_neg (by show ¬ (false = true); decide), if_neg (by decide), if_neg (by rw [hxy]; show ¬ (false = true); decide), h2, if_neg (by decide), h3, if_neg (by decide)]
theorem sw3 {x y z : Str} {px py pz pt : Pos} {kt k2 pt2} {a b d : Expr} {env : Env} (hk : env.scope.kind = .function) (hx : env.scope.names.lookup x = some .local) (hy : env.scope.names.lookup y = some .local) (hz0 : env.scope.names.lookup z = some .local) (hxy : [x, y, z].eraseDups.length = 3) (hl : (py.line == px.line) = true) (hl2 : (pz.line == px.line) = true)
    (h1 : [a, b, d].any isStar = false) (h2 : [a, b, d].all (foldedForSure 8) = false) (h3 : [a, b, d].all (constantsAlone 8) = false) :
    swappedStores [.Tuple [.Name x px, .Name y py, .Name z pz] kt pt] (.Tuple [a, b, d] k2 pt2) env = pure (some [x, y, z]) := by
  have kx : env.kindOf x = some .local := hx
  have ky : env.kindOf y = some .local := hy
  have kz : env.kindOf z = some .local := hz0
  have hb : env.blockKind = .function := by unfold Env.blockKind; rw [hk]; rfl
  have hn : ([Expr.Name x px, Expr.Name y py, Expr.Name z pz].filterMap fun
    | .Name id pos => if env.kindOf id == some .local && pos.line == px.line then some id else none
    | _ => none) = [x, y, z] := by
    simp only [List.filterMap_cons, List.filterMap_nil, kx, ky, kz, hl, hl2, beq_self_eq_true, Bool.and_self, if_true]
  unfold swappedStores
  simp only [hb]
  show (if _ = true then _ else if ([a, b, d].any fun | .Starred .. => true | _ => false) = true then _ else _) = _
  rw [any_star, h1]
  generalize hz : List.filterMap _ [Expr.Name x px, Expr.Name y py, Expr.Name z pz] = w
  have hz' : w = [x, y, z] := by rw [← hz]; exact hn
  subst hz'
  rw [if_neg (by show ¬ (false = true); decide), if_neg (by decide), if_neg (by rw [hxy]; show ¬ (false = true); decide), h2, if_neg (by decide), h3, if_neg (by decide)]
section
variable {c : Cd} {σ : L2.St} {H : Hp} {D : Ends} {pos : Pos}
theorem s_par2 {i j : Nat} {x y : Str} {a b : Expr} {px py pt : Pos} {kt k2 pt2} (hi : At c.N i x) (hj : At c.N j y) (q : RE c a σ H fun v H1 => RE c b σ H1 fun w H2 => D.nx ((σ.set i (some v)).set j (some w)) H2) (hij : i ≠ j := by decide)
    (hx : c.sc.names.lookup x = some .local := by rfl) (hy : c.sc.names.lookup y = some .local := by rfl) (hk : c.sc.kind = .function := by rfl) (hxy : [x, y].eraseDups.length = 2 := by decide +kernel) (hl : (py.line == px.line) = true := by rfl)
    (e1 : [a, b].any isStar = false := by rfl) (e2 : [a, b].all (foldedForSure 8) = false := by rfl) (e3 : [a, b].all (constantsAlone 8) = false := by rfl)
    (hs : ∀ env, swapsWithSole [.Tuple [.Name x px, .Name y py] kt pt] (.Tuple [a, b] k2 pt2) pos.line env = pure false := by intro _; rfl)
    (h1 : ∀ env, starEach [a, b] env = (false, eval a env) :: starEach [b] env := by intro _; rfl) (h2 : ∀ env, starEach [b] env = (false, eval b env) :: starEach [] env := by intro _; rfl) :
    RS c (.Assign [.Tuple [.Name x px, .Name y py] kt pt] (.Tuple [a, b] k2 pt2) pos) D σ H :=
  s_par hi hj q hij hx hy (fun env he => sw2 (by rw [he]; exact hk) (by rw [he]; exact hx) (by rw [he]; exact hy) hxy hl e1 e2 e3) hs h1 h2
theorem s_par3 {i j l : Nat} {x y z : Str} {a b d : Expr} {px py pz pt : Pos} {kt k2 pt2} (hi : At c.N i x) (hj : At c.N j y) (hl0 : At c.N l z) (q : RE c a σ H fun v H1 => RE c b σ H1 fun w H2 => RE c d σ H2 fun u H3 => D.nx (((σ.set i (some v)).set j (some w)).set l (some u)) H3) (hij : i ≠ j := by decide) (hil : i ≠ l := by decide) (hjl : j ≠ l := by decide)
    (hx : c.sc.names.lookup x = some .local := by rfl) (hy : c.sc.names.lookup y = some .local := by rfl) (hz : c.sc.names.lookup z = some .local := by rfl) (hk : c.sc.kind = .function := by rfl) (hxy : [x, y, z].eraseDups.length = 3 := by decide +kernel) (hl : (py.line == px.line) = true := by rfl) (hl2 : (pz.line == px.line) = true := by rfl)
    (e1 : [a, b, d].any isStar = false := by rfl) (e2 : [a, b, d].all (foldedForSure 8) = false := by rfl) (e3 : [a, b, d].all (constantsAlone 8) = false := by rfl)
    (hs : ∀ env, swapsWithSole [.Tuple [.Name x px, .Name y py, .Name z pz] kt pt] (.Tuple [a, b, d] k2 pt2) pos.line env = pure false := by intro _; rfl)
    (h0 : ∀ env, starEach [a, b, d] env = (false, eval a env) :: starEach [b, d] env := by intro _; rfl) (h1 : ∀ env, starEach [b, d] env = (false, eval b env) :: starEach [d] env := by intro _; rfl) (h2 : ∀ env, starEach [d] env = (false, eval d env) :: starEach [] env := by intro _; rfl) :
    RS c (.Assign [.Tuple [.Name x px, .Name y py, .Name z pz] kt pt] (.Tuple [a, b, d] k2 pt2) pos) D σ H := by
  refine rs_of (t := tPar3 i j l (RA c [a, b, d])) (fun X h => ps_par3 h.calm (by rw [h.N]; exact h.nd) (by rw [h.N]; exact hi.get) (by rw [h.N]; exact hj.get) (by rw [h.N]; exact hl0.get) hij hil hjl (by rw [h.sc]; exact hx) (by rw [h.sc]; exact hy) (by rw [h.sc]; exact hz) (pa_ra h) (sw3 (by rw [h.sc]; exact hk) (by rw [h.sc]; exact hx) (by rw [h.sc]; exact hy) (by rw [h.sc]; exact hz) hxy hl hl2 e1 e2 e3) (hs _)) ?_
  exact a_cons (RE.mono (fun v H1 z => a_cons (RE.mono (fun w H2 z => a_cons (RE.mono (fun u H3 z => a_nil ⟨v, w, u, rfl, z⟩) z) h2) z) h1) q) h0
theorem e_bo1 {Q : VK} {op : BoolOp} {a : Expr} (q : RE c a σ H Q) : RE c (.BoolOp op [a] pos) σ H Q := re_of (fun X h => pe_one (pe_re h)) q
theorem e_disp {Q : VK} {keys : List (Option Expr)} {values : List Expr} {trs : List (TE × TE)} (hp : ∀ X, Is c X → PPs X pos keys values trs) (hall : keys.all (·.isSome) = true) (hl : keys.length = values.length) (h0 : keys ≠ []) (h15 : keys.length ≤ 15) (q : tDisp trs σ H Q) : RE c (.Dict keys values pos) σ H Q :=
  re_of (fun X h => pe_disp (hp X h) hall hl h0 h15) q
theorem e_dnew {Q : VK} (q : ∀ p, H p = none → Q (.ref p) (upd H p (.dK []))) : RE c (.Dict [] [] pos) σ H Q := re_of (fun X h => pe_dnewK) q
theorem kp_none {fp l : Addr} {H H1 : Hp} (k : Kp fp H H1) (h : H1 l = none) (n : l ≠ fp) : H l = none := by
  cases e : H l with
  | none => rfl
  | some o => rw [k.k _ _ n e] at h; cases h
theorem ty_tup {K : PySem.W.Frag} {a : Addr} {xs : List V} (h : SqT K H a xs) : TyX K H (.ref a) (.type "tuple") := by
  rcases h with (h | ⟨o, h⟩) | ⟨o, its, n, h1, h2, _⟩
  · exact .base (.tup h)
  · exact .fTuple h
  · exact .kTuple h1 h2
theorem rc_isi {Q : VK} {x : V} {t T : String} {b : Bool} (ty : TyX c.K H x (.type t)) (e : PySem.W.kitOne c.K (.type t) (.type T) = some b) (q : Q (.bl b) H) : RC c (.builtin "isinstance") [x, .ty T] H Q :=
  rc_of (r := rIsi c.K) (fun X h => by rw [← h.K]; exact call_isi) ⟨x, _, _, _, b, rfl, .ty T, ty, e, q⟩
/-- a def with defaults -/
structure DcV (c : Md) (x : Str) (ps : List Str) (dvs : List V) (k : Nat) (sp : Sp) : Prop where
  ex : ∃ (f : Addr) (fd : FuncData) (ds : List Value), FnG c.prog c.w c.K c.mg c.base noX k f fd ps sp ∧ c.mg x = some (.ref f) ∧ PySem.W.keepIn c.K (.ref f) = true ∧ Binds c.K fd ps ds ∧ Vals dvs ds
theorem e_callV {Q : VK} {x : Str} {p : Pos} {e : Expr} {es : List Expr} {ps : List Str} {dvs : List V} {k : Nat} {sp : Sp} (D : DcV c.toMd x ps dvs k sp) (q : RA c (e :: es) σ H fun vs H1 => sp (vs ++ dvs) H1 Q fun _ _ _ => False) (hk : k ≤ c.k := by exact Nat.le_of_ble_eq_true rfl) (hg : c.sc.names.lookup x = some .globalImplicit := by rfl)
    (hdb : (x == ("__debug__" : Str)) = false := by decide) (he : ∀ env, starEach (e :: es) env = (false, eval e env) :: starEach es env := by intro _; rfl) (hpl : ∀ env, (backTo pos (starEach es env)).any (·.1) = false := by intro _; rfl) :
    RE c (.Call (.Name x p) (e :: es) [] pos) σ H Q := by
  obtain ⟨f, fd, ds, F, hm, hkp, hb, hv⟩ := D.ex
  refine re_of (t := tCall sp dvs (fun _ _ _ => False) (RA c (e :: es))) (fun X h => ?_) q
  refine pe_call (CX := fun _ _ _ _ _ _ => False) (k := k) (f := f) (fd := fd) (ps := ps) (ds := ds) ?_ (h.room.mono hk) (gl_of h hg) (by rw [h.mg]; exact hm) (by rw [h.K]; exact hkp) (by rw [h.K]; exact hb) hv (fun _ _ _ _ _ _ _ z => z.elim) (pa_ra h) hdb (he _) (hpl _)
  rw [h.prog, h.w, h.K, h.mg, h.base]; exact F
/-- x, y = e with a pair of data -/
theorem g_unp2 {R : L2.St → Hp → Prop} {i j : Nat} {x y : Str} {px py pt : Pos} {kt : Nat} {v : V} {d1 d2 : PyData} (hi : At c.N i x) (hj : At c.N j y) (hv : Dt c.K H v (.tuple [d1, d2])) (q : ∀ v1 v2, Dt c.K H v1 d1 → Dt c.K H v2 d2 → R ((σ.set i (some v1)).set j (some v2)) H)
    (hx : c.sc.names.lookup x = some .local ∨ (c.sc.names.lookup x = some .cell ∧ c.top = true) := by first | exact Or.inl rfl | exact Or.inr ⟨rfl, rfl⟩) (hy : c.sc.names.lookup y = some .local ∨ (c.sc.names.lookup y = some .cell ∧ c.top = true) := by first | exact Or.inl rfl | exact Or.inr ⟨rfl, rfl⟩)
    (hst : ∀ env, (assignEach [.Name x px, .Name y py] env).findIdx? (·.1) = none := by intro _; rfl) : RG c (.Tuple [.Name x px, .Name y py] kt pt) v σ H R := by
  obtain ⟨a, xs, rfl, ht, hd⟩ := hv.tupE
  obtain _ | ⟨h1, hd⟩ := hd
  obtain _ | ⟨h2, hd⟩ := hd
  cases hd
  exact g_tup ht (gs_cons (g_name hi (gs_cons (g_name hj (gs_nil (q _ _ h1 h2)) hy)) hx)) rfl (fun _ => rfl) hst
theorem g_unp3 {R : L2.St → Hp → Prop} {i j l : Nat} {x y z : Str} {px py pz pt : Pos} {kt : Nat} {v : V} {d1 d2 d3 : PyData} (hi : At c.N i x) (hj : At c.N j y) (hl : At c.N l z) (hv : Dt c.K H v (.tuple [d1, d2, d3])) (q : ∀ v1 v2 v3, Dt c.K H v1 d1 → Dt c.K H v2 d2 → Dt c.K H v3 d3 → R (((σ.set i (some v1)).set j (some v2)).set l (some v3)) H)
    (hx : c.sc.names.lookup x = some .local ∨ (c.sc.names.lookup x = some .cell ∧ c.top = true) := by first | exact Or.inl rfl | exact Or.inr ⟨rfl, rfl⟩) (hy : c.sc.names.lookup y = some .local ∨ (c.sc.names.lookup y = some .cell ∧ c.top = true) := by first | exact Or.inl rfl | exact Or.inr ⟨rfl, rfl⟩) (hz : c.sc.names.lookup z = some .local ∨ (c.sc.names.lookup z = some .cell ∧ c.top = true) := by first | exact Or.inl rfl | exact Or.inr ⟨rfl, rfl⟩)
    (hst : ∀ env, (assignEach [.Name x px, .Name y py, .Name z pz] env).findIdx? (·.1) = none := by intro _; rfl) : RG c (.Tuple [.Name x px, .Name y py, .Name z pz] kt pt) v σ H R := by
  obtain ⟨a, xs, rfl, ht, hd⟩ := hv.tupE
  obtain _ | ⟨h1, hd⟩ := hd
  obtain _ | ⟨h2, hd⟩ := hd
  obtain _ | ⟨h3, hd⟩ := hd
  cases hd
  exact g_tup ht (gs_cons (g_name hi (gs_cons (g_name hj (gs_cons (g_name hl (gs_nil (q _ _ _ h1 h2 h3)) hz)) hy)) hx)) rfl (fun _ => rfl) hst
end
end G

namespace G
open PySem PySem.Spec PyProof.Rows L2
/-- a tuple's object as the built-in makes it -/
def BareT (ob : Obj) : Prop := ob.cls = .type "tuple" ∧ ob.dict = none
/-- none, or a tuple of data whose object is known to be bare -/
def Fz (K : PySem.W.Frag) (H : Hp) (v : V) (d : PyData) : Prop := (v = .non ∧ d = .none) ∨ ∃ a ob us ds, v = .ref a ∧ d = .tuple ds ∧ H a = some (.frz ob (.tup us)) ∧ BareT ob ∧ DtAll K H us ds
theorem Fz.mono {K : PySem.W.Frag} {H H' : Hp} {v : V} {d : PyData} (e : Tp H H') (h : Fz K H v d) : Fz K H' v d := by
  rcases h with h | ⟨a, ob, us, ds, h1, h2, h3, h4, h5⟩
  · exact .inl h
  · exact .inr ⟨a, ob, us, ds, h1, h2, e.f _ _ _ h3, h4, h5.mono e⟩
theorem Fz.dt {K : PySem.W.Frag} {H : Hp} {v : V} {d : PyData} (h : Fz K H v d) : Dt K H v d := by
  rcases h with ⟨rfl, rfl⟩ | ⟨a, ob, us, ds, rfl, rfl, h3, h4, h5⟩
  · exact .non
  · exact .tup (.inl (.inr ⟨ob, h3⟩)) h5
theorem Fz.tup {K : PySem.W.Frag} {H : Hp} {v : V} {ds : List PyData} (h : Fz K H v (.tuple ds)) : ∃ a ob us, v = .ref a ∧ H a = some (.frz ob (.tup us)) ∧ BareT ob ∧ DtAll K H us ds := by
  rcases h with ⟨_, h⟩ | ⟨a, ob, us, es, h1, h2, h3⟩
  · cases h
  · cases h2
    exact ⟨a, ob, us, h1, h3⟩
section
variable {X : Cx}
theorem cr_tupF : CallR X (.type "tuple") (fun vs H Q => ∃ l zs, vs = [.ref l] ∧ SqL X.K H l zs ∧ ∀ t ob, H t = none → BareT ob → Q (.ref t) (upd H t (.frz ob (.tup zs)))) := by
  rintro pins s σ H vs us Q I rv ⟨l, zs, rfl, hl, k⟩
  obtain ⟨w, rfl, rw0⟩ := vals1 rv
  cases rw0
  obtain ⟨ws, rz, plain, short⟩ := I.list hl
  have same := rz.length
  refine call_tuple_list plain.isList (fun hp kept => ?_) (by rw [List.size_toArray] <;> omega)
  have J : Inv X pins σ H { s with heap := hp } := I.kept (t' := s.toks) kept
  refine ⟨.ref hp.objs.size, _, J.laid (o := .frz { cls := .type "tuple", data := .seq ws.toArray } (.tup zs)) (t' := s.toks) (h' := hp.push { cls := .type "tuple", data := .seq ws.toArray }) (fun b o e => Heap.get?_push_of_some _ e) (Nat.le_refl _) ?_, rfl, k _ _ (J.hok.fresh (Nat.le_refl _)) ⟨rfl, rfl⟩⟩
  exact ⟨Heap.get?_push_size _ rfl, short, ws, rz, IsTup.new _ _⟩
end
section
variable {c : Cd} {σ : L2.St} {H : Hp} {Q : VK} {pos : Pos}
theorem rc_tupF {l : Addr} {ys : List V} {ds : List PyData} (hl : SqL c.K H l ys) (hd : DtAll c.K H ys ds) (q : ∀ v H2, Same H H2 → Dt c.K H2 v (.tuple ds) → Fz c.K H2 v (.tuple ds) → Q v H2) : RC c (.type "tuple") [.ref l] H Q :=
  rc_of (r := fun vs H Q => ∃ l zs, vs = [.ref l] ∧ SqL c.K H l zs ∧ ∀ t ob, H t = none → BareT ob → Q (.ref t) (upd H t (.frz ob (.tup zs)))) (fun X h => by rw [← h.K]; exact cr_tupF) ⟨l, ys, rfl, hl, fun t ob hn hb => q _ _ (same_new hn) (.tup (.inl (.inr ⟨ob, upd_same⟩)) (hd.mono (tp_same (same_new hn)))) (.inr ⟨t, ob, ys, ds, rfl, rfl, upd_same, hb, hd.mono (tp_same (same_new hn))⟩)⟩
/-- a def that changes nothing and answers with none or a bare tuple -/
def spZ (R : List PyData → PyData → Prop) (K : PySem.W.Frag) : Sp := fun vs H Q _ => ∃ ds d, DtAll K H vs ds ∧ R ds d ∧ ∀ v H', Same H H' → Dt K H' v d → Fz K H' v d → Q v H'
theorem e_callZ {x : Str} {p : Pos} {e : Expr} {es : List Expr} {ps : List Str} {k : Nat} {R : List PyData → PyData → Prop} (D : Dc c.toMd x ps k (spZ R c.K)) (q : RA c (e :: es) σ H fun vs H1 => ∃ ds d, DtAll c.K H1 vs ds ∧ R ds d ∧ ∀ v H', Same H1 H' → Dt c.K H' v d → Fz c.K H' v d → Q v H') (hk : k ≤ c.k := by exact Nat.le_of_ble_eq_true rfl) (hg : c.sc.names.lookup x = some .globalImplicit := by rfl)
    (hdb : (x == ("__debug__" : Str)) = false := by decide) (he : ∀ env, starEach (e :: es) env = (false, eval e env) :: starEach es env := by intro _; rfl) (hpl : ∀ env, (backTo pos (starEach es env)).any (·.1) = false := by intro _; rfl) :
    RE c (.Call (.Name x p) (e :: es) [] pos) σ H Q := e_call D q hk hg hdb he hpl
end
end G

open PySem L2 G
local macro_rules | `(tactic| tm_at "at") => `(tactic| (first | with_reducible exact At.z | (with_reducible apply At.s; tm_at "at")))
local macro_rules | `(tactic| tm_at "tp") => `(tactic| (first
  | exact Tp.refl _
  | assumption
  | exact tp_same (by assumption)
  | exact Kp.t (by assumption)
  | (refine Tp.trans ?_ (tp_same (by assumption)); tm_at "tp")
  | (refine Tp.trans ?_ (Kp.t (by assumption)); tm_at "tp")
  | (refine Tp.trans ?_ (tp_same (same_new (by assumption))); tm_at "tp")))
local macro_rules | `(tactic| tm_at "same") => `(tactic| (first
  | exact Same.refl _
  | assumption
  | (refine Same.trans ?_ (by assumption); tm_at "same")
  | (refine Same.trans ?_ (same_new (by assumption)); tm_at "same")))
local macro_rules | `(tactic| tm_at "dt") => `(tactic| (first
  | assumption
  | exact Dt.int _ | exact Dt.str _ | exact Dt.bl _ | exact Dt.non
  | (refine Dt.mono ?_ (by assumption); tm_at "tp")))
local macro_rules | `(tactic| tm_at "dts") => `(tactic| (first
  | exact DtAll.nil
  | (with_reducible apply DtAll.cons; tm_at "dt"; tm_at "dts")))
local macro_rules | `(tactic| tm_at "s") => `(tactic| first
  | (refine gRE ?_; first | refine e_var (by tm_at "at") ?_ | refine e_int ?_ | refine e_str ?_ | refine e_non ?_ | refine e_bl ?_ | refine e_bin ?_ | refine e_cmp ?_ | refine e_chain ?_ | refine e_dgetS ?_ | refine e_sliceS ?_ | refine e_slice ?_ | refine e_ix ?_ | refine e_not ?_ | refine e_bo1 ?_ | refine e_or ?_ | refine e_and ?_ | refine e_un ?_ | refine e_if ?_ | refine e_callB (id := "isinstance") (by with_reducible exact Bl.isinst (by assumption)) (by decide +kernel) ?_ | refine e_bltn (v := .ty "int") (u := .type "int") (by with_reducible exact Bl.int (by assumption)) (by decide +kernel) rfl ?_ | refine e_bltn (v := .ty "str") (u := .type "str") (by with_reducible exact Bl.str (by assumption)) (by decide +kernel) rfl ?_ | refine e_bltn (v := .ty "bool") (u := .type "bool") (by with_reducible exact Bl.bool (by assumption)) (by decide +kernel) rfl ?_ | refine e_bltn (v := .ty "tuple") (u := .type "tuple") (by with_reducible exact Bl.tuple (by assumption)) (by decide +kernel) rfl ?_ | refine e_callT (T := "int") (by with_reducible exact Bl.int (by assumption)) (by decide +kernel) ?_ | refine e_callB (id := "len") (by with_reducible exact Bl.len (by assumption)) (by decide +kernel) ?_ | refine e_callB (id := "max") (by with_reducible exact Bl.max (by assumption)) (by decide +kernel) ?_ | refine e_callB (id := "min") (by with_reducible exact Bl.min (by assumption)) (by decide +kernel) ?_ | refine e_callT (T := "tuple") (by with_reducible exact Bl.tuple (by assumption)) (by decide +kernel) ?_ | refine e_callT (T := "dict") (by with_reducible exact Bl.dict (by assumption)) (by decide +kernel) ?_ | refine e_callB (id := "sorted") (by with_reducible exact Bl.sorted (by assumption)) (by decide +kernel) ?_ | refine e_callT (T := "list") (by with_reducible exact Bl.list (by assumption)) (by decide +kernel) ?_)
  | (refine gRA ?_; first | refine a_cons ?_ | refine a_nil ?_)
  | (refine gRX ?_; first | refine rx_int (by tm_at "dt") (by rfl) ?_ | refine rx_str (by tm_at "dt") (by rfl) ?_ | refine rx_bl (by tm_at "dt") (by rfl) ?_)
  | (refine gRQ ?_; first | refine ro_eqI ?_ | refine ro_eqS ?_ | refine ro_eqB ?_ | refine ro_neI ?_ | refine ro_lt ?_ | refine ro_le ?_ | refine ro_gt ?_ | refine ro_ge ?_ | refine ro_isN ?_ | refine ro_notN ?_)
  | (refine gRS ?_; first | refine s_ret ?_ | refine s_if ?_ | refine s_retN ?_ | refine s_dputS ?_ | refine s_par2 (by tm_at "at") (by tm_at "at") ?_ | refine s_par3 (by tm_at "at") (by tm_at "at") (by tm_at "at") ?_ | refine s_set (by tm_at "at") ?_)
  | (refine gRT ?_; first | refine t_cmp ?_ | refine t_chain ?_ | refine t_not ?_ | refine t_w (e := .BoolOp _ _ _) ?_)
  | (refine gRW ?_; first | refine w_and ?_ | refine w_or ?_ | refine w_and1 ?_ | refine w_or1 ?_)
  | (refine gRO ?_; first | refine ro_add ?_ | refine ro_sub ?_)
  | (refine gRC ?_; first | refine rc_max2 ?_ | refine rc_min2 ?_ | refine rc_intI ?_ | refine rc_intB ?_)
  | (refine gRG ?_; first | refine g_name (by tm_at "at") ?_)
  | (refine gRPo ?_; first | refine p_none ?_ | refine p_some ?_)
  | (refine gRU ?_; first | refine ru_neg ?_)
  | with_reducible refine ⟨_, rfl, ?_⟩
  | with_reducible refine ifT rfl ?_)
local macro_rules | `(tactic| tm_at "run") => `(tactic| repeat tm_at "s")
local macro_rules | `(tactic| tm_at "go") => `(tactic| repeat (first | tm_at "s" | (refine gRB ?_; first | refine b_one ?_ | refine b_cons ?_ | refine b_nil ?_)))

namespace G
open PySem PySem.Spec PyProof.Rows L2
theorem iff0 {A B : Prop} (b : B) : if false = true then A else B := b
section
variable {c : Cd} {σ : L2.St} {H : Hp} {Q : VK} {pos : Pos} {x y : V}
def cutD {α : Type} (xs : List α) (lo hi : Option Int) : List α := (xs.drop (HT.sIx xs.length 0 lo)).take (HT.sIx xs.length xs.length hi - HT.sIx xs.length 0 lo)
theorem rsl_tup {ds : List PyData} {lo hi : Option Int} (hx : Dt c.K H x (.tuple ds)) (q : ∀ v H2, Same H H2 → Dt c.K H2 v (.tuple (cutD ds lo hi)) → Q v H2) : RSl c x lo hi H Q := by
  obtain ⟨a, xs, rfl, ht, hd⟩ := hx.tupE
  have hl := hd.len
  have hc : DtAll c.K H (cutV xs lo hi) (cutD ds lo hi) := by
    unfold cutV cutD
    rw [hl]
    exact DtAll.take _ (DtAll.drop _ hd)
  refine rsl_of (r := rSlA c.K) (fun X h => by rw [← h.K]; exact sl_tupA) ⟨a, xs, rfl, ht, fun e => ?_, fun _ p hp => q _ _ (same_new hp) (.tup (.of upd_same) (hc.mono (tp_same (same_new hp))))⟩
  refine q _ _ (Same.refl _) ?_
  have e2 : cutD ds lo hi = ds := by
    unfold cutD
    rw [← hl, e.1, e.2]
    simp [hl]
  rw [e2]
  exact hx
end
end G
namespace K
open PySem L2 G
variable {M : Md}
section
variable {c : Cd} {σ : L2.St} {H : Hp} {Q : VK} {pos : Pos}
end
theorem dtInts {K : PySem.W.Frag} {H : Hp} : ∀ ns : List Int, DtAll K H (ns.map V.int) (ns.map PyData.int)
  | [] => .nil
  | n :: ns => .cons (.int n) (dtInts ns)
theorem dtStrs {K : PySem.W.Frag} {H : Hp} : ∀ ns : List Str, DtAll K H (ns.map V.str) (ns.map PyData.str)
  | [] => .nil
  | n :: ns => .cons (.str n) (dtStrs ns)
theorem cutD_sub {α : Type} (xs : List α) (lo hi : Option Int) : (cutD xs lo hi).Sublist xs := (List.take_sublist _ _).trans (List.drop_sublist _ _)
theorem cutD_map {α β : Type} (g : α → β) (xs : List α) (lo hi : Option Int) : cutD (xs.map g) lo hi = (cutD xs lo hi).map g := by
  unfold cutD
  rw [List.length_map, List.map_take, List.map_drop]
end K

namespace G
open PySem PySem.Spec PyProof.Rows L2
structure Shp (n : Nat) (d : PyData) : Prop where
  lay : PyData.canLay0 d = true
  dep : PyData.depth d ≤ n
theorem shp_all {n : Nat} : ∀ {ds : List PyData}, (∀ d ∈ ds, Shp n d) → PyData.canLayAll0 ds = true ∧ PyData.depthAll ds ≤ n
  | [], _ => ⟨by simp [PyData.canLayAll0], by simp [PyData.depthAll]⟩
  | d :: ds, h => by
    have h1 := h d (List.mem_cons_self ..)
    have h2 := shp_all fun e he => h e (List.mem_cons_of_mem _ he)
    refine ⟨by simp [PyData.canLayAll0, h1.lay, h2.1], ?_⟩
    simp only [PyData.depthAll]
    have := h1.dep
    have := h2.2
    omega
theorem shp_tup {n : Nat} {ds : List PyData} (h : ∀ d ∈ ds, Shp n d) : Shp (n + 1) (.tuple ds) := by
  have := shp_all h
  exact ⟨by simp only [PyData.canLay0]; exact this.1, by simp only [PyData.depth]; omega⟩
theorem shp_lst {n : Nat} {ds : List PyData} (h : ∀ d ∈ ds, Shp n d) : Shp (n + 1) (.list ds) := by
  have := shp_all h
  exact ⟨by simp only [PyData.canLay0]; exact this.1, by simp only [PyData.depth]; omega⟩
theorem shp_int {n : Nat} (i : Int) : Shp (n + 1) (.int i) := ⟨by simp [PyData.canLay0], by simp [PyData.depth]⟩
theorem shp_bl {n : Nat} (i : Bool) : Shp (n + 1) (.bool i) := ⟨by simp [PyData.canLay0], by simp [PyData.depth]⟩
theorem shp_non {n : Nat} : Shp (n + 1) .none := ⟨by simp [PyData.canLay0], by simp [PyData.depth]⟩
theorem shp_str {n : Nat} {s : Str} (h : PyData.strOk s = true) : Shp (n + 1) (.str s) := ⟨by simp only [PyData.canLay0]; exact h, by simp [PyData.depth]⟩
theorem Shp.ok {n : Nat} {d : PyData} (h : Shp n d) (hn : n ≤ 64 := by decide) : SeqAt.shaped d = true := by
  show (PyData.canLay0 d && decide (PyData.depth d ≤ 64)) = true
  rw [h.lay, Bool.true_and]
  exact decide_eq_true (Nat.le_trans h.dep hn)
section
variable {c : Cd} {σ : L2.St} {H : Hp} {Q : VK} {pos : Pos} {x y : V}
/-- xs == [] -/
theorem ro_eqNil {p q0 : Addr} {xs : List V} {ds : List PyData} {n : Nat} (h1 : H p = some (.lst xs)) (hd : DtAll c.K H xs ds) (hs : ∀ d ∈ ds, Shp n d) (hn : n + 1 ≤ 64) (h2 : H q0 = some (.lst [])) (q : Q (.bl ds.isEmpty) H) : RQ c .Eq (.ref p) (.ref q0) H Q := by
  refine ro_eqD (.lst (SqL.of h1) hd.dp) (.lst (SqL.of h2) .nil) ((shp_lst hs).ok hn) (by decide) ?_
  cases ds with
  | nil => exact q
  | cons d ds => exact q
theorem ro_neNil {p q0 : Addr} {xs : List V} {ds : List PyData} {n : Nat} (h1 : H p = some (.lst xs)) (hd : DtAll c.K H xs ds) (hs : ∀ d ∈ ds, Shp n d) (hn : n + 1 ≤ 64) (h2 : H q0 = some (.lst [])) (q : Q (.bl (!ds.isEmpty)) H) : RQ c .NotEq (.ref p) (.ref q0) H Q := by
  refine ro_neD (.lst (SqL.of h1) hd.dp) (.lst (SqL.of h2) .nil) ((shp_lst hs).ok hn) (by decide) ?_
  cases ds with
  | nil => exact q
  | cons d ds => exact q
end
end G
namespace K
open PySem L2 G
variable {M : Md}
def bins : List Str := ["+", "-", "*", "least", "most", "=", "<", "<=", "and", "or"]
def uns : List Str := ["not", "neg"]
def kks : List Str := ["div", "mod"]
theorem leafInt (w : Int) (h : w ∈ ([0, 1, 2, -1, 3, -2, 7, 1] : List Int)) : -1000000 ≤ w ∧ w ≤ 1000000 := by
  have : ∀ w ∈ ([0, 1, 2, -1, 3, -2, 7, 1] : List Int), -1000000 ≤ w ∧ w ≤ 1000000 := by decide
  exact this w h
end K

namespace K
open PySem L2 G
variable {M : Md}
theorem inS (w : Str) (l : List Str) : inV (.str w) (l.map .str) = decide (w ∈ l) := by
  unfold inV
  rw [Bool.eq_iff_iff, List.any_eq_true, decide_eq_true_iff]
  constructor
  · rintro ⟨y, hy, h⟩
    obtain ⟨z, hz, rfl⟩ := List.mem_map.mp hy
    have : z = w := by simpa [eqV] using h
    rw [← this]; exact hz
  · intro h
    exact ⟨.str w, List.mem_map.mpr ⟨w, h, rfl⟩, by simp [eqV]⟩
theorem flatS (l : List Str) : (l.map V.str).all flatV = true := by simp [flatV]
theorem dtStrs_eq {K : PySem.W.Frag} {H : Hp} : ∀ {ws : List Str} {xs : List V}, DtAll K H xs (ws.map .str) → xs = ws.map .str
  | [], _, h => by cases h; rfl
  | w :: ws, _, h => by
    cases h with
    | cons h1 h2 =>
      cases h1
      rw [dtStrs_eq h2, List.map_cons]
theorem ro_inST {c : Cd} {H : Hp} {Q : VK} {y : V} {w : Str} {ws : List Str} (hx : Dt c.K H y (.tuple (ws.map .str))) (q : Q (.bl (decide (w ∈ ws))) H) : RQ c .In (.str w) y H Q := by
  obtain ⟨a, xs, rfl, ht, hd⟩ := hx.tupE
  obtain rfl := dtStrs_eq hd
  refine rq_of (r := rIn c.K false) (fun X h => by rw [← h.K]; exact op_in_seq) ⟨a, _, rfl, .inr ht, rfl, flatS ws, ?_⟩
  show Q (.bl (inV (.str w) (ws.map .str))) H
  rw [inS]
  exact q
end K

namespace K
open PySem PySem.Spec PyProof.Rows L2 G
/-! ### repr of data: its size -/
structure Shw (m n : Nat) (d : PyData) : Prop where
  ok : d.showable = true
  len : d.shown.length ≤ n
  dep : d.depth ≤ m
  nod : d.hasDict = false
theorem Shw.up {m n m' n' : Nat} {d : PyData} (h : Shw m n d) (h1 : m ≤ m') (h2 : n ≤ n') : Shw m' n' d := ⟨h.ok, Nat.le_trans h.len h2, Nat.le_trans h.dep h1, h.nod⟩
theorem sw_none : Shw 0 13 .none := ⟨by simp only [PyData.showable], by simp only [PyData.shown]; decide, by simp only [PyData.depth]; exact Nat.le_refl _, by simp only [PyData.hasDict]⟩
theorem sw_bool (b : Bool) : Shw 0 13 (.bool b) := by
  refine ⟨by simp only [PyData.showable], ?_, by simp only [PyData.depth]; exact Nat.le_refl _, by simp only [PyData.hasDict]⟩
  simp only [PyData.shown]
  cases b <;> decide
theorem sw_int {i : Int} (h : i.natAbs < 10 ^ 12) : Shw 0 13 (.int i) := by
  refine ⟨?_, PyData.shown_int_le h, by simp only [PyData.depth]; exact Nat.le_refl _, by simp only [PyData.hasDict]⟩
  simp only [PyData.showable, decide_eq_true_eq]
  have h2 : i.natAbs.log2 < 40 := PySem.Flt.log2_lt_of (by decide) (Nat.lt_of_lt_of_le h (by decide))
  omega
theorem sw_str {x : Str} {n : Nat} (h : (reprText x).length ≤ n) : Shw 0 n (.str x) := ⟨by simp only [PyData.showable], by simp only [PyData.shown]; exact h, by simp only [PyData.depth]; exact Nat.le_refl _, by simp only [PyData.hasDict]⟩
theorem sw_all {m n : Nat} : ∀ {ds : List PyData}, (∀ d ∈ ds, Shw m n d) → PyData.showableAll ds = true ∧ ((PyData.shownAll ds).map (·.length)).sum ≤ ds.length * n ∧ PyData.depthAll ds ≤ m ∧ PyData.hasDictAll ds = false
  | [], _ => ⟨by simp only [PyData.showableAll], by simp only [PyData.shownAll]; exact Nat.zero_le _, by simp only [PyData.depthAll]; exact Nat.zero_le _, by simp only [PyData.hasDictAll]⟩
  | d :: ds, h => by
    have h1 := h d (List.mem_cons_self ..)
    obtain ⟨a1, a2, a3, a4⟩ := sw_all fun e he => h e (List.mem_cons_of_mem _ he)
    refine ⟨by simp only [PyData.showableAll, h1.ok, a1, Bool.and_self], ?_, ?_, by simp only [PyData.hasDictAll, h1.nod, a4, Bool.or_self]⟩
    · have := h1.len
      simp only [PyData.shownAll, List.map_cons, List.sum_cons, List.length_cons, Nat.succ_mul]
      omega
    · simp only [PyData.depthAll]
      exact Nat.max_le.mpr ⟨h1.dep, a3⟩
theorem sw_tup {m n k : Nat} {ds : List PyData} (h : ∀ d ∈ ds, Shw m n d) (hk : ds.length ≤ k) : Shw (m + 1) (k * (n + 2) + 3) (.tuple ds) := by
  obtain ⟨a1, a2, a3, a4⟩ := sw_all h
  refine ⟨by simp only [PyData.showable, a1], ?_, by simp only [PyData.depth]; omega, by simp only [PyData.hasDict, a4]⟩
  simp only [PyData.shown]
  refine Nat.le_trans (tupleText_len_le _) ?_
  have e : (PyData.shownAll ds).length = ds.length := PyData.shownAll_length ds
  have e2 : ds.length * (n + 2) ≤ k * (n + 2) := Nat.mul_le_mul_right _ hk
  rw [e]
  rw [Nat.mul_add] at e2
  omega
theorem sw_lst {m n k : Nat} {ds : List PyData} (h : ∀ d ∈ ds, Shw m n d) (hk : ds.length ≤ k) : Shw (m + 1) (k * (n + 2) + 3) (.list ds) := by
  obtain ⟨a1, a2, a3, a4⟩ := sw_all h
  refine ⟨by simp only [PyData.showable, a1], ?_, by simp only [PyData.depth]; omega, by simp only [PyData.hasDict, a4]⟩
  simp only [PyData.shown]
  refine Nat.le_trans (listText_len_le _) ?_
  have e : (PyData.shownAll ds).length = ds.length := PyData.shownAll_length ds
  have e2 : ds.length * (n + 2) ≤ k * (n + 2) := Nat.mul_le_mul_right _ hk
  rw [e]
  rw [Nat.mul_add] at e2
  omega
/-! ### repr(v) of a tuple or list of data -/
def rRepr (K : PySem.W.Frag) : List V → Hp → VK → Prop := fun vs H Q => ∃ a d, vs = [.ref a] ∧ Dp K H (.ref a) d ∧ Shw 60 1000000 d ∧ Q (.str d.shown) H
theorem cr_repr {X : Cx} (quiet : X.A.guards = some []) (hu : X.A.units + 64 < cLine) : CallR X (.builtin "repr") (rRepr X.K) := by
  intro pins st σ H vs us Q J rv z
  obtain ⟨a, d, rfl, hd, sw, k⟩ := z
  obtain rfl := Vals.ref1 rv
  obtain ⟨as, rd⟩ := Dp.reads J d (.ref a) (.ref a) hd rfl
  have h1 := sw.dep
  have h2 := sw.len
  refine repr_of_reads' rd sw.ok (fun h => by rw [sw.nod] at h; cases h) quiet (by omega) (fun _ _ e => e) (fun h' u tk keep => ?_) (by rw [sizeLine_eq]; omega)
  exact ⟨.str d.shown, H, J.kept (t' := tk) keep, ⟨u, rfl⟩, k⟩
theorem rc_repr {c : Cd} {H : Hp} {Q : VK} {a : Addr} {d : PyData} (hd : Dp c.K H (.ref a) d) (sw : Shw 60 1000000 d) (q : Q (.str d.shown) H) (hq : c.g = true := by rfl) : RC c (.builtin "repr") [.ref a] H Q :=
  rc_of (r := rRepr c.K) (fun X h => by rw [← h.K]; exact cr_repr (h.gd hq) h.room.units) ⟨a, d, rfl, hd, sw, q⟩
end K

namespace K
open PySem PySem.Spec PyProof.Rows L2 G
/-! ### data whose text and depth are bounded -/
mutual
def wt : PyData → Nat
  | .none => 13
  | .bool _ => 13
  | .int i => i.natAbs.log2 + 13
  | .str s => 10 * s.length + 13
  | .list ds => wts ds + 13
  | .tuple ds => wts ds + 13
  | .dict _ => 0
def wts : List PyData → Nat
  | [] => 0
  | d :: ds => wt d + 4 + wts ds
end
mutual
def gd (L : Nat) : PyData → Bool
  | .none => true
  | .bool _ => true
  | .int i => decide (i.natAbs.log2 < L)
  | .str s => PyData.strOk s
  | .list ds => gds L ds
  | .tuple ds => gds L ds
  | .dict _ => false
def gds (L : Nat) : List PyData → Bool
  | [] => true
  | d :: ds => gd L d && gds L ds
end
theorem wts_app : ∀ ds es : List PyData, wts (ds ++ es) = wts ds + wts es
  | [], es => by simp [wts]
  | d :: ds, es => by simp only [List.cons_append, wts, wts_app ds es]; omega
theorem gds_all {L : Nat} {ds : List PyData} : gds L ds = true ↔ ∀ d ∈ ds, gd L d = true := by
  induction ds with
  | nil => simp [gds]
  | cons d ds ih => simp [gds, ih]
theorem wts_mem : ∀ {ds : List PyData} {d : PyData}, d ∈ ds → wt d + 4 ≤ wts ds
  | e :: ds, d, h => by
    simp only [wts]
    rcases List.mem_cons.mp h with h | h
    · subst h; omega
    · have := wts_mem h; omega
theorem wts_len : ∀ ds : List PyData, 4 * ds.length ≤ wts ds
  | [] => by simp [wts]
  | d :: ds => by have := wts_len ds; simp only [wts, List.length_cons]; omega
theorem int_len {i : Int} (h : i.natAbs.log2 < 1900) : (PyData.shown (.int i)).length ≤ i.natAbs.log2 + 13 := by
  simp only [PyData.shown]
  have h1 := int_text_length_le (a := i) (k := i.natAbs.log2 + 1) (Nat.succ_pos _) (Nat.lt_succ_self _)
  show (Str.ofString (toString i)).length ≤ _
  rw [PySem.ofString_length]
  omega
theorem strOk_small {s : Str} (h : PyData.strOk s = true) : ∀ c ∈ s.cps.toList, c < 16 ^ 8 := by
  intro c hc
  have h1 : s.cps.all (· < 0x110000) = true := h
  rw [← Array.all_toList, List.all_eq_true] at h1
  have := of_decide_eq_true (h1 c hc)
  omega
mutual
theorem shown_wt {L : Nat} (hL : L ≤ 1900) : ∀ d : PyData, gd L d = true → d.shown.length ≤ wt d ∧ d.showable = true ∧ d.hasDict = false ∧ d.canLay0 = true
  | .none, _ => by simp only [PyData.shown, PyData.showable, PyData.hasDict, PyData.canLay0, wt]; decide
  | .bool b, _ => by simp only [PyData.shown, PyData.showable, PyData.hasDict, PyData.canLay0, wt]; cases b <;> decide
  | .int i, h => by
    have h1 : i.natAbs.log2 < L := by simpa [gd] using h
    refine ⟨by rw [wt]; exact int_len (by omega), ?_, by simp only [PyData.hasDict], by simp only [PyData.canLay0]⟩
    simp only [PyData.showable, decide_eq_true_eq]
    omega
  | .str s, h => by
    have h1 : PyData.strOk s = true := by simpa [gd] using h
    refine ⟨?_, by simp only [PyData.showable], by simp only [PyData.hasDict], by simp only [PyData.canLay0]; exact h1⟩
    simp only [PyData.shown, wt]
    have := StrLaws.reprText_len s (strOk_small h1)
    omega
  | .list ds, h => by
    have h1 : gds L ds = true := by simpa [gd] using h
    obtain ⟨a1, a2, a3, a4, a5⟩ := shown_wts hL ds h1
    refine ⟨?_, by simp only [PyData.showable]; exact a2, by simp only [PyData.hasDict]; exact a3, by simp only [PyData.canLay0]; exact a4⟩
    simp only [PyData.shown, wt]
    have := listText_len_le (PyData.shownAll ds)
    rw [a5] at this
    omega
  | .tuple ds, h => by
    have h1 : gds L ds = true := by simpa [gd] using h
    obtain ⟨a1, a2, a3, a4, a5⟩ := shown_wts hL ds h1
    refine ⟨?_, by simp only [PyData.showable]; exact a2, by simp only [PyData.hasDict]; exact a3, by simp only [PyData.canLay0]; exact a4⟩
    simp only [PyData.shown, wt]
    have := tupleText_len_le (PyData.shownAll ds)
    rw [a5] at this
    omega
  | .dict _, h => by simp [gd] at h
theorem shown_wts {L : Nat} (hL : L ≤ 1900) : ∀ ds : List PyData, gds L ds = true → ((PyData.shownAll ds).map (·.length)).sum + 4 * ds.length ≤ wts ds ∧ PyData.showableAll ds = true ∧ PyData.hasDictAll ds = false ∧ PyData.canLayAll0 ds = true ∧ (PyData.shownAll ds).length = ds.length
  | [], _ => by simp only [PyData.shownAll, PyData.showableAll, PyData.hasDictAll, PyData.canLayAll0, wts]; simp
  | d :: ds, h => by
    have h1 : gd L d = true ∧ gds L ds = true := by simpa [gds] using h
    obtain ⟨b1, b2, b3, b4⟩ := shown_wt hL d h1.1
    obtain ⟨a1, a2, a3, a4, a5⟩ := shown_wts hL ds h1.2
    simp only [PyData.shownAll, PyData.showableAll, PyData.hasDictAll, PyData.canLayAll0, wts, b2, b3, b4, a2, a3, a4, a5, List.map_cons, List.sum_cons, List.length_cons, Bool.and_self, Bool.or_self, and_true]
    omega
end
structure GdL (L m n : Nat) (d : PyData) : Prop where
  g : gd L d = true
  dep : d.depth ≤ m
  wt : wt d ≤ n
theorem GdL.up {L m n m' n' : Nat} {d : PyData} (h : GdL L m n d) (h1 : m ≤ m') (h2 : n ≤ n') : GdL L m' n' d := ⟨h.g, Nat.le_trans h.dep h1, Nat.le_trans h.wt h2⟩
theorem GdL.shw {L m n : Nat} {d : PyData} (h : GdL L m n d) (hL : L ≤ 1900) (hm : m ≤ 60) (hn : n ≤ 1000000) : Shw 60 1000000 d := by
  obtain ⟨a1, a2, a3, _⟩ := shown_wt hL d h.g
  exact ⟨a2, Nat.le_trans a1 (Nat.le_trans h.wt hn), Nat.le_trans h.dep hm, a3⟩
theorem GdL.shp {L m n : Nat} {d : PyData} (h : GdL L m n d) (hL : L ≤ 1900 := by exact Nat.le_of_ble_eq_true rfl) : Shp m d := ⟨(shown_wt hL d h.g).2.2.2, h.dep⟩
theorem GdL.shaped {L m n : Nat} {d : PyData} (h : GdL L m n d) (hm : m ≤ 60) (hL : L ≤ 1900 := by exact Nat.le_of_ble_eq_true rfl) : SeqAt.shaped d = true := (h.shp hL).ok (by omega)
theorem depthAll_le {m : Nat} {ds : List PyData} : PyData.depthAll ds ≤ m ↔ ∀ d ∈ ds, d.depth ≤ m := by
  induction ds with
  | nil => simp [PyData.depthAll]
  | cons d ds ih => simp only [PyData.depthAll, List.mem_cons, forall_eq_or_imp, ← ih]; omega
theorem gd_tup {L m n : Nat} {ds : List PyData} : GdL L (m + 1) (n + 13) (.tuple ds) ↔ (∀ d ∈ ds, gd L d = true) ∧ (∀ d ∈ ds, d.depth ≤ m) ∧ wts ds ≤ n := by
  rw [← gds_all, ← depthAll_le]
  constructor
  · rintro ⟨h1, h2, h3⟩
    simp only [gd, PyData.depth, wt] at h1 h2 h3
    exact ⟨h1, by omega, by omega⟩
  · rintro ⟨h1, h2, h3⟩
    exact ⟨by simpa only [gd] using h1, by simp only [PyData.depth]; omega, by simp only [wt]; omega⟩
abbrev Gd (m n : Nat) (d : PyData) : Prop := GdL 1000 m n d
theorem gd_mono {L L' : Nat} (hL : L ≤ L') : ∀ d : PyData, gd L d = true → gd L' d = true
  | .none, _ => by simp only [gd]
  | .bool _, _ => by simp only [gd]
  | .int i, h => by simp only [gd, decide_eq_true_eq] at h ⊢; omega
  | .str s, h => by simpa only [gd] using h
  | .list ds, h => by
    simp only [gd] at h ⊢
    exact gds_all.mpr fun d hd => gd_mono hL d (gds_all.mp h d hd)
  | .tuple ds, h => by
    simp only [gd] at h ⊢
    exact gds_all.mpr fun d hd => gd_mono hL d (gds_all.mp h d hd)
  | .dict _, h => by simp [gd] at h
theorem GdL.lup {L L' m n : Nat} {d : PyData} (h : GdL L m n d) (hL : L ≤ L') : GdL L' m n d := ⟨gd_mono hL d h.g, h.dep, h.wt⟩
end K

namespace K
open PySem PySem.Spec PyProof.Rows L2 G
variable {M : Md}
/-! ### kinds of data -/
def tyN : PyData → String
  | .none => "NoneType" | .bool _ => "bool" | .int _ => "int" | .str _ => "str" | .list _ => "list" | .tuple _ => "tuple" | .dict _ => "dict"
def isTup : PyData → Bool
  | .tuple _ => true | _ => false
def isStr : PyData → Bool
  | .str _ => true | _ => false
def isBool : PyData → Bool
  | .bool _ => true | _ => false
def isIntB : PyData → Bool
  | .int _ => true | .bool _ => true | _ => false
theorem dt_ty {K : PySem.W.Frag} {H : Hp} {v : V} {d : PyData} (h : Dt K H v d) : TyX K H v (.type (tyN d)) := by
  cases h with
  | non => exact .base .non
  | bl b => exact .base (.bl b)
  | int i => exact .base (.int i)
  | str s => exact .base (.str s)
  | tup h1 _ => exact ty_tup h1
  | lst h1 _ => exact .base (.frz h1)
theorem dt_nodict {K : PySem.W.Frag} {H : Hp} {v : V} {k : List (PyData × PyData)} (h : Dt K H v (.dict k)) : False := by cases h
section
variable {c : Cd} {H : Hp} {Q : VK} {v : V} {d : PyData}
theorem rc_isTup (h : Dt c.K H v d) (q : Q (.bl (isTup d)) H) : RC c (.builtin "isinstance") [v, .ty "tuple"] H Q := by
  have t := dt_ty h
  cases d with
  | dict => exact (dt_nodict h).elim
  | _ => exact rc_isi t rfl q
theorem rc_isStr (h : Dt c.K H v d) (q : Q (.bl (isStr d)) H) : RC c (.builtin "isinstance") [v, .ty "str"] H Q := by
  have t := dt_ty h
  cases d with
  | dict => exact (dt_nodict h).elim
  | _ => exact rc_isi t rfl q
theorem rc_isBool (h : Dt c.K H v d) (q : Q (.bl (isBool d)) H) : RC c (.builtin "isinstance") [v, .ty "bool"] H Q := by
  have t := dt_ty h
  cases d with
  | dict => exact (dt_nodict h).elim
  | _ => exact rc_isi t rfl q
theorem rc_isInt (h : Dt c.K H v d) (q : Q (.bl (isIntB d)) H) : RC c (.builtin "isinstance") [v, .ty "int"] H Q := by
  have t := dt_ty h
  cases d with
  | dict => exact (dt_nodict h).elim
  | _ => exact rc_isi t rfl q
end
structure Bl2 (M : Md) : Prop where
  all : M.mg "all" = none
  repr : M.mg "repr" = none
  zip : M.mg "zip" = none
def letters : Str := "abcdefghijklmnopqrstuvwxyz"
def ops : List Str := ["+", "-", "*", "least", "most", "=", "<", "<=", "div", "mod"]
/-- the module's values -/
structure Gl46 (M : Md) : Prop where
  lt : ∃ u, M.mg "LETTERS" = some u ∧ RelV (.str letters) u
  ln : ∃ u, M.mg "LONGEST_NAME" = some u ∧ RelV (.int 8) u
  sl : ∃ u, M.mg "SLOTS" = some u ∧ RelV (.int 32) u
  op : ∃ a, M.mg "OPERATORS" = some (.ref a) ∧ ∀ H, SqT M.K H a (ops.map V.str)
def isInt : PyData → Bool
  | .int _ => true | _ => false
def isNum : PyData → Bool
  | .int i => decide (0 ≤ i) | _ => false
def isSlot : PyData → Bool
  | .int i => decide (0 ≤ i) && decide (i < 32) | _ => false
def nameS (s : Str) : Bool := decide (1 ≤ s.length) && (decide (s.length ≤ 8) && s.cps.toList.all fun ch => decide (ch ∈ letters.cps.toList))
def isName : PyData → Bool
  | .str s => nameS s | _ => false
def isPlace : PyData → Bool
  | .tuple [a, b] => isName a && isNum b
  | .tuple _ => false
  | d => isName d
def isOp : PyData → Bool
  | .str s => decide (s ∈ ops) | _ => false
abbrev GdX (x : PyData) : Prop := GdL 1100 50 500000 x
def rB (p : PyData → Bool) : List PyData → PyData → Prop := fun ds d => ∃ x, ds = [x] ∧ GdX x ∧ d = .bool (p x)
abbrev dcB (M : Md) (nm : Str) (a : Str) (k : Nat) (p : PyData → Bool) : Prop := Dc M nm [a] k (spF (rB p) M.K)
theorem rB_len {p : PyData → Bool} {K : PySem.W.Frag} : ∀ vs H Q E, spF (rB p) K vs H Q E → vs.length = 1 := by
  rintro vs H Q E ⟨ds, d, h, ⟨x, rfl, _⟩, _⟩
  exact h.len
theorem ok_isint {f fd} (F : Fun M.K "is_integer" "is_integer" s_is_integer f fd) (b : Bl M) : FnG M.prog M.w M.K M.mg M.base CX0 1 f fd ["thing"] (spF (rB isInt) M.K) := by
  refine fn_ok F sc_is_integer rB_len (fun H vs Q E h => ?_)
  obtain ⟨ds, d, h, ⟨x, rfl, gx, rfl⟩, k⟩ := h
  obtain _ | ⟨hx, h⟩ := h
  cases h
  tm_at "go"
  refine rc_isInt hx ?_
  refine ⟨_, rfl, ifb (fun e => ?_) (fun e => ?_)⟩
  · tm_at "go"
    refine rc_isBool hx ?_
    refine ⟨_, rfl, ?_⟩
    have e2 : (!isBool x) = isInt x := by cases x <;> first | rfl | cases e
    rw [e2]
    exact k _ _ (Same.refl _) (.bl _)
  · have e2 : false = isInt x := by cases x <;> first | rfl | cases e
    have := k (.bl (isInt x)) H (Same.refl _) (.bl _)
    rw [← e2] at this
    exact this
theorem isNum_int {x : PyData} : isNum x = true → ∃ i : Int, x = .int i ∧ 0 ≤ i := by
  intro h
  cases x <;> first | cases h | skip
  exact ⟨_, rfl, of_decide_eq_true h⟩
theorem ok_isnum {f fd} (F : Fun M.K "is_number" "is_number" s_is_number f fd) (b : Bl M) (di : dcB M "is_integer" "thing" 1 isInt) : FnG M.prog M.w M.K M.mg M.base CX0 2 f fd ["thing"] (spF (rB isNum) M.K) := by
  refine fn_ok F sc_is_number rB_len (fun H vs Q E h => ?_)
  obtain ⟨ds, d, h, ⟨x, rfl, gx, rfl⟩, k⟩ := h
  obtain _ | ⟨hx, h⟩ := h
  cases h
  tm_at "go"
  refine e_callF di ?_
  tm_at "go"
  refine ⟨_, _, .cons hx .nil, ⟨x, rfl, gx, rfl⟩, fun v H1 s1 hv => ?_⟩
  cases hv
  refine ⟨_, rfl, ifb (fun e => ?_) (fun e => ?_)⟩
  · cases x with
    | int i =>
      cases hx
      tm_at "go"
      exact k _ _ s1 (.bl _)
    | _ => cases e
  · have e2 : false = isNum x := by cases x <;> first | rfl | cases e
    have := k (.bl (isNum x)) H1 s1 (.bl _)
    rw [← e2] at this
    exact this
/-- the signs of a text, each looked at -/
theorem all_sz {z : Str} {p : Nat → Bool} {bs : List Bool} (h : bs = z.cps.toList.map p) : bs.all id = z.cps.toList.all p := by
  subst h
  rw [List.all_map]
  rfl
section
variable {c : Cd} {σ : L2.St} {H : Hp} {Q : VK} {pos : Pos} {elt tg iter : Expr} {ifs : List Expr} {scope : Scope} {vs : List Nat}
theorem sgn_step {g : Nat → Option PyData} {l : List Nat} {i : Nat} {ch : Nat} (h : l[i]? = some ch) : (l.take i).filterMap g ++ (g ch).toList = (l.take (i + 1)).filterMap g := by
  obtain ⟨h1, rfl⟩ := List.getElem?_eq_some_iff.mp h
  rw [List.take_succ_eq_append_getElem h1, List.filterMap_append]
  congr 1
/-- a comprehension over the signs of a text that changes nothing -/
theorem lcS_F (g : Nat → Option PyData) (q : RE c iter σ H fun x H1 => ∃ z : Str, x = .str z ∧ z.cps.size ≤ 1000 ∧ (∀ ch H', Same H1 H' → TurnF (blkCd c scope) tg ifs elt vs σ c.K (.str ⟨#[ch]⟩) H' (g ch)) ∧
      ∀ p us H3, Same H1 H3 → H1 p = none → H3 p = some (.lst us) → DtAll c.K H3 us (z.cps.toList.filterMap g) → Q (.ref p) H3) :
    tLc (RI c tg iter) (RG (blkCd c scope) tg) (RTs (blkCd c scope) ifs) (RE (blkCd c scope) elt) vs σ H Q := by
  refine ri_of (t := iStr (RE c iter)) (fun X h => pi_str (pe_re h)) (RE.mono (fun x H1 z => ?_) q)
  obtain ⟨z, rfl, hl, tn, k⟩ := z
  refine ⟨z, rfl, fun D hD => ?_⟩
  have hsz : z.cps.toList.length = z.cps.size := Array.length_toList
  refine ⟨fun i m H' => m = z.cps.size - i ∧ i ≤ z.cps.size ∧ ∃ acc, acc.length ≤ i ∧ H' D = some (.lst acc) ∧ Same H1 H' ∧ DtAll c.K H' acc ((z.cps.toList.take i).filterMap g), ⟨z.cps.size, by simp, Nat.zero_le _, [], Nat.le_refl _, upd_same, same_new hD, .nil⟩, ?_⟩
  rintro i m H' ⟨rfl, hi, acc, la, hA, s, hd⟩
  by_cases hlt : i < z.cps.size
  · refine .inr ⟨hlt, fun H' => ∃ acc, acc.length ≤ i + 1 ∧ H' D = some (.lst acc) ∧ Same H1 H' ∧ DtAll c.K H' acc ((z.cps.toList.take (i + 1)).filterMap g), fun H' p' => ⟨z.cps.size - (i + 1), by omega, rfl, hlt, p'⟩, fun x H2 yy => ?_⟩
    obtain ⟨e, ch, hc, rfl⟩ := yy
    subst e
    have hc' : z.cps.toList[i]? = some ch := by rw [Array.getElem?_toList]; exact hc
    have T := TurnF.one hD s hA hd (tn ch _ s)
    refine RG.mono (fun σ2 H2 z => ?_) T
    refine ⟨z.1, RTs.mono (fun b H3 z => ?_) z.2⟩
    cases b with
    | true => exact RE.mono (fun y H4 z => ⟨acc, z.1, Nat.lt_of_le_of_lt la (Nat.lt_of_lt_of_le hlt (Nat.le_trans hl (by decide))), acc ++ [y], by rw [List.length_append, List.length_singleton]; omega, z.2.1, z.2.2.1, by rw [← sgn_step hc']; exact z.2.2.2⟩) z
    | false => exact ⟨acc, by omega, z.1, z.2.1, by rw [← sgn_step hc']; exact z.2.2⟩
  · have e : i = z.cps.size := by omega
    subst e
    refine .inl ⟨Nat.le_refl _, k D acc H' s hD hA ?_⟩
    rw [List.take_of_length_le (by omega)] at hd
    exact hd
theorem rc_lenS {z : Str} (h : z.length ≤ 1000000) (q : Q (.int z.length) H) : RC c (.builtin "len") [.str z] H Q :=
  rc_of (fun X h => call_len_str) ⟨z, rfl, Nat.le_trans h (by decide), q⟩
theorem rc_all {p : Addr} {bs : List Bool} (h : SqL c.K H p (bs.map V.bl)) (q : Q (.bl (bs.all id)) H) : RC c (.builtin "all") [.ref p] H Q :=
  rc_of (r := rAll c.K) (fun X h => by rw [← h.K]; exact cr_all h.calm) ⟨p, bs, rfl, h, q⟩
end
theorem dtBools_eq {K : PySem.W.Frag} {H : Hp} : ∀ {bs : List Bool} {xs : List V}, DtAll K H xs (bs.map .bool) → xs = bs.map .bl
  | [], _, h => by cases h; rfl
  | b :: bs, _, h => by
    obtain _ | ⟨h1, h2⟩ := h
    cases h1
    rw [dtBools_eq h2]; rfl
theorem gdx_str {s : Str} (h : GdX (.str s)) : s.length ≤ 50000 := by
  have := h.wt
  simp only [wt] at this
  omega
theorem ok_isname {f fd} (F : Fun M.K "is_name" "is_name" s_is_name f fd) (b : Bl M) (b2 : Bl2 M) (g : Gl46 M) : FnG M.prog M.w M.K M.mg M.base CX0 1 f fd ["thing"] (spF (rB isName) M.K) := by
  refine fn_ok F sc_is_name rB_len (fun H vs Q E h => ?_)
  obtain ⟨ds, d, h, ⟨x, rfl, gx, rfl⟩, k⟩ := h
  obtain _ | ⟨hx, h⟩ := h
  cases h
  obtain ⟨uN, hN, rN⟩ := g.ln
  obtain ⟨uL, hL, rL⟩ := g.lt
  have no : isName x = false → Q (.bl false) H := fun e => by
    have := k (.bl (isName x)) H (Same.refl _) (.bl _)
    rwa [e] at this
  refine b_cut (fun σ1 H1 => H1 = H ∧ ∃ s, x = .str s ∧ 1 ≤ s.length ∧ s.length ≤ 8 ∧ σ1 = [some (.str s), none]) ?_ ?_
  · tm_at "go"
    refine t_val ?_
    tm_at "go"
    refine rc_isStr hx ?_
    refine ⟨_, rfl, ?_⟩
    cases hs : isStr x with
    | false =>
      tm_at "go"
      refine no ?_
      cases x <;> first | rfl | cases hs
    | true =>
      obtain ⟨s, rfl⟩ : ∃ s, x = .str s := by cases x <;> first | exact ⟨_, rfl⟩ | cases hs
      cases hx
      have ls := gdx_str gx
      tm_at "go"
      refine rc_lenS (by omega) ?_
      tm_at "go"
      refine ifd (fun c1 => ?_) (fun c1 => ?_)
      · refine e_glob hN rN ?_
        tm_at "go"
        refine ifnd (fun c2 => ?_) (fun c2 => ?_)
        · tm_at "go"
          refine no ?_
          show nameS s = false
          unfold nameS
          rw [decide_eq_false (p := s.length ≤ 8) (by omega), Bool.false_and, Bool.and_false]
        · tm_at "go"
          exact ⟨rfl, s, rfl, by omega, by omega, rfl⟩
      · refine ⟨false, rfl, ift ?_⟩
        tm_at "go"
        refine no ?_
        show nameS s = false
        unfold nameS
        rw [decide_eq_false (p := 1 ≤ s.length) (by omega), Bool.false_and]
  · rintro _ _ ⟨rfl, s, rfl, l1, l8, rfl⟩
    tm_at "go"
    refine e_callB (id := "all") b2.all (by decide +kernel) ?_
    tm_at "go"
    refine e_lc (own := [("letter", 1)]) (Blk.of (N := N_is_name) (sc := defScope s_is_name) rfl rfl (by decide +kernel)) ?_
    refine lcS_F (fun ch => some (.bool (decide (ch ∈ letters.cps.toList)))) ?_
    tm_at "go"
    refine ⟨by show s.length ≤ 1000; omega, fun ch H' s1 => ?_, fun p us H3 s3 n3 g3 h3 => ?_⟩
    · refine g_name (by tm_at "at") ⟨rfl, rfl, ts_nil ⟨Same.refl _, ift ?_⟩⟩
      tm_at "go"
      refine e_glob hL rL ?_
      refine rq_of (fun X h => op_in_sign) ⟨ch, letters, rfl, rfl, ?_⟩
      exact ⟨Same.refl _, _, rfl, .bl _⟩
    · tm_at "go"
      have e : s.cps.toList.filterMap (fun ch => some (PyData.bool (decide (ch ∈ letters.cps.toList)))) = (s.cps.toList.map fun ch => decide (ch ∈ letters.cps.toList)).map .bool := by
        induction s.cps.toList with
        | nil => rfl
        | cons a l ih => rw [List.filterMap_cons, List.map_cons, List.map_cons, ← ih]
      rw [e] at h3
      obtain rfl := dtBools_eq h3
      refine rc_all (.of g3) ?_
      have := k (.bl (isName (.str s))) H3 s3 (.bl _)
      have e2 : isName (.str s) = (s.cps.toList.map fun ch => decide (ch ∈ letters.cps.toList)).all id := by
        rw [all_sz rfl]
        show nameS s = _
        unfold nameS
        rw [decide_eq_true l1, decide_eq_true l8, Bool.true_and, Bool.true_and]
      rw [e2] at this
      exact this
end K

namespace K
open PySem PySem.Spec PyProof.Rows L2 G
variable {M : Md}
theorem gdx_tup {ds : List PyData} (h : GdX (.tuple ds)) : ∀ d ∈ ds, GdX d := by
  intro d hd
  obtain ⟨g, p, w⟩ := h
  simp only [gd, PyData.depth, wt] at g p w
  have w1 := wts_mem hd
  exact ⟨gds_all.mp g d hd, by have := depthAll_le.mp (Nat.le_refl _) d hd; omega, by omega⟩
theorem gdx_len {ds : List PyData} (h : GdX (.tuple ds)) : ds.length ≤ 125000 := by
  have w := h.wt
  simp only [wt] at w
  have := wts_len ds
  omega
theorem kget {Q : VK} {H : Hp} {K : PySem.W.Frag} {p q : Bool} (k : ∀ (v : V) (H' : Hp), Same H H' → Dt K H' v (.bool p) → Q v H') {H' : Hp} (s : Same H H') (e : p = q) : Q (.bl q) H' := by
  subst e
  exact k _ _ s (.bl _)
theorem ok_isplace {f fd} (F : Fun M.K "_is_place" "_is_place" s__is_place f fd) (b : Bl M) (dn : dcB M "is_name" "thing" 1 isName) (du : dcB M "is_number" "thing" 2 isNum) : FnG M.prog M.w M.K M.mg M.base CX0 3 f fd ["thing"] (spF (rB isPlace) M.K) := by
  refine fn_ok F sc__is_place rB_len (fun H vs Q E h => ?_)
  obtain ⟨ds, d, h, ⟨x, rfl, gx, rfl⟩, k⟩ := h
  obtain _ | ⟨hx, h⟩ := h
  cases h
  tm_at "go"
  refine t_val ?_
  tm_at "go"
  refine rc_isTup hx ?_
  refine ⟨_, rfl, ifb (fun e => ?_) (fun e => ?_)⟩
  · obtain ⟨ds, rfl⟩ : ∃ s, x = .tuple s := by cases x <;> first | exact ⟨_, rfl⟩ | cases e
    tm_at "go"
    refine rc_lenT hx ?_
    tm_at "go"
    refine ifd (fun c1 => ?_) (fun c1 => ?_)
    · obtain ⟨y, z, rfl⟩ : ∃ y z, ds = [y, z] := by
        match ds, c1 with
        | [y, z], _ => exact ⟨y, z, rfl⟩
        | [], c => exact absurd c (show ¬ ((0 : Nat) : Int) = 2 by decide)
        | [_], c => exact absurd c (show ¬ ((1 : Nat) : Int) = 2 by decide)
        | _ :: _ :: _ :: _, c => exact absurd c (by simp; omega)
      have gy := gdx_tup gx y (by simp)
      have gz := gdx_tup gx z (by simp)
      tm_at "go"
      refine e_callF dn ?_
      tm_at "go"
      refine rx_tup hx (d := y) rfl fun v1 h1 => ?_
      tm_at "go"
      refine ⟨_, _, .cons h1 .nil, ⟨y, rfl, gy, rfl⟩, fun v2 H2 s2 h2 => ?_⟩
      cases h2
      refine ⟨_, rfl, ifb (fun e2 => ?_) (fun e2 => ?_)⟩
      · tm_at "go"
        refine e_callF du ?_
        tm_at "go"
        refine rx_tup (hx.mono (tp_same s2)) (d := z) rfl fun v3 h3 => ?_
        tm_at "go"
        refine ⟨_, _, .cons h3 .nil, ⟨z, rfl, gz, rfl⟩, fun v4 H4 s4 h4 => ?_⟩
        cases h4
        exact kget k (s2.trans s4) (by simp [isPlace, e2])
      · exact kget k s2 (by simp [isPlace, e2])
    · refine kget k (Same.refl _) ?_
      match ds, c1 with
      | [y, z], c => exact absurd rfl c
      | [], _ => rfl
      | [_], _ => rfl
      | _ :: _ :: _ :: _, _ => rfl
  · have e2 : isPlace x = isName x := by cases x <;> first | rfl | cases e
    tm_at "go"
    refine e_callF dn ?_
    tm_at "go"
    refine ⟨_, _, .cons hx .nil, ⟨x, rfl, gx, rfl⟩, fun v2 H2 s2 h2 => ?_⟩
    cases h2
    exact kget k s2 e2
def partK (kd : Str) (x : PyData) : Bool := if kd = "slot" then isSlot x else if kd = "integer" then isInt x else if kd = "index" then isNum x else if kd = "name" then isName x else if kd = "place" then isPlace x else isOp x
def rPart : List PyData → PyData → Prop := fun ds d => ∃ (kd : Str) (x : PyData), ds = [.str kd, x] ∧ GdX x ∧ d = .bool (partK kd x)
theorem inOps {s : Str} : inV (.str s) (ops.map V.str) = decide (s ∈ ops) := by
  generalize ops = l
  unfold inV
  induction l with
  | nil => rfl
  | cons a l ih =>
    rw [List.map_cons, List.any_cons, ih]
    have e : eqV (V.str a) (V.str s) = decide (s = a) := by
      simp only [eqV]
      exact decide_eq_decide.mpr ⟨fun h => h.symm, fun h => h.symm⟩
    rw [e]
    simp
theorem flatOps : (ops.map V.str).all flatV = true := by
  generalize ops = l
  induction l with
  | nil => rfl
  | cons a l ih => rw [List.map_cons, List.all_cons, ih]; rfl
set_option maxHeartbeats 1000000 in
theorem ok_ispart {f fd} (F : Fun M.K "_is_part" "_is_part" s__is_part f fd) (b : Bl M) (g : Gl46 M) (di : dcB M "is_integer" "thing" 1 isInt) (dn : dcB M "is_name" "thing" 1 isName) (du : dcB M "is_number" "thing" 2 isNum) (dp : dcB M "_is_place" "thing" 3 isPlace) :
    FnG M.prog M.w M.K M.mg M.base CX0 4 f fd ["kind", "part"] (spF rPart M.K) := by
  refine fn_ok F sc__is_part (fun vs H Q E h => ?_) (fun H vs Q E h => ?_)
  · obtain ⟨ds, d, h, ⟨kd, x, rfl, _⟩, _⟩ := h
    exact h.len
  obtain ⟨ds, d, h, ⟨kd, x, rfl, gx, rfl⟩, k⟩ := h
  obtain _ | ⟨hk, h⟩ := h
  obtain _ | ⟨hx, h⟩ := h
  cases h
  cases hk
  obtain ⟨uS, hS, rS⟩ := g.sl
  obtain ⟨aO, hO, sO⟩ := g.op
  tm_at "go"
  refine ifd (fun c1 => ?_) (fun c1 => ?_)
  · have e0 : partK kd x = isSlot x := by rw [partK, if_pos c1]
    rw [e0] at k
    tm_at "go"
    refine e_callF du ?_
    tm_at "go"
    refine ⟨_, _, .cons hx .nil, ⟨x, rfl, gx, rfl⟩, fun v2 H2 s2 h2 => ?_⟩
    cases h2
    refine ⟨_, rfl, ifb (fun e2 => ?_) (fun e2 => ?_)⟩
    · obtain ⟨i, rfl, hi⟩ := isNum_int e2
      cases hx
      tm_at "go"
      refine e_glob hS rS ?_
      tm_at "go"
      exact kget k s2 (by simp [isSlot, hi])
    · exact kget k s2 (by cases x <;> first | rfl | skip; have : ¬ (0 : Int) ≤ _ := of_decide_eq_false e2; simp [isSlot]; omega)
  tm_at "go"
  refine ifd (fun c2 => ?_) (fun c2 => ?_)
  · have e0 : partK kd x = isInt x := by rw [partK, if_neg c1, if_pos c2]
    rw [e0] at k
    tm_at "go"
    refine e_callF di ?_
    tm_at "go"
    exact ⟨_, _, .cons hx .nil, ⟨x, rfl, gx, rfl⟩, k⟩
  tm_at "go"
  refine ifd (fun c3 => ?_) (fun c3 => ?_)
  · have e0 : partK kd x = isNum x := by rw [partK, if_neg c1, if_neg c2, if_pos c3]
    rw [e0] at k
    tm_at "go"
    refine e_callF du ?_
    tm_at "go"
    exact ⟨_, _, .cons hx .nil, ⟨x, rfl, gx, rfl⟩, k⟩
  tm_at "go"
  refine ifd (fun c4 => ?_) (fun c4 => ?_)
  · have e0 : partK kd x = isName x := by rw [partK, if_neg c1, if_neg c2, if_neg c3, if_pos c4]
    rw [e0] at k
    tm_at "go"
    refine e_callF dn ?_
    tm_at "go"
    exact ⟨_, _, .cons hx .nil, ⟨x, rfl, gx, rfl⟩, k⟩
  tm_at "go"
  refine ifd (fun c5 => ?_) (fun c5 => ?_)
  · have e0 : partK kd x = isPlace x := by rw [partK, if_neg c1, if_neg c2, if_neg c3, if_neg c4, if_pos c5]
    rw [e0] at k
    tm_at "go"
    refine e_callF dp ?_
    tm_at "go"
    exact ⟨_, _, .cons hx .nil, ⟨x, rfl, gx, rfl⟩, k⟩
  have e0 : partK kd x = isOp x := by rw [partK, if_neg c1, if_neg c2, if_neg c3, if_neg c4, if_neg c5]
  rw [e0] at k
  tm_at "go"
  refine rc_isStr hx ?_
  refine ⟨_, rfl, ifb (fun e => ?_) (fun e => ?_)⟩
  · obtain ⟨s, rfl⟩ : ∃ s, x = .str s := by cases x <;> first | exact ⟨_, rfl⟩ | cases e
    cases hx
    tm_at "go"
    refine e_glob hO (v := .ref aO) rfl ?_
    refine rq_of (r := rIn M.K false) (fun X h => by rw [← h.K]; exact op_in_seq) ⟨aO, _, rfl, .inr (sO _), rfl, flatOps, ?_⟩
    refine kget k (Same.refl _) ?_
    exact inOps.symm
  · exact kget k (Same.refl _) (by cases x <;> first | rfl | cases e)
end K

namespace K
open PySem PySem.Spec PyProof.Rows L2 G
variable {M : Md}
section
variable {c : Cd} {σ : L2.St} {H : Hp} {Q : VK} {pos apos : Pos}
/-- d.get(e) of a dict of the module -/
theorem e_getK {d : Addr} {es : Array DictEntry} {n : Nat} (D : KDict c.K c.w d es n) {o e : Expr} (q : RE c o σ H fun x H1 => x = .ref d ∧ RE c e σ H1 fun y H2 => ∃ z r v0, y = .str z ∧ PySem.W.nsIn c.K d z = some r ∧ RelV v0 (r.getD Value.none) ∧ Q v0 H2)
    (h1 : ∀ env, attributeBase o "get" env (eval o env) = eval o env := by intro _; rfl)
    (h2 : ∀ env, ((backTo pos (starEach [e] env)).all (fun x => !x.1) && (backToKw pos (keywordEach [] env)).all (fun x => x.1.isSome) && decide (([e] : List Expr).length + ([] : List Keyword).length + (if ([] : List Keyword).isEmpty then 0 else 1) < 30)) = true := by intro _; rfl)
    (h3 : (apos.endLine == pos.line) = true := by rfl) (h4 : ∀ env, backTo pos (starEach [e] env) = [(false, eval e env)] := by intro _; rfl) : RE c (.Call (.Attribute o "get" apos) [e] [] pos) σ H Q := by
  refine re_of (t := fun σ H Q => RE c o σ H fun x H1 => x = .ref d ∧ RE c e σ H1 fun y H2 => ∃ z r v0, y = .str z ∧ PySem.W.nsIn c.K d z = some r ∧ RelV v0 (r.getD Value.none) ∧ Q v0 H2) (fun X h => ?_) q
  have D' : KDict X.K X.w d es n := by rw [h.K, h.w]; exact D
  refine ⟨fun pins s σ H Q I w => ?_⟩
  refine wpAny_Call_method (h1 _) (h2 _) h3 PySem.F.plainAttrs_dict PySem.F.slot_dict_get PySem.F.type_dict_get (thn ((pe_re h).run pins s σ H _ I w) fun uo so ho => ?_)
  obtain ⟨xo, Ho, Io, ro, rfl, wo⟩ := ho
  obtain rfl : uo = Value.ref d := ro
  refine ⟨kd_type D' Io, fun b eb => ?_, ?_⟩
  · cases eb
    exact ⟨_, Io.kIn _ _ D'.at_, rfl⟩
  rw [h4]
  refine Calls.callWith_builtin rfl (Calls.evalArgs_plain (Calls.spliced_cons (thn ((pe_re h).run pins so σ Ho _ Io wo) fun ue se he => Calls.spliced_nil ?_)))
  obtain ⟨ye, He, Ie, re, z, r, v0, rfl, hr, rv, qv⟩ := he
  obtain ⟨t, rfl⟩ := re
  have mp := PySem.W.mapOf_K (prog := X.prog) Ie.kIn D'.at_ D'.lit
  refine call_meetsIn PySem.F.slot_dict_get mp.typeIs PySem.F.entry_dict_get (PySem.F.args_dict_get_2 _ _) (meets_dict_get (PySem.strKind X.prog X.w) d (PySem.strKind_is X.prog X.w z t) D'.low) ⟨_, mp, ?_⟩
  have hf : findBy Value.isStrOf es z = r := PySem.W.find_K D'.at_ (by rw [h.K]; exact hr)
  refine ⟨v0, He, Ie.tok _, ?_, qv⟩
  rw [← hf] at rv
  exact rv
end
section
variable {c : Cd} {σ : L2.St} {H : Hp} {Q : VK} {pos : Pos} {elt : Expr} {ifs : List Expr} {scope : Scope} {vs : List Nat}
theorem zp_step {α β : Type} {g : α → Option β} {l : List α} {i : Nat} {a : α} (h : l[i]? = some a) : (l.take i).filterMap g ++ (g a).toList = (l.take (i + 1)).filterMap g := by
  obtain ⟨h1, rfl⟩ := List.getElem?_eq_some_iff.mp h
  rw [List.take_succ_eq_append_getElem h1, List.filterMap_append]
  congr 1
/-- a comprehension over zip of two tuples that changes nothing -/
theorem lcZ_F (g : PyData → PyData → Option PyData) {e e2 : Expr} {p ppos tpos : Pos} {elts : List Expr} {kk : Nat} (hm : c.mg "zip" = none) (q : RA c [e, e2] σ H fun us H1 => ∃ ds es x y, us = [x, y] ∧ Dt c.K H1 x (.tuple ds) ∧ Dt c.K H1 y (.tuple es) ∧ ds.length ≤ 1000 ∧
      (∀ d d' v H', (d, d') ∈ ds.zip es → Same H1 H' → Dt c.K H' v (.tuple [d, d']) → TurnF (blkCd c scope) (.Tuple elts kk tpos) ifs elt vs σ c.K v H' (g d d')) ∧
      ∀ p us H3, Same H1 H3 → H1 p = none → H3 p = some (.lst us) → DtAll c.K H3 us ((ds.zip es).filterMap fun p => g p.1 p.2) → Q (.ref p) H3)
    (hg : c.sc.names.lookup ("zip" : Str) = some .globalImplicit := by rfl) (hs : ∀ env, starEach [e, e2] env = (false, eval e env) :: starEach [e2] env := by intro _; rfl) (hpl : ∀ env, (backTo ppos (starEach [e2] env)).any (·.1) = false := by intro _; rfl) :
    tLc (RI c (.Tuple elts kk tpos) (.Call (.Name "zip" p) [e, e2] [] ppos)) (RG (blkCd c scope) (.Tuple elts kk tpos)) (RTs (blkCd c scope) ifs) (RE (blkCd c scope) elt) vs σ H Q := by
  refine ri_of (t := RZ.iZipA c.K (RA c [e, e2])) (fun X h => by rw [← h.K]; exact RZ.pi_zipA (gl_of h hg) (by rw [h.mg]; exact hm) (pa_ra h) (hs _) (hpl _)) (RA.mono (fun us H1 z => ?_) q)
  obtain ⟨ds, es, x, y, rfl, hx, hy, hl, tn, k⟩ := z
  obtain ⟨a, xs, rfl, sa, da⟩ := hx.tupE
  obtain ⟨b, ys, rfl, sb, db⟩ := hy.tupE
  have la := da.len
  have lb := db.len
  refine ⟨a, b, xs, ys, rfl, .inr ⟨sa, sb, fun D hD => ?_⟩⟩
  have hn : (ds.zip es).length = min xs.length ys.length := by rw [List.length_zip, la, lb]
  refine ⟨fun i m H' => m = (ds.zip es).length - i ∧ i ≤ (ds.zip es).length ∧ ∃ acc, acc.length ≤ i ∧ H' D = some (.lst acc) ∧ Same H1 H' ∧ DtAll c.K H' acc (((ds.zip es).take i).filterMap fun p => g p.1 p.2), ⟨(ds.zip es).length, by simp, Nat.zero_le _, [], Nat.le_refl _, upd_same, same_new hD, .nil⟩, ?_⟩
  rintro i m H' ⟨rfl, hi, acc, lacc, hA, s, hd⟩
  have sa' := (tp_same s).sqt sa
  have sb' := (tp_same s).sqt sb
  by_cases hlt : i < (ds.zip es).length
  · have i1 : i < xs.length := by omega
    have i2 : i < ys.length := by omega
    refine .inr ⟨⟨xs, ys, xs[i], ys[i], sa', sb', List.getElem?_eq_getElem i1, List.getElem?_eq_getElem i2⟩, fun H' => ∃ acc, acc.length ≤ i + 1 ∧ H' D = some (.lst acc) ∧ Same H1 H' ∧ DtAll c.K H' acc (((ds.zip es).take (i + 1)).filterMap fun p => g p.1 p.2), fun H' p' => ⟨(ds.zip es).length - (i + 1), by omega, rfl, hlt, p'⟩, fun v H2 yy => ?_⟩
    obtain ⟨T, u, w, rfl, hT, rfl, e1, e2⟩ := yy
    obtain ⟨d, hd1, hu⟩ := da.getV (e1 _ sa')
    obtain ⟨d', hd2, hw⟩ := db.getV (e2 _ sb')
    have hz : (ds.zip es)[i]? = some (d, d') := by rw [List.getElem?_zip_eq_some]; exact ⟨hd1, hd2⟩
    have sT : Same H' (upd H' T (.tup [u, w])) := same_new hT
    have s2 := s.trans sT
    have T1 := TurnF.one hD s2 (sT _ _ hA) (hd.mono (tp_same sT)) (tn d d' (.ref T) _ (List.mem_of_getElem? hz) s2 (.tup (.of upd_same) (.cons (hu.mono (tp_same s2)) (.cons (hw.mono (tp_same s2)) .nil))))
    refine RG.mono (fun σ2 H2 z => ⟨z.1, RTs.mono (fun b H3 z => ?_) z.2⟩) T1
    have st := zp_step (g := fun p : PyData × PyData => g p.1 p.2) hz
    cases b with
    | true => exact RE.mono (fun y H4 z => ⟨acc, z.1, Nat.lt_of_le_of_lt lacc (Nat.lt_of_lt_of_le i1 (Nat.le_trans (show xs.length ≤ 1000 by omega) (by decide))), acc ++ [y], by rw [List.length_append, List.length_singleton]; omega, z.2.1, z.2.2.1, by rw [← st]; exact z.2.2.2⟩) z
    | false => exact ⟨acc, by omega, z.1, z.2.1, by rw [← st]; exact z.2.2⟩
  · have e : i = (ds.zip es).length := by omega
    subst e
    refine .inl ⟨⟨xs, ys, sa', sb', by omega⟩, k D acc H' s hD hA ?_⟩
    rw [List.take_of_length_le (Nat.le_refl _)] at hd
    exact hd
end
def formK (w : Str) : Option (List Str) :=
  if w = "const" then some ["slot", "integer"] else if w = "do" then some ["operator", "slot", "slot", "slot"] else if w = "load" then some ["slot", "place"] else if w = "loadat" then some ["slot", "name", "slot"]
  else if w = "store" then some ["place", "slot"] else if w = "storeat" then some ["name", "slot", "slot"] else if w = "jump" then some ["index"] else if w = "unless" then some ["slot", "index"] else if w = "end" then some [] else none
structure Parts (M : Md) : Prop where
  ex : ∃ a es n, M.mg "PARTS" = some (.ref a) ∧ KDict M.K M.w a es n ∧ ∀ z, match formK z with
    | none => PySem.W.nsIn M.K a z = some none
    | some ws => ∃ b, PySem.W.nsIn M.K a z = some (some (.ref b)) ∧ ∀ H, SqT M.K H b (ws.map V.str)
def isIns : PyData → Bool
  | .tuple (.str w :: ds) => match formK w with
    | none => false
    | some ks => decide (ks.length = ds.length) && (ks.zip ds).all fun p => partK p.1 p.2
  | _ => false
def isCode : PyData → Bool
  | .tuple ds => ds.all isIns
  | _ => false
theorem at0 {α : Type} {a : α} {l : List α} : atI (a :: l) 0 = some a := pl_at (j := 0) rfl rfl
theorem cutS {α : Type} (x : α) (l : List α) : G.cutD (x :: l) (some 1) none = l := by
  have e1 : HT.sIx (x :: l).length 0 (some ((1 : Nat) : Int)) = 1 := by
    rw [HT.sIx_nat, List.length_cons]
    omega
  show ((x :: l).drop (HT.sIx (x :: l).length 0 (some ((1 : Nat) : Int)))).take ((x :: l).length - HT.sIx (x :: l).length 0 (some ((1 : Nat) : Int))) = l
  rw [e1, List.drop_succ_cons, List.drop_zero]
  exact List.take_of_length_le (by simp)
theorem eqv_nil {ds : List PyData} : PyData.eqv (.tuple ds) (.tuple []) = ds.isEmpty := by
  cases ds <;> simp [PyData.eqv, PyData.eqvAll]
def rC (p : PyData → Bool) : List PyData → PyData → Prop := fun ds d => ∃ x, ds = [x] ∧ GdX x ∧ (∀ ds, x = .tuple ds → ds.length ≤ 1000) ∧ d = .bool (p x)
theorem ok_isins {f fd} (F : Fun M.K "_is_instruction" "_is_instruction" s__is_instruction f fd) (b : Bl M) (b2 : Bl2 M) (g : Parts M) (dp : Dc M "_is_part" ["kind", "part"] 4 (spF rPart M.K)) :
    FnG M.prog M.w M.K M.mg M.base CX0 5 f fd ["thing"] (spF (rB isIns) M.K) := by
  refine fn_ok F sc__is_instruction rB_len (fun H vs Q E h => ?_)
  obtain ⟨ds, d, h, ⟨x, rfl, gx, rfl⟩, k⟩ := h
  obtain _ | ⟨hx, h⟩ := h
  cases h
  rename_i vx
  obtain ⟨aP, es, n, hP, DP, hz⟩ := g.ex
  refine b_cut (fun σ1 H1 => Same H H1 ∧ ∃ w ds, x = .tuple (.str w :: ds) ∧ σ1 = [some vx, none, none, none]) ?_ ?_
  · tm_at "go"
    refine t_val ?_
    tm_at "go"
    refine rc_isTup hx ?_
    refine ⟨_, rfl, ?_⟩
    cases hs : isTup x with
    | false =>
      tm_at "go"
      exact kget k (Same.refl _) (by cases x <;> first | rfl | cases hs)
    | true =>
      obtain ⟨ds, rfl⟩ : ∃ s, x = .tuple s := by cases x <;> first | exact ⟨_, rfl⟩ | cases hs
      tm_at "go"
      refine e_tupD ?_
      tm_at "go"
      refine tupend (ds := []) .nil (Nat.le_of_ble_eq_true rfl) fun v1 H1 s1 h1 => ?_
      refine ro_eqD (hx.mono (tp_same s1)).dp h1.dp (gx.shaped (by decide)) (by decide) ?_
      rw [eqv_nil]
      refine ⟨_, rfl, ?_⟩
      cases ds with
      | nil =>
        tm_at "go"
        exact kget k s1 rfl
      | cons d0 ds =>
        tm_at "go"
        refine t_val ?_
        tm_at "go"
        refine rx_tup (hx.mono (tp_same s1)) (d := d0) at0 fun v2 h2 => ?_
        tm_at "go"
        refine rc_isStr h2 ?_
        refine ⟨_, rfl, ?_⟩
        cases hs2 : isStr d0 with
        | false =>
          tm_at "go"
          exact kget k s1 (by cases d0 <;> first | rfl | cases hs2)
        | true =>
          obtain ⟨w, rfl⟩ : ∃ s, d0 = .str s := by cases d0 <;> first | exact ⟨_, rfl⟩ | cases hs2
          tm_at "go"
          exact ⟨s1, w, ds, rfl, rfl⟩
  · rintro _ H1 ⟨s1, w, ds, rfl, rfl⟩
    have hx1 := hx.mono (tp_same s1)
    tm_at "go"
    refine e_getK DP ?_
    refine e_glob hP (v := .ref aP) rfl ?_
    refine ⟨rfl, ?_⟩
    tm_at "go"
    refine rx_str hx1 at0 ?_
    have hw := hz w
    cases hf : formK w with
    | none =>
      rw [hf] at hw
      refine ⟨w, none, .non, rfl, hw, rfl, ?_⟩
      tm_at "go"
      exact kget k s1 (by simp [isIns, hf])
    | some ks =>
      rw [hf] at hw
      obtain ⟨bK, hb, hS⟩ := hw
      refine ⟨w, some (.ref bK), .ref bK, rfl, hb, rfl, ?_⟩
      have hks : ∀ H, Dt M.K H (.ref bK) (.tuple (ks.map .str)) := fun H => .tup (hS H) (dtStrs ks)
      have lk : ks.length ≤ 4 := by
        unfold formK at hf
        repeat' split at hf
        all_goals first | cases hf; decide | cases hf
      tm_at "go"
      refine rc_lenT (hks _) ?_
      tm_at "go"
      refine rc_lenT hx1 ?_
      tm_at "go"
      rw [List.length_map, List.length_cons]
      refine ifnd (fun c1 => ?_) (fun c1 => ?_)
      · tm_at "go"
        refine kget k s1 ?_
        simp only [isIns, hf]
        rw [decide_eq_false (by omega), Bool.false_and]
      · tm_at "go"
        refine e_callB (id := "all") b2.all (by decide +kernel) ?_
        tm_at "go"
        refine e_lc (own := [("kind", 2), ("part", 3)]) (Blk.of (N := N__is_instruction) (sc := defScope s__is_instruction) rfl rfl (by decide +kernel)) ?_
        refine lcZ_F (fun a x => match a with | .str kd => some (.bool (partK kd x)) | _ => none) b2.zip ?_
        tm_at "go"
        refine rsl_tup hx1 fun v2 H2 s2 h2 => ?_
        rw [cutS] at h2
        tm_at "go"
        refine ⟨_, _, _, _, rfl, hks _, h2, by rw [List.length_map]; omega, fun d d' v H' hm s3 hv => ?_, fun p us H3 s3 n3 g3 h3 => ?_⟩
        · obtain ⟨m1, m2⟩ := List.of_mem_zip hm
          obtain ⟨kd, _, rfl⟩ := List.mem_map.mp m1
          have gd' := gdx_tup gx d' (List.mem_cons_of_mem _ m2)
          refine g_unp2 (by tm_at "at") (by tm_at "at") hv fun v1 v3 h1 h3 => ⟨rfl, rfl, ts_nil ⟨Same.refl _, ift ?_⟩⟩
          tm_at "go"
          refine e_callF dp ?_
          tm_at "go"
          exact ⟨_, _, .cons h1 (.cons h3 .nil), ⟨kd, d', rfl, gd', rfl⟩, fun v4 H4 s4 h4 => ⟨s4, _, rfl, h4⟩⟩
        · tm_at "go"
          have e : ((ks.map PyData.str).zip ds).filterMap (fun p => match p.1 with | .str kd => some (PyData.bool (partK kd p.2)) | _ => none) = ((ks.zip ds).map fun p => partK p.1 p.2).map .bool := by
            rw [List.zip_map_left, List.filterMap_map, List.map_map]
            induction ks.zip ds with
            | nil => rfl
            | cons a l ih => rw [List.filterMap_cons, List.map_cons, ← ih]; rfl
          have h3 : DtAll M.K H3 us _ := h3
          rw [e] at h3
          obtain rfl := dtBools_eq h3
          refine rc_all (.of g3) ?_
          refine kget k (s1.trans (s2.trans s3)) ?_
          simp only [isIns, hf]
          rw [decide_eq_true (by omega), Bool.true_and, List.all_map]
          rfl
theorem ok_iscode {f fd} (F : Fun M.K "is_code" "is_code" s_is_code f fd) (b : Bl M) (b2 : Bl2 M) (di : dcB M "_is_instruction" "thing" 5 isIns) : FnG M.prog M.w M.K M.mg M.base CX0 6 f fd ["thing"] (spF (rC isCode) M.K) := by
  refine fn_ok F sc_is_code (fun vs H Q E h => ?_) (fun H vs Q E h => ?_)
  · obtain ⟨ds, d, h, ⟨x, rfl, _⟩, _⟩ := h
    exact h.len
  obtain ⟨ds, d, h, ⟨x, rfl, gx, lx, rfl⟩, k⟩ := h
  obtain _ | ⟨hx, h⟩ := h
  cases h
  tm_at "go"
  refine rc_isTup hx ?_
  refine ⟨_, rfl, ifb (fun e => ?_) (fun e => ?_)⟩
  · obtain ⟨ds, rfl⟩ : ∃ s, x = .tuple s := by cases x <;> first | exact ⟨_, rfl⟩ | cases e
    tm_at "go"
    refine e_callB (id := "all") b2.all (by decide +kernel) ?_
    tm_at "go"
    refine e_lc (own := [("part", 1)]) (Blk.of (N := N_is_code) (sc := defScope s_is_code) rfl rfl (by decide +kernel)) ?_
    refine lcT_F (fun x => some (.bool (isIns x))) ?_
    tm_at "go"
    refine ⟨ds, hx, lx ds rfl, fun d v H' hm s3 hv => ?_, fun p us H3 s3 n3 g3 h3 => ?_⟩
    · refine g_name (by tm_at "at") ⟨rfl, rfl, ts_nil ⟨Same.refl _, ift ?_⟩⟩
      tm_at "go"
      refine e_callF di ?_
      tm_at "go"
      exact ⟨_, _, .cons hv .nil, ⟨d, rfl, gdx_tup gx d hm, rfl⟩, fun v4 H4 s4 h4 => ⟨s4, _, rfl, h4⟩⟩
    · tm_at "go"
      have e : ds.filterMap (fun x => some (PyData.bool (isIns x))) = (ds.map isIns).map .bool := by
        rw [List.filterMap_eq_map', List.map_map]
        rfl
      rw [e] at h3
      obtain rfl := dtBools_eq h3
      refine rc_all (.of g3) ?_
      refine kget k s3 ?_
      rw [List.all_map]
      rfl
  · exact kget k (Same.refl _) (by cases x <;> first | rfl | cases e)
end K

namespace K
open PySem PySem.Spec PyProof.Rows L2 G
variable {M : Md}
theorem ok_lnum {f fd} (F : Fun M.K "_law_is_number" "_law_is_number" s__law_is_number f fd) (b : Bl M) : FnG M.prog M.w M.K M.mg M.base CX0 1 f fd ["_law_value"] (spF (rB isNum) M.K) := by
  refine fn_ok F sc__law_is_number rB_len (fun H vs Q E h => ?_)
  obtain ⟨ds, d, h, ⟨x, rfl, gx, rfl⟩, k⟩ := h
  obtain _ | ⟨hx, h⟩ := h
  cases h
  tm_at "go"
  refine rc_isInt hx ?_
  refine ⟨_, rfl, ifb (fun e => ?_) (fun e => ?_)⟩
  · tm_at "go"
    refine rc_isBool hx ?_
    refine ⟨_, rfl, ?_⟩
    cases x with
    | int i =>
      cases hx
      tm_at "go"
      exact kget k (Same.refl _) rfl
    | bool q =>
      refine ⟨false, rfl, iff0 ?_⟩
      exact kget k (Same.refl _) rfl
    | _ => cases e
  · exact kget k (Same.refl _) (by cases x <;> first | rfl | cases e)
theorem ok_lslot {f fd} (F : Fun M.K "_law_is_slot" "_law_is_slot" s__law_is_slot f fd) (b : Bl M) (du : dcB M "_law_is_number" "_law_value" 1 isNum) : FnG M.prog M.w M.K M.mg M.base CX0 2 f fd ["_law_value"] (spF (rB isSlot) M.K) := by
  refine fn_ok F sc__law_is_slot rB_len (fun H vs Q E h => ?_)
  obtain ⟨ds, d, h, ⟨x, rfl, gx, rfl⟩, k⟩ := h
  obtain _ | ⟨hx, h⟩ := h
  cases h
  tm_at "go"
  refine e_callF du ?_
  tm_at "go"
  refine ⟨_, _, .cons hx .nil, ⟨x, rfl, gx, rfl⟩, fun v2 H2 s2 h2 => ?_⟩
  cases h2
  refine ⟨_, rfl, ifb (fun e2 => ?_) (fun e2 => ?_)⟩
  · obtain ⟨i, rfl, hi⟩ := isNum_int e2
    cases hx
    tm_at "go"
    exact kget k s2 (by simp [isSlot, hi])
  · exact kget k s2 (by cases x <;> first | rfl | skip; have : ¬ (0 : Int) ≤ _ := of_decide_eq_false e2; simp [isSlot]; omega)
theorem ok_lwhole {f fd} (F : Fun M.K "_law_is_whole" "_law_is_whole" s__law_is_whole f fd) (b : Bl M) : FnG M.prog M.w M.K M.mg M.base CX0 1 f fd ["_law_value"] (spF (rB isInt) M.K) := by
  refine fn_ok F sc__law_is_whole rB_len (fun H vs Q E h => ?_)
  obtain ⟨ds, d, h, ⟨x, rfl, gx, rfl⟩, k⟩ := h
  obtain _ | ⟨hx, h⟩ := h
  cases h
  tm_at "go"
  refine rc_isInt hx ?_
  refine ⟨_, rfl, ifb (fun e => ?_) (fun e => ?_)⟩
  · tm_at "go"
    refine rc_isBool hx ?_
    refine ⟨_, rfl, ?_⟩
    have e2 : (!isBool x) = isInt x := by cases x <;> first | rfl | cases e
    rw [e2]
    exact k _ _ (Same.refl _) (.bl _)
  · exact kget k (Same.refl _) (by cases x <;> first | rfl | cases e)
theorem ok_lop {f fd} (F : Fun M.K "_law_is_op" "_law_is_op" s__law_is_op f fd) (b : Bl M) : FnG M.prog M.w M.K M.mg M.base CX0 1 f fd ["_law_value"] (spF (rB isOp) M.K) := by
  refine fn_ok F sc__law_is_op rB_len (fun H vs Q E h => ?_)
  obtain ⟨ds, d, h, ⟨x, rfl, gx, rfl⟩, k⟩ := h
  obtain _ | ⟨hx, h⟩ := h
  cases h
  tm_at "go"
  refine rc_isStr hx ?_
  refine ⟨_, rfl, ifb (fun e => ?_) (fun e => ?_)⟩
  · obtain ⟨s, rfl⟩ : ∃ s, x = .str s := by cases x <;> first | exact ⟨_, rfl⟩ | cases e
    cases hx
    tm_at "go"
    refine e_tupD ?_
    tm_at "go"
    refine tupend (ds := ops.map .str) (by show DtAll _ _ _ _; exact dtStrs ops) (Nat.le_of_ble_eq_true rfl) fun v2 H2 s2 h2 => ?_
    refine ro_inST h2 ?_
    exact kget k s2 rfl
  · exact kget k (Same.refl _) (by cases x <;> first | rfl | cases e)
theorem ok_lname {f fd} (F : Fun M.K "_law_is_name" "_law_is_name" s__law_is_name f fd) (b : Bl M) : FnG M.prog M.w M.K M.mg M.base CX0 1 f fd ["_law_value"] (spF (rB isName) M.K) := by
  refine fn_ok F sc__law_is_name rB_len (fun H vs Q E h => ?_)
  obtain ⟨ds, d, h, ⟨x, rfl, gx, rfl⟩, k⟩ := h
  obtain _ | ⟨hx, h⟩ := h
  cases h
  have no : isName x = false → Q (.bl false) H := fun e => kget k (Same.refl _) e
  refine b_cut (fun σ1 H1 => H1 = H ∧ ∃ s, x = .str s ∧ 1 ≤ s.length ∧ s.length ≤ 8 ∧ σ1 = [some (.str s), none]) ?_ ?_
  · tm_at "go"
    refine t_val ?_
    tm_at "go"
    refine rc_isStr hx ?_
    refine ⟨_, rfl, ?_⟩
    cases hs : isStr x with
    | false =>
      tm_at "go"
      refine no ?_
      cases x <;> first | rfl | cases hs
    | true =>
      obtain ⟨s, rfl⟩ : ∃ s, x = .str s := by cases x <;> first | exact ⟨_, rfl⟩ | cases hs
      cases hx
      have ls := gdx_str gx
      tm_at "go"
      refine rc_lenS (by omega) ?_
      tm_at "go"
      refine ifd (fun c1 => ?_) (fun c1 => ?_)
      · tm_at "go"
        refine ifnd (fun c2 => ?_) (fun c2 => ?_)
        · tm_at "go"
          refine no ?_
          show nameS s = false
          unfold nameS
          rw [decide_eq_false (p := s.length ≤ 8) (by omega), Bool.false_and, Bool.and_false]
        · tm_at "go"
          exact ⟨rfl, s, rfl, by omega, by omega, rfl⟩
      · refine ⟨false, rfl, ift ?_⟩
        tm_at "go"
        refine no ?_
        show nameS s = false
        unfold nameS
        rw [decide_eq_false (p := 1 ≤ s.length) (by omega), Bool.false_and]
  · rintro _ _ ⟨rfl, s, rfl, l1, l8, rfl⟩
    tm_at "go"
    refine e_lc (own := [("_law_char", 1)]) (Blk.of (N := N__law_is_name) (sc := defScope s__law_is_name) rfl rfl (by decide +kernel)) ?_
    refine lcS_F (fun ch => if ch ∈ letters.cps.toList then none else some (.str ⟨#[ch]⟩)) ?_
    tm_at "go"
    refine ⟨by show s.length ≤ 1000; omega, fun ch H' s1 => ?_, fun p us H3 s3 n3 g3 h3 => ?_⟩
    · refine g_name (by tm_at "at") ⟨rfl, rfl, ts_one ?_⟩
      tm_at "go"
      refine rq_of (fun X h => op_notIn_sign) ⟨ch, letters, rfl, rfl, ?_⟩
      refine ⟨_, rfl, Same.refl _, ifnd (fun hc => ?_) (fun hc => ?_)⟩
      · tm_at "go"
        exact ⟨Same.refl _, _, if_neg hc, .str _⟩
      · exact if_pos hc
    · tm_at "go"
      have e : (s.cps.toList.filterMap (fun ch => if ch ∈ letters.cps.toList then none else some (PyData.str ⟨#[ch]⟩))).isEmpty = s.cps.toList.all fun ch => decide (ch ∈ letters.cps.toList) := by
        induction s.cps.toList with
        | nil => rfl
        | cons a l ih =>
          rw [List.filterMap_cons, List.all_cons]
          by_cases hc : a ∈ letters.cps.toList
          · rw [if_pos hc, decide_eq_true hc, Bool.true_and]; exact ih
          · rw [if_neg hc, decide_eq_false hc, Bool.false_and]; rfl
      refine e_lstD ?_
      tm_at "go"
      refine ⟨by decide, fun q0 H4 s4 n4 g4 => ?_⟩
      have so : PyData.strOk s = true := by simpa [gd] using gx.g
      refine ro_eqNil (n := 1) (s4 _ _ g3) (h3.mono (tp_same s4)) (fun d hd => ?_) (by decide) g4 ?_
      · obtain ⟨ch, hc, e1⟩ := List.mem_filterMap.mp hd
        by_cases hl : ch ∈ letters.cps.toList
        · rw [if_pos hl] at e1; cases e1
        · rw [if_neg hl] at e1
          cases e1
          refine shp_str ?_
          have h1 : s.cps.all (· < 0x110000) = true := so
          rw [← Array.all_toList, List.all_eq_true] at h1
          have := h1 ch hc
          show (#[ch] : Array Nat).all (· < 0x110000) = true
          simpa using this
      · rw [e]
        refine kget k (s3.trans s4) ?_
        show nameS s = _
        unfold nameS
        rw [decide_eq_true l1, decide_eq_true l8, Bool.true_and, Bool.true_and]
theorem ok_lplace {f fd} (F : Fun M.K "_law_is_place" "_law_is_place" s__law_is_place f fd) (b : Bl M) (dn : dcB M "_law_is_name" "_law_value" 1 isName) (du : dcB M "_law_is_number" "_law_value" 1 isNum) : FnG M.prog M.w M.K M.mg M.base CX0 2 f fd ["_law_value"] (spF (rB isPlace) M.K) := by
  refine fn_ok F sc__law_is_place rB_len (fun H vs Q E h => ?_)
  obtain ⟨ds, d, h, ⟨x, rfl, gx, rfl⟩, k⟩ := h
  obtain _ | ⟨hx, h⟩ := h
  cases h
  rename_i vx
  have late : isPlace x = isName x → RB ⟨M, N__law_is_place, defScope s__law_is_place, 1, true, false, none⟩ [(defBody s__law_is_place).getD 1 (.Pass ⟨0, 0, 0, 0⟩)] { nx := fun _ H' => Q .non H', rt := Q } (start N__law_is_place [vx]) H := fun e2 => by
    tm_at "go"
    refine e_callF dn ?_
    tm_at "go"
    refine ⟨_, _, .cons hx .nil, ⟨x, rfl, gx, rfl⟩, fun v2 H2 s2 h2 => ?_⟩
    cases h2
    exact kget k s2 e2
  tm_at "go"
  refine t_val ?_
  tm_at "go"
  refine rc_isTup hx ?_
  refine ⟨_, rfl, ifb (fun e => ?_) (fun e => ?_)⟩
  · obtain ⟨ds, rfl⟩ : ∃ s, x = .tuple s := by cases x <;> first | exact ⟨_, rfl⟩ | cases e
    tm_at "go"
    refine rc_lenT hx ?_
    tm_at "go"
    refine ifd (fun c1 => ?_) (fun c1 => ?_)
    · obtain ⟨y, z, rfl⟩ : ∃ y z, ds = [y, z] := by
        match ds, c1 with
        | [y, z], _ => exact ⟨y, z, rfl⟩
        | [], c => exact absurd c (show ¬ ((0 : Nat) : Int) = 2 by decide)
        | [_], c => exact absurd c (show ¬ ((1 : Nat) : Int) = 2 by decide)
        | _ :: _ :: _ :: _, c => exact absurd c (by simp; omega)
      have gy := gdx_tup gx y (by simp)
      have gz := gdx_tup gx z (by simp)
      tm_at "go"
      refine e_callF dn ?_
      tm_at "go"
      refine rx_tup hx (d := y) rfl fun v1 h1 => ?_
      tm_at "go"
      refine ⟨_, _, .cons h1 .nil, ⟨y, rfl, gy, rfl⟩, fun v2 H2 s2 h2 => ?_⟩
      cases h2
      refine ⟨_, rfl, ifb (fun e2 => ?_) (fun e2 => ?_)⟩
      · tm_at "go"
        refine e_callF du ?_
        tm_at "go"
        refine rx_tup (hx.mono (tp_same s2)) (d := z) rfl fun v3 h3 => ?_
        tm_at "go"
        refine ⟨_, _, .cons h3 .nil, ⟨z, rfl, gz, rfl⟩, fun v4 H4 s4 h4 => ?_⟩
        cases h4
        exact kget k (s2.trans s4) (by simp [isPlace, e2])
      · exact kget k s2 (by simp [isPlace, e2])
    · refine b_nil ?_
      refine late ?_
      match ds, c1 with
      | [y, z], c => exact absurd rfl c
      | [], _ => rfl
      | [_], _ => rfl
      | _ :: _ :: _ :: _, _ => rfl
  · refine b_nil ?_
    exact late (by cases x <;> first | rfl | cases e)
/-- a value that is a def -/
def FnV (M : Md) (k : Nat) (sp : Sp) (f : Addr) : Prop := FnR M.prog M.w M.K M.mg M.base noX k f sp ∧ PySem.W.keepIn M.K (.ref f) = true
theorem fnv_of {x : Str} {ps : List Str} {k m : Nat} {sp : Sp} (D : Dc M x ps k sp) (h : k ≤ m) : ∃ f, M.mg x = some (.ref f) ∧ FnV M m sp f := by
  obtain ⟨f, fd, F, hm, hk, hb⟩ := D.ex
  refine ⟨f, hm, ?_, hk⟩
  have := (FnOk.raw F hb .nil).mono h
  refine this.imp fun vs H Q E z => ?_
  rw [List.append_nil]
  exact z
section
variable {c : Cd} {σ : L2.St} {H : Hp} {Q : VK} {pos : Pos}
/-- a call of what an expression gives -/
theorem e_callE {fe e : Expr} {es : List Expr} (q : RE c fe σ H fun x H1 => ∃ f k sp, x = .ref f ∧ FnV c.toMd k sp f ∧ k ≤ c.k ∧ RA c (e :: es) σ H1 fun vs H2 => sp vs H2 Q fun _ _ _ => False)
    (ht : ∀ env, eval (.Call fe (e :: es) [] pos) env = (do callWith pos (← eval fe env) [] (backTo pos (starEach (e :: es) env)) (backToKw pos (keywordEach [] env))) := by intro _; rfl)
    (he : ∀ env, starEach (e :: es) env = (false, eval e env) :: starEach es env := by intro _; rfl) (hpl : ∀ env, (backTo pos (starEach es env)).any (·.1) = false := by intro _; rfl) : RE c (.Call fe (e :: es) [] pos) σ H Q := by
  refine re_of (t := fun σ H Q => RE c fe σ H fun x H1 => ∃ f k sp, x = .ref f ∧ FnV c.toMd k sp f ∧ k ≤ c.k ∧ RA c (e :: es) σ H1 fun vs H2 => sp vs H2 Q fun _ _ _ => False) (fun X h => ⟨fun pins s σ H Q I w => ?_⟩) q
  refine Call_ (thn ((pe_re h).run pins s σ H _ I w) fun u s1 hu => ?_) (ht _)
  obtain ⟨x, H1, I1, rx, f, k, sp, rfl, ⟨F, hk⟩, lk, wa⟩ := hu
  obtain rfl : u = Value.ref f := rx
  have F' : FnR X.prog X.w X.K X.mg X.base noX k f sp := by rw [h.prog, h.w, h.K, h.mg, h.base]; exact F
  refine PySem.W.callWith_K (h₀ := X.base) I1.ok.mod.kin (by rw [h.K]; exact hk) (thn ((pa_ra h).run pos pins s1 σ H1 _ I1 wa) fun us s2 hus => ?_) (he _) (hpl _)
  obtain ⟨vs, H2, I2, r2, w2⟩ := hus
  exact ⟨I2.kIn, wpAny_call (run_fnR F' (h.room.mono lk) (fun _ _ _ _ _ _ _ z => z.elim) I2 r2 w2)⟩
end
end K

namespace K
open PySem PySem.Spec PyProof.Rows L2 G
variable {M : Md}
section
variable {c : Cd} {σ : L2.St} {H : Hp} {Q : VK} {pos : Pos}
theorem e_globF {x : Str} {f : Addr} (hm : c.mg x = some (.ref f)) (q : Q (.ref f) H) (hg : c.sc.names.lookup x = some .globalImplicit := by rfl) (hd : (x == ("__debug__" : Str)) = false := by decide) : RE c (.Name x pos) σ H Q := e_glob hm (v := .ref f) rfl q hg hd
theorem op_notInK {X : Cx} (hu : X.A.units + 1 < cLine) : OpR X (compareOp .NotIn) (fun x y H Q => ∃ (a : Addr) (k : Key) (kvs : List (Key × V)), x = kV k ∧ y = .ref a ∧ H a = some (.dK kvs) ∧ Q (.bl (!(valV kvs k).isSome)) H) := by
  rintro pins s σ H x y v u Q I rx ry ⟨a, k, kvs, rfl, rfl, hd, q⟩
  cases ry
  exact d_notIn hu I (DGet.k (k := k) hd) rx fun s' I' => ⟨.bl _, H, I', rfl, q⟩
theorem ro_notInK {a : Addr} {k : Key} {kvs : List (Key × V)} {x : V} (hx : x = kV k) (hd : H a = some (.dK kvs)) (q : Q (.bl (!(valV kvs k).isSome)) H) : RQ c .NotIn x (.ref a) H Q :=
  rq_of (fun X h => op_notInK (by have := h.room.un; omega)) ⟨a, k, kvs, hx, rfl, hd, q⟩
theorem rp_dict {a : Addr} {k : Key} {kvs : List (Key × V)} {y v : V} {Q : Hp → Prop} (hy : y = kV k) (hd : H a = some (.dK kvs)) (hl : kvs.length < 1000) (q : Q (upd H a (.dK (putK kvs k v)))) : RP c (.ref a) y v H Q :=
  rp_of (fun X h => set_dict (by have := h.room.un; omega)) ⟨a, _, rfl, by subst hy; exact DPut.k hd (Nat.lt_trans hl (by decide)), q⟩
end
theorem sw0 {ts vs : List Expr} {k1 k2 : Nat} {p1 p2 : Pos} (h : vs.all (foldedForSure 8) = true) (env : Env) : swappedStores [.Tuple ts k1 p1] (.Tuple vs k2 p2) env = pure none := by
  unfold swappedStores
  simp only [h]
  repeat (first | rfl | split)
theorem swSub {o1 i1 o2 i2 a b : Expr} {q1 q2 pt pt2 : Pos} {kt k2 : Nat} (env : Env) : swappedStores [.Tuple [.Subscript o1 i1 q1, .Subscript o2 i2 q2] kt pt] (.Tuple [a, b] k2 pt2) env = pure none := by
  unfold swappedStores
  simp only [List.filterMap_cons, List.filterMap_nil]
  repeat (first | rfl | split)
/-- a list of defs, by what each tells -/
def FnL (M : Md) (H : Hp) (a : Addr) (ps : List (PyData → Bool)) : Prop := ∃ fs : List Addr, H a = some (.lst (fs.map V.ref)) ∧ Paired (fun f p => FnV M 3 (spF (rB p) M.K) f) fs ps
theorem FnL.same {H H' : Hp} {a : Addr} {ps : List (PyData → Bool)} (h : FnL M H a ps) (s : Same H H') : FnL M H' a ps := by
  obtain ⟨fs, h1, h2⟩ := h
  exact ⟨fs, s _ _ h1, h2⟩
def formP (w : Str) : Option (List (PyData → Bool)) := (formK w).map (·.map partK)
theorem pk1 : partK "slot" = isSlot := by funext x; simp [partK]
theorem pk2 : partK "integer" = isInt := by funext x; unfold partK; rw [if_neg (by decide +kernel), if_pos rfl]
theorem pk3 : partK "index" = isNum := by funext x; unfold partK; rw [if_neg (by decide +kernel), if_neg (by decide +kernel), if_pos rfl]
theorem pk4 : partK "name" = isName := by funext x; unfold partK; rw [if_neg (by decide +kernel), if_neg (by decide +kernel), if_neg (by decide +kernel), if_pos rfl]
theorem pk5 : partK "place" = isPlace := by funext x; unfold partK; rw [if_neg (by decide +kernel), if_neg (by decide +kernel), if_neg (by decide +kernel), if_neg (by decide +kernel), if_pos rfl]
theorem pk6 : partK "operator" = isOp := by funext x; unfold partK; rw [if_neg (by decide +kernel), if_neg (by decide +kernel), if_neg (by decide +kernel), if_neg (by decide +kernel), if_neg (by decide +kernel)]
structure Fns (M : Md) (fS fW fP fN fM fO : Addr) : Prop where
  s : M.mg "_law_is_slot" = some (.ref fS) ∧ FnV M 3 (spF (rB isSlot) M.K) fS
  w : M.mg "_law_is_whole" = some (.ref fW) ∧ FnV M 3 (spF (rB isInt) M.K) fW
  p : M.mg "_law_is_place" = some (.ref fP) ∧ FnV M 3 (spF (rB isPlace) M.K) fP
  n : M.mg "_law_is_number" = some (.ref fN) ∧ FnV M 3 (spF (rB isNum) M.K) fN
  m : M.mg "_law_is_name" = some (.ref fM) ∧ FnV M 3 (spF (rB isName) M.K) fM
  o : M.mg "_law_is_op" = some (.ref fO) ∧ FnV M 3 (spF (rB isOp) M.K) fO
def kv3 (a1 a2 a3 : Addr) : List (Key × V) := [(Sum.inr "const", V.ref a1), (Sum.inr "load", V.ref a2), (Sum.inr "jump", V.ref a3)]
def kv4 (a1 a2 a3 a4 : Addr) : List (Key × V) := kv3 a1 a2 a3 ++ ([(Sum.inr "do", V.ref a4)] : List (Key × V))
def kv6 (a1 a2 a3 a4 a5 a6 : Addr) : List (Key × V) := kv4 a1 a2 a3 a4 ++ ([(Sum.inr "loadat", V.ref a5), (Sum.inr "store", V.ref a6)] : List (Key × V))
def kv8 (a1 a2 a3 a4 a5 a6 a7 a8 : Addr) : List (Key × V) := kv6 a1 a2 a3 a4 a5 a6 ++ ([(Sum.inr "storeat", V.ref a7), (Sum.inr "unless", V.ref a8)] : List (Key × V))
def kvF (a1 a2 a3 a4 a5 a6 a7 a8 a9 : Addr) : List (Key × V) := [(Sum.inr "const", .ref a1), (Sum.inr "load", .ref a2), (Sum.inr "jump", .ref a3), (Sum.inr "do", .ref a4), (Sum.inr "loadat", .ref a5), (Sum.inr "store", .ref a6), (Sum.inr "storeat", .ref a7), (Sum.inr "unless", .ref a8), (Sum.inr "end", .ref a9)]
theorem fp_const : formP "const" = some [isSlot, isInt] := by unfold formP formK; rw [if_pos rfl]; show some [partK "slot", partK "integer"] = _; rw [pk1, pk2]
theorem fp_do : formP "do" = some [isOp, isSlot, isSlot, isSlot] := by unfold formP formK; rw [if_neg (by decide +kernel), if_pos rfl]; show some [partK "operator", partK "slot", partK "slot", partK "slot"] = _; rw [pk1, pk6]
theorem fp_load : formP "load" = some [isSlot, isPlace] := by unfold formP formK; rw [if_neg (by decide +kernel), if_neg (by decide +kernel), if_pos rfl]; show some [partK "slot", partK "place"] = _; rw [pk1, pk5]
theorem fp_loadat : formP "loadat" = some [isSlot, isName, isSlot] := by unfold formP formK; rw [if_neg (by decide +kernel), if_neg (by decide +kernel), if_neg (by decide +kernel), if_pos rfl]; show some [partK "slot", partK "name", partK "slot"] = _; rw [pk1, pk4]
theorem fp_store : formP "store" = some [isPlace, isSlot] := by unfold formP formK; rw [if_neg (by decide +kernel), if_neg (by decide +kernel), if_neg (by decide +kernel), if_neg (by decide +kernel), if_pos rfl]; show some [partK "place", partK "slot"] = _; rw [pk1, pk5]
theorem fp_storeat : formP "storeat" = some [isName, isSlot, isSlot] := by unfold formP formK; rw [if_neg (by decide +kernel), if_neg (by decide +kernel), if_neg (by decide +kernel), if_neg (by decide +kernel), if_neg (by decide +kernel), if_pos rfl]; show some [partK "name", partK "slot", partK "slot"] = _; rw [pk1, pk4]
theorem fp_jump : formP "jump" = some [isNum] := by unfold formP formK; rw [if_neg (by decide +kernel), if_neg (by decide +kernel), if_neg (by decide +kernel), if_neg (by decide +kernel), if_neg (by decide +kernel), if_neg (by decide +kernel), if_pos rfl]; show some [partK "index"] = _; rw [pk3]
theorem fp_unless : formP "unless" = some [isSlot, isNum] := by unfold formP formK; rw [if_neg (by decide +kernel), if_neg (by decide +kernel), if_neg (by decide +kernel), if_neg (by decide +kernel), if_neg (by decide +kernel), if_neg (by decide +kernel), if_neg (by decide +kernel), if_pos rfl]; show some [partK "slot", partK "index"] = _; rw [pk1, pk3]
theorem fp_end : formP "end" = some [] := by unfold formP formK; rw [if_neg (by decide +kernel), if_neg (by decide +kernel), if_neg (by decide +kernel), if_neg (by decide +kernel), if_neg (by decide +kernel), if_neg (by decide +kernel), if_neg (by decide +kernel), if_neg (by decide +kernel), if_pos rfl]; rfl
theorem fp_all {P : Str → Prop} (h1 : P "const") (h2 : P "do") (h3 : P "load") (h4 : P "loadat") (h5 : P "store") (h6 : P "storeat") (h7 : P "jump") (h8 : P "unless") (h9 : P "end") (h0 : ∀ z : Str, formP z = none → (∀ w ∈ (["const", "load", "jump", "do", "loadat", "store", "storeat", "unless", "end"] : List Str), ¬ w = z) → P z) (z : Str) : P z := by
  by_cases c1 : z = "const"
  · subst c1; exact h1
  by_cases c2 : z = "do"
  · subst c2; exact h2
  by_cases c3 : z = "load"
  · subst c3; exact h3
  by_cases c4 : z = "loadat"
  · subst c4; exact h4
  by_cases c5 : z = "store"
  · subst c5; exact h5
  by_cases c6 : z = "storeat"
  · subst c6; exact h6
  by_cases c7 : z = "jump"
  · subst c7; exact h7
  by_cases c8 : z = "unless"
  · subst c8; exact h8
  by_cases c9 : z = "end"
  · subst c9; exact h9
  refine h0 z ?_ ?_
  · unfold formP formK
    rw [if_neg c1, if_neg c2, if_neg c3, if_neg c4, if_neg c5, if_neg c6, if_neg c7, if_neg c8, if_neg c9]
    rfl
  · intro w hw e
    subst e
    simp only [List.mem_cons, List.not_mem_nil, or_false] at hw
    rcases hw with h | h | h | h | h | h | h | h | h
    · exact c1 h
    · exact c3 h
    · exact c7 h
    · exact c2 h
    · exact c4 h
    · exact c5 h
    · exact c6 h
    · exact c8 h
    · exact c9 h
theorem ins_form {w : Str} {ds : List PyData} : isIns (.tuple (.str w :: ds)) = match formP w with
    | none => false
    | some ps => decide (ps.length = ds.length) && (ps.zip ds).all fun q => q.1 q.2 := by
  show (match formK w with
    | none => false
    | some ks => decide (ks.length = ds.length) && (ks.zip ds).all fun p => partK p.1 p.2) = _
  unfold formP
  cases formK w with
  | none => rfl
  | some ks =>
    show _ = (decide ((ks.map partK).length = ds.length) && ((ks.map partK).zip ds).all fun q => q.1 q.2)
    rw [List.length_map, List.zip_map_left, List.all_map]
    rfl
theorem pair_get {α β : Type} {R : α → β → Prop} : ∀ {xs : List α} {ys : List β}, Paired R xs ys → ∀ {i : Nat} {y : β}, ys[i]? = some y → ∃ x, xs[i]? = some x ∧ R x y
  | _, _, .nil, i, y, h => by simp at h
  | _, _, .cons h r, 0, y, e => by
    cases (show some _ = some y from e)
    exact ⟨_, rfl, h⟩
  | _, _, .cons h r, i + 1, y, e => by
    obtain ⟨x, e1, h1⟩ := pair_get r (i := i) (by simpa using e)
    exact ⟨x, by simpa using e1, h1⟩
def gOf (l : List ((PyData → Bool) × PyData)) (i : Nat) : Option PyData := if (l.getD i (fun _ => true, .none)).1 (l.getD i (fun _ => true, .none)).2 then none else some (.int (i : Int))
theorem gOf_all (l : List ((PyData → Bool) × PyData)) : l.all (fun q => q.1 q.2) = ((List.range l.length).filterMap (gOf l)).isEmpty := by
  rw [Bool.eq_iff_iff, List.isEmpty_iff, List.filterMap_eq_nil_iff, List.all_eq_true]
  constructor
  · intro h t ht
    have ht := List.mem_range.mp ht
    have e : l.getD t (fun _ => true, .none) = l[t] := by rw [List.getD_eq_getElem?_getD, List.getElem?_eq_getElem ht]; rfl
    unfold gOf
    rw [e, if_pos (h _ (List.getElem_mem ht))]
  · intro h q hq
    obtain ⟨t, ht, rfl⟩ := List.getElem_of_mem hq
    have h1 := h t (List.mem_range.mpr ht)
    have e : l.getD t (fun _ => true, .none) = l[t] := by rw [List.getD_eq_getElem?_getD, List.getElem?_eq_getElem ht]; rfl
    unfold gOf at h1
    rw [e] at h1
    by_cases hb : l[t].1 l[t].2 = true
    · exact hb
    · rw [if_neg hb] at h1; cases h1
local macro_rules | `(tactic| tm_at "fns") => `(tactic| repeat (first | refine a_cons ?_ | refine e_globF (by assumption) ?_ | refine a_nil ?_))
set_option maxHeartbeats 2000000 in
theorem ok_lpart {f fd} (F : Fun M.K "_law_is_part" "_law_is_part" s__law_is_part f fd) (b : Bl M) {fS fW fP fN fM fO : Addr} (g : Fns M fS fW fP fN fM fO) :
    FnG M.prog M.w M.K M.mg M.base CX0 5 f fd ["_law_value"] (spF (rB isIns) M.K) := by
  refine fn_ok F sc__law_is_part rB_len (fun H vs Q E h => ?_)
  obtain ⟨ds, d, h, ⟨x, rfl, gx, rfl⟩, k⟩ := h
  obtain _ | ⟨hx, h⟩ := h
  cases h
  rename_i vx
  obtain ⟨⟨gS, vS⟩, ⟨gW, vW⟩, ⟨gP, vP⟩, ⟨gN, vN⟩, ⟨gM, vM⟩, ⟨gO, vO⟩⟩ := g
  refine b_cut (fun σ1 H1 => Same H H1 ∧ ∃ w ds, x = .tuple (.str w :: ds) ∧ σ1 = [some vx, none, none, none]) ?_ ?_
  · tm_at "go"
    refine t_val ?_
    tm_at "go"
    refine rc_isTup hx ?_
    refine ⟨_, rfl, ?_⟩
    cases hs : isTup x with
    | false =>
      tm_at "go"
      exact kget k (Same.refl _) (by cases x <;> first | rfl | cases hs)
    | true =>
      obtain ⟨ds, rfl⟩ : ∃ s, x = .tuple s := by cases x <;> first | exact ⟨_, rfl⟩ | cases hs
      tm_at "go"
      refine e_tupD ?_
      tm_at "go"
      refine tupend (ds := []) .nil (Nat.le_of_ble_eq_true rfl) fun v1 H1 s1 h1 => ?_
      refine ro_eqD (hx.mono (tp_same s1)).dp h1.dp (gx.shaped (by decide)) (by decide) ?_
      rw [eqv_nil]
      refine ⟨_, rfl, ?_⟩
      cases ds with
      | nil =>
        tm_at "go"
        exact kget k s1 rfl
      | cons d0 ds =>
        tm_at "go"
        refine t_val ?_
        tm_at "go"
        refine rx_tup (hx.mono (tp_same s1)) (d := d0) at0 fun v2 h2 => ?_
        tm_at "go"
        refine rc_isStr h2 ?_
        refine ⟨_, rfl, ?_⟩
        cases hs2 : isStr d0 with
        | false =>
          tm_at "go"
          exact kget k s1 (by cases d0 <;> first | rfl | cases hs2)
        | true =>
          obtain ⟨w, rfl⟩ : ∃ s, d0 = .str s := by cases d0 <;> first | exact ⟨_, rfl⟩ | cases hs2
          tm_at "go"
          exact ⟨s1, w, ds, rfl, rfl⟩
  rintro _ H1 ⟨s1, w, ds, rfl, rfl⟩
  have hx1 := hx.mono (tp_same s1)
  refine b_cut (fun σ2 H2 => ∃ (p a1 a2 a3 : Addr), σ2 = [some vx, some (.ref p), none, none] ∧ Same H1 H2 ∧ H1 p = none ∧ H2 p = some (.dK (kv3 a1 a2 a3)) ∧ a1 ≠ p ∧ a2 ≠ p ∧ a3 ≠ p ∧
      H2 a1 = some (.lst [.ref fS, .ref fW]) ∧ H2 a2 = some (.lst [.ref fS, .ref fP]) ∧ H2 a3 = some (.lst [.ref fN])) ?_ ?_
  · tm_at "go"
    refine e_disp (fun X h => pps_cons (pe_re h) (pe_re h) (pps_cons (pe_re h) (pe_re h) (pps_cons (pe_re h) (pe_re h) pps_nil))) rfl rfl (by intro e; cases e) (by decide) ?_
    intro p hp
    simp only [tPairs]
    have s0 := same_new (o := .dK []) hp
    tm_at "go"
    refine e_lstD ?_
    tm_at "fns"
    refine ⟨(Nat.le_of_ble_eq_true rfl), fun a1 H3 s3 n3 g3 => ?_⟩
    tm_at "go"
    refine e_lstD ?_
    tm_at "fns"
    refine ⟨(Nat.le_of_ble_eq_true rfl), fun a2 H4 s4 n4 g4 => ?_⟩
    tm_at "go"
    refine e_lstD ?_
    tm_at "fns"
    refine ⟨(Nat.le_of_ble_eq_true rfl), fun a3 H5 s5 n5 g5 => ?_⟩
    have gp3 := s3 _ _ (upd_same (H := H1) (a := p) (o := .dK []))
    have gp4 := s4 _ _ gp3
    have gp5 := s5 _ _ gp4
    have ne : ∀ {a : Addr} {h h' : Hp}, h p = some (.dK []) → Same h h' → h a = none → a ≠ p := fun {a h h'} e _ n z => by rw [z, e] at n; cases n
    refine ⟨gp5, (kv3 a1 a2 a3), rfl, (Nat.le_of_ble_eq_true rfl), ?_⟩
    have e0 : mergeK [] (kv3 a1 a2 a3) = kv3 a1 a2 a3 := rfl
    rw [e0]
    have b1 : a1 ≠ p := ne upd_same s3 n3
    have b2 : a2 ≠ p := ne gp3 s4 n4
    have b3 : a3 ≠ p := ne gp4 s5 n5
    refine ⟨p, a1, a2, a3, rfl, same_mut (s0.trans (s3.trans (s4.trans s5))) hp, hp, upd_same, b1, b2, b3, ?_, ?_, ?_⟩
    · rw [upd_ne b1]; exact s5 _ _ (s4 _ _ g3)
    · rw [upd_ne b2]; exact s5 _ _ g4
    · rw [upd_ne b3]; exact g5
  rintro _ H2 ⟨p, a1, a2, a3, rfl, s2, np, gp, b1, b2, b3, g1, g2, g3⟩
  refine b_cut (fun σ3 H3 => ∃ a4, σ3 = [some vx, some (.ref p), none, none] ∧ Kp p H2 H3 ∧ Same H1 H3 ∧ H3 p = some (.dK (kv4 a1 a2 a3 a4)) ∧ a4 ≠ p ∧ H3 a4 = some (.lst [.ref fO, .ref fS, .ref fS, .ref fS])) ?_ ?_
  · tm_at "go"
    refine e_lstD ?_
    tm_at "fns"
    refine ⟨(Nat.le_of_ble_eq_true rfl), fun a4 H3 s3 n3 g4 => ?_⟩
    tm_at "go"
    have b4 : a4 ≠ p := fun z => by rw [z, gp] at n3; cases n3
    refine ⟨p, _, rfl, s3 _ _ gp, (Nat.le_of_ble_eq_true rfl), ?_⟩
    refine ⟨a4, rfl, (kp_same s3).trans (kp_fd (s3 _ _ gp)), same_mut (s2.trans s3) np, by rw [upd_same]; rfl, b4, by rw [upd_ne b4]; exact g4⟩
  rintro _ H3 ⟨a4, rfl, k3, s3, gp3, b4, g4⟩
  refine b_cut (fun σ3 H4 => ∃ a5 a6, σ3 = [some vx, some (.ref p), none, none] ∧ Kp p H3 H4 ∧ Same H1 H4 ∧ H4 p = some (.dK (kv6 a1 a2 a3 a4 a5 a6)) ∧ a5 ≠ p ∧ a6 ≠ p ∧ H4 a5 = some (.lst [.ref fS, .ref fM, .ref fS]) ∧ H4 a6 = some (.lst [.ref fP, .ref fS])) ?_ ?_
  · refine s_asg ?_ (hw := swSub)
    refine e_tup ?_
    refine a_cons ?_
    refine e_lstD ?_
    tm_at "fns"
    refine ⟨(Nat.le_of_ble_eq_true rfl), fun a5 H4 s4 n4 g5 => ?_⟩
    refine a_cons ?_
    refine e_lstD ?_
    tm_at "fns"
    refine ⟨(Nat.le_of_ble_eq_true rfl), fun a6 H5 s5 n5 g6 => ?_⟩
    refine a_nil ⟨Nat.le_trans (Nat.le_of_ble_eq_true rfl : 2 ≤ 1000) (by decide), fun pt npt => ?_⟩
    have b5 : a5 ≠ p := fun z => by rw [z, gp3] at n4; cases n4
    have b6 : a6 ≠ p := fun z => by rw [z, s4 _ _ gp3] at n5; cases n5
    have s6 : Same H5 (upd H5 pt (.tup [.ref a5, .ref a6])) := same_new npt
    have gt : (upd H5 pt (.tup [.ref a5, .ref a6])) pt = some (.tup [.ref a5, .ref a6]) := upd_same
    generalize upd H5 pt (.tup [.ref a5, .ref a6]) = H6 at *
    refine g_tup (.of gt) ?_
    refine gs_cons ?_
    refine g_sub ?_
    tm_at "go"
    have gp6 := (s5.trans s6) _ _ (s4 _ _ gp3)
    refine rp_dict (k := Sum.inr "loadat") rfl gp6 (Nat.le_of_ble_eq_true rfl) ?_
    refine gs_cons ?_
    refine g_sub ?_
    tm_at "go"
    refine rp_dict (k := Sum.inr "store") rfl upd_same (Nat.le_of_ble_eq_true rfl) ?_
    refine gs_nil ?_
    have k6 : Kp p H3 H6 := kp_same (s4.trans (s5.trans s6))
    refine ⟨a5, a6, rfl, k6.trans ((kp_fd gp6).trans (kp_fd upd_same)), same_mut (same_mut (s3.trans (s4.trans (s5.trans s6))) np) np, by rw [upd_same]; rfl, b5, b6, ?_, ?_⟩
    · rw [upd_ne b5, upd_ne b5]; exact s6 _ _ (s5 _ _ g5)
    · rw [upd_ne b6, upd_ne b6]; exact s6 _ _ g6
  rintro _ H4 ⟨a5, a6, rfl, k4, s4, gp4, b5, b6, g5, g6⟩
  refine b_cut (fun σ3 H5 => ∃ a7 a8, σ3 = [some vx, some (.ref p), none, none] ∧ Kp p H4 H5 ∧ Same H1 H5 ∧ H5 p = some (.dK (kv8 a1 a2 a3 a4 a5 a6 a7 a8)) ∧ a7 ≠ p ∧ a8 ≠ p ∧ H5 a7 = some (.lst [.ref fM, .ref fS, .ref fS]) ∧ H5 a8 = some (.lst [.ref fS, .ref fN])) ?_ ?_
  · refine s_asg ?_ (hw := swSub)
    refine e_tup ?_
    refine a_cons ?_
    refine e_lstD ?_
    tm_at "fns"
    refine ⟨(Nat.le_of_ble_eq_true rfl), fun a7 H5 s5 n5 g7 => ?_⟩
    refine a_cons ?_
    refine e_lstD ?_
    tm_at "fns"
    refine ⟨(Nat.le_of_ble_eq_true rfl), fun a8 H6 s6 n6 g8 => ?_⟩
    refine a_nil ⟨Nat.le_trans (Nat.le_of_ble_eq_true rfl : 2 ≤ 1000) (by decide), fun pt npt => ?_⟩
    have b7 : a7 ≠ p := fun z => by rw [z, gp4] at n5; cases n5
    have b8 : a8 ≠ p := fun z => by rw [z, s5 _ _ gp4] at n6; cases n6
    have s7 : Same H6 (upd H6 pt (.tup [.ref a7, .ref a8])) := same_new npt
    have gt : (upd H6 pt (.tup [.ref a7, .ref a8])) pt = some (.tup [.ref a7, .ref a8]) := upd_same
    generalize upd H6 pt (.tup [.ref a7, .ref a8]) = H7 at *
    refine g_tup (.of gt) ?_
    refine gs_cons ?_
    refine g_sub ?_
    tm_at "go"
    have gp7 := (s6.trans s7) _ _ (s5 _ _ gp4)
    refine rp_dict (k := Sum.inr "storeat") rfl gp7 (Nat.le_of_ble_eq_true rfl) ?_
    refine gs_cons ?_
    refine g_sub ?_
    tm_at "go"
    refine rp_dict (k := Sum.inr "unless") rfl upd_same (Nat.le_of_ble_eq_true rfl) ?_
    refine gs_nil ?_
    have k7 : Kp p H4 H7 := kp_same (s5.trans (s6.trans s7))
    refine ⟨a7, a8, rfl, k7.trans ((kp_fd gp7).trans (kp_fd upd_same)), same_mut (same_mut (s4.trans (s5.trans (s6.trans s7))) np) np, by rw [upd_same]; rfl, b7, b8, ?_, ?_⟩
    · rw [upd_ne b7, upd_ne b7]; exact s7 _ _ (s6 _ _ g7)
    · rw [upd_ne b8, upd_ne b8]; exact s7 _ _ g8
  rintro _ H5 ⟨a7, a8, rfl, k5, s5, gp5, b7, b8, g7, g8⟩
  refine b_cut (fun σ3 H6 => ∃ kvs, σ3 = [some vx, some (.ref p), none, none] ∧ Same H1 H6 ∧ H6 p = some (.dK kvs) ∧ kvs.length ≤ 9 ∧ ∀ z, match formP z with
      | none => valV kvs (Sum.inr z) = none
      | some ps => ∃ a, valV kvs (Sum.inr z) = some (.ref a) ∧ FnL M H6 a ps) ?_ ?_
  · tm_at "go"
    refine e_lstD ?_
    tm_at "fns"
    refine ⟨(Nat.le_of_ble_eq_true rfl), fun a9 H6 s6 n6 g9 => ?_⟩
    tm_at "go"
    have b9 : a9 ≠ p := fun z => by rw [z, gp5] at n6; cases n6
    refine ⟨p, _, rfl, s6 _ _ gp5, (Nat.le_of_ble_eq_true rfl), ?_⟩
    have kk := (k3.trans (k4.trans (k5.trans (kp_same s6)))).trans (kp_fd (o' := .dK (kvF a1 a2 a3 a4 a5 a6 a7 a8 a9)) (s6 _ _ gp5))
    have e9 : putK (kv8 a1 a2 a3 a4 a5 a6 a7 a8) (Sum.inr "end") (.ref a9) = kvF a1 a2 a3 a4 a5 a6 a7 a8 a9 := rfl
    rw [e9]
    refine ⟨_, rfl, same_mut (s5.trans s6) np, upd_same, (Nat.le_of_ble_eq_true rfl), fun z => ?_⟩
    have u : ∀ {a : Addr} {o : HO}, H6 a = some o → a ≠ p → (upd H6 p (.dK (kvF a1 a2 a3 a4 a5 a6 a7 a8 a9))) a = some o := fun e n => by rw [upd_ne n]; exact e
    have t6 := s6
    have q4 : ∀ {a : Addr} {o : HO}, H2 a = some o → a ≠ p → H6 a = some o := fun e n => s6 _ _ (k5.k _ _ n (k4.k _ _ n (k3.k _ _ n e)))
    refine fp_all (P := fun z => match formP z with
      | none => valV (kvF a1 a2 a3 a4 a5 a6 a7 a8 a9) (Sum.inr z) = none
      | some ps => ∃ a, valV (kvF a1 a2 a3 a4 a5 a6 a7 a8 a9) (Sum.inr z) = some (.ref a) ∧ FnL M (upd H6 p (.dK (kvF a1 a2 a3 a4 a5 a6 a7 a8 a9))) a ps) ?_ ?_ ?_ ?_ ?_ ?_ ?_ ?_ ?_ ?_ z
    · rw [fp_const]; exact ⟨a1, rfl, [fS, fW], u (q4 g1 b1) b1, .cons vS (.cons vW .nil)⟩
    · rw [fp_do]; exact ⟨a4, rfl, [fO, fS, fS, fS], u (s6 _ _ (k5.k _ _ b4 (k4.k _ _ b4 g4))) b4, .cons vO (.cons vS (.cons vS (.cons vS .nil)))⟩
    · rw [fp_load]; exact ⟨a2, rfl, [fS, fP], u (q4 g2 b2) b2, .cons vS (.cons vP .nil)⟩
    · rw [fp_loadat]; exact ⟨a5, rfl, [fS, fM, fS], u (s6 _ _ (k5.k _ _ b5 g5)) b5, .cons vS (.cons vM (.cons vS .nil))⟩
    · rw [fp_store]; exact ⟨a6, rfl, [fP, fS], u (s6 _ _ (k5.k _ _ b6 g6)) b6, .cons vP (.cons vS .nil)⟩
    · rw [fp_storeat]; exact ⟨a7, rfl, [fM, fS, fS], u (s6 _ _ g7) b7, .cons vM (.cons vS (.cons vS .nil))⟩
    · rw [fp_jump]; exact ⟨a3, rfl, [fN], u (q4 g3 b3) b3, .cons vN .nil⟩
    · rw [fp_unless]; exact ⟨a8, rfl, [fS, fN], u (s6 _ _ g8) b8, .cons vS (.cons vN .nil)⟩
    · rw [fp_end]; exact ⟨a9, rfl, [], u g9 b9, .nil⟩
    · intro z hz hn
      rw [hz]
      have n : ∀ {w : Str}, w ∈ (["const", "load", "jump", "do", "loadat", "store", "storeat", "unless", "end"] : List Str) → ¬ (Sum.inr w : Key) = Sum.inr z := fun hw e => hn _ hw (Sum.inr.inj e)
      show valV (kvF a1 a2 a3 a4 a5 a6 a7 a8 a9) (Sum.inr z) = none
      unfold kvF
      rw [valV_neg (n (by simp)), valV_neg (n (by simp)), valV_neg (n (by simp)), valV_neg (n (by simp)), valV_neg (n (by simp)), valV_neg (n (by simp)), valV_neg (n (by simp)), valV_neg (n (by simp)), valV_neg (n (by simp))]
      rfl
  rintro _ H6 ⟨kvs, rfl, s6, gp6, lk, hz⟩
  have s06 := s1.trans s6
  have hx6 := hx1.mono (tp_same s6)
  have hw := hz w
  rw [ins_form] at k
  cases hf : formP w with
  | none =>
    rw [hf] at hw k
    tm_at "go"
    refine rx_str hx6 at0 ?_
    tm_at "go"
    refine ro_notInK (k := Sum.inr w) rfl gp6 ?_
    rw [hw]
    refine ⟨_, rfl, ift ?_⟩
    tm_at "go"
    exact kget k s06 rfl
  | some ps =>
    rw [hf] at hw k
    obtain ⟨a, ha, fs, gf, hfs⟩ := hw
    have lf := hfs.length
    tm_at "go"
    refine rx_str hx6 at0 ?_
    tm_at "go"
    refine ro_notInK (k := Sum.inr w) rfl gp6 ?_
    rw [ha]
    refine ⟨_, rfl, iff0 ?_⟩
    tm_at "go"
    refine rc_lenT hx6 ?_
    refine e_bin ?_
    refine e_int ?_
    refine e_callB (id := "len") b.len (by decide +kernel) ?_
    refine a_cons ?_
    refine e_dgetK ?_
    tm_at "go"
    refine rx_str hx6 at0 ?_
    refine ⟨p, kvs, Sum.inr w, _, rfl, gp6, rfl, ha, ?_⟩
    tm_at "go"
    refine rc_lenL (.of gf) ?_
    tm_at "go"
    rw [List.length_cons, List.length_map]
    refine ifnd (fun c1 => ?_) (fun c1 => ?_)
    · tm_at "go"
      refine kget k s06 ?_
      show (decide (ps.length = ds.length) && _) = false
      rw [decide_eq_false (by omega), Bool.false_and]
    refine b_nil ?_
    refine b_cons ?_
    refine s_set (by tm_at "at") ?_
    refine e_dgetK ?_
    tm_at "go"
    refine rx_str hx6 at0 ?_
    refine ⟨p, kvs, Sum.inr w, _, rfl, gp6, rfl, ha, ?_⟩
    refine b_one ?_
    refine s_ret ?_
    refine e_cmp ?_
    refine e_lc (own := [("_law_k", 3)]) (Blk.of (N := N__law_is_part) (sc := defScope s__law_is_part) rfl rfl (by decide +kernel)) ?_
    have lds : ds.length = ps.length := by omega
    have lp : ps.length ≤ 4 := by
      unfold formP at hf
      cases hk : formK w with
      | none => rw [hk] at hf; cases hf
      | some ks =>
        rw [hk] at hf
        cases hf
        rw [List.length_map]
        unfold formK at hk
        repeat' split at hk
        all_goals first | cases hk; decide | cases hk
    let G : Int → Option PyData := fun i => if ((ps.zip ds).getD i.toNat (fun _ => true, .none)).1 ((ps.zip ds).getD i.toNat (fun _ => true, .none)).2 then none else some (.int i)
    refine lcR1_F G b.range ?_
    tm_at "go"
    refine rc_lenL (.of gf) ?_
    rw [List.length_map]
    refine ⟨_, rfl, ⟨by omega, by omega⟩, fun t H' ht s7 => ?_, fun q us H7 s7 n7 g7 h7 => ?_⟩
    · have ht' : t < ps.length := by omega
      have ht2 : t < ds.length := by omega
      have gd' : GdX ds[t] := gdx_tup gx _ (List.mem_cons_of_mem _ (List.getElem_mem ht2))
      obtain ⟨ft, hft, vft⟩ : ∃ ft, fs[t]? = some ft ∧ FnV M 3 (spF (rB ps[t]) M.K) ft := by
        exact pair_get hfs (List.getElem?_eq_getElem ht')
      have eG : G (t : Int) = if ps[t] ds[t] then none else some (.int t) := by
        show (if ((ps.zip ds).getD (t : Int).toNat (fun _ => true, .none)).1 ((ps.zip ds).getD (t : Int).toNat (fun _ => true, .none)).2 then none else some (PyData.int t)) = _
        rw [Int.toNat_natCast]
        have : (ps.zip ds).getD t (fun _ => true, .none) = (ps[t], ds[t]) := by
          rw [List.getD_eq_getElem?_getD, List.getElem?_eq_getElem (by rw [List.length_zip]; omega), List.getElem_zip]; rfl
        rw [this]
      refine g_name (by tm_at "at") ⟨rfl, rfl, ts_one ?_⟩
      refine t_not ?_
      refine t_val ?_
      refine e_callE ?_
      tm_at "go"
      refine rx_list (.of (s7 _ _ gf)) (v := .ref ft) (pl_at (j := t) rfl (by rw [List.getElem?_map, hft]; rfl)) ?_
      refine ⟨ft, 3, _, rfl, vft, (Nat.le_of_ble_eq_true rfl), ?_⟩
      tm_at "go"
      refine rx_tup (hx6.mono (tp_same s7)) (d := ds[t]) (pl_at (j := t + 1) (by omega) (by rw [List.getElem?_cons_succ]; exact List.getElem?_eq_getElem ht2)) fun v8 h8 => ?_
      tm_at "go"
      refine ⟨_, _, .cons h8 .nil, ⟨_, rfl, gd', rfl⟩, fun v9 H9 s9 h9 => ?_⟩
      cases h9
      refine ⟨_, rfl, s9, ?_⟩
      rw [eG]
      cases hb : ps[t] ds[t] with
      | true => exact rfl
      | false =>
        refine ift ?_
        tm_at "go"
        exact ⟨Same.refl _, _, rfl, .int _⟩
    · tm_at "go"
      refine e_lstD ?_
      tm_at "go"
      refine ⟨(Nat.le_of_ble_eq_true rfl), fun q0 H8 s8 n8 g8 => ?_⟩
      refine ro_eqNil (n := 1) (s8 _ _ g7) (h7.mono (tp_same s8)) (fun d hd => ?_) (by decide) g8 ?_
      · obtain ⟨t, _, e1⟩ := List.mem_filterMap.mp hd
        have e1 : G (t : Int) = some d := e1
        simp only [G] at e1
        split at e1
        · cases e1
        · cases e1; exact shp_int _
      · refine kget k (s06.trans (s7.trans s8)) ?_
        show (decide (ps.length = ds.length) && _) = _
        rw [decide_eq_true lds.symm, Bool.true_and, gOf_all]
        have e1 : (ps.zip ds).length = ((fs.length : Nat) : Int).toNat := by rw [List.length_zip, Int.toNat_natCast]; omega
        rw [e1]
        rfl
theorem all_fm (p : PyData → Bool) : ∀ ds : List PyData, ds.all p = (ds.filterMap fun x => if p x then none else some x).isEmpty
  | [] => rfl
  | a :: l => by
    rw [List.all_cons, List.filterMap_cons, all_fm p l]
    cases h : p a with
    | true => simp
    | false => simp
theorem ok_lcode {f fd} (F : Fun M.K "_law_is_code" "_law_is_code" s__law_is_code f fd) (b : Bl M) (dp : dcB M "_law_is_part" "_law_value" 5 isIns) : FnG M.prog M.w M.K M.mg M.base CX0 6 f fd ["_law_value"] (spF (rC isCode) M.K) := by
  refine fn_ok F sc__law_is_code (fun vs H Q E h => ?_) (fun H vs Q E h => ?_)
  · obtain ⟨ds, d, h, ⟨x, rfl, _⟩, _⟩ := h
    exact h.len
  obtain ⟨ds, d, h, ⟨x, rfl, gx, lx, rfl⟩, k⟩ := h
  obtain _ | ⟨hx, h⟩ := h
  cases h
  tm_at "go"
  refine rc_isTup hx ?_
  refine ⟨_, rfl, ifb (fun e => ?_) (fun e => ?_)⟩
  · obtain ⟨ds, rfl⟩ : ∃ s, x = .tuple s := by cases x <;> first | exact ⟨_, rfl⟩ | cases e
    tm_at "go"
    refine e_lc (own := [("_law_part_here", 1)]) (Blk.of (N := N__law_is_code) (sc := defScope s__law_is_code) rfl rfl (by decide +kernel)) ?_
    refine lcT_F (fun x => if isIns x then none else some x) ?_
    tm_at "go"
    refine ⟨ds, hx, lx ds rfl, fun d v H' hm s3 hv => ?_, fun p us H3 s3 n3 g3 h3 => ?_⟩
    · refine g_name (by tm_at "at") ⟨rfl, rfl, ts_one ?_⟩
      refine t_not ?_
      refine t_val ?_
      refine e_callF dp ?_
      tm_at "go"
      refine ⟨_, _, .cons hv .nil, ⟨d, rfl, gdx_tup gx d hm, rfl⟩, fun v4 H4 s4 h4 => ?_⟩
      cases h4
      refine ⟨_, rfl, s4, ?_⟩
      cases hb : isIns d with
      | true => exact rfl
      | false =>
        refine ift ?_
        tm_at "go"
        exact ⟨Same.refl _, _, rfl, hv.mono (tp_same s4)⟩
    · tm_at "go"
      refine e_lstD ?_
      tm_at "go"
      refine ⟨(Nat.le_of_ble_eq_true rfl), fun q0 H8 s8 n8 g8 => ?_⟩
      refine ro_eqNil (n := 50) (s8 _ _ g3) (h3.mono (tp_same s8)) (fun d hd => ?_) (by decide) g8 ?_
      · obtain ⟨y, hy, e1⟩ := List.mem_filterMap.mp hd
        split at e1
        · cases e1
        · cases e1; exact (gdx_tup gx _ hy).shp
      · refine kget k (s3.trans s8) ?_
        exact all_fm isIns ds
  · exact kget k (Same.refl _) (by cases x <;> first | rfl | cases e)
end K

namespace K
open PySem PySem.Spec PyProof.Rows L2 G
variable {M : Md}
def preNext : List PyData → Prop := fun ds => ∃ m : Int, ds = [.int m] ∧ 0 < m ∧ m < 1000000
def rNext : List PyData → PyData → Prop := fun ds d => ∃ m r : Int, ds = [.int m] ∧ d = .int r ∧ 0 ≤ r ∧ r < m
theorem ok_next {f fd} (F : Fun M.K "_law_next" "_law_next" s__law_next f fd) (b : Bl M) : FnG M.prog M.w M.K M.mg M.base CX0 1 f fd ["_law_source_here", "_law_limit"] (spD 1 preNext rNext M.K) := by
  refine fn_ok F sc__law_next (spD_len (n := 1) (by rintro ds ⟨m, rfl, _⟩; rfl)) (fun H vs Q E h => ?_)
  obtain ⟨fp, cl, rest, ds, n, rfl, ⟨ns, left, at0, count, h1, h2, h3, h4, h5⟩, hn, hds, ⟨m, rfl, m0, m1⟩, k⟩ := h
  obtain _ | ⟨hm, hds⟩ := hds
  cases hds
  cases hm
  have ncl : cl ≠ fp := fun e => by rw [e, h1] at h2; cases h2
  tm_at "go"
  refine ⟨_, _, _, rfl, h1, fkv_3, ?_⟩
  tm_at "go"
  refine ⟨_, _, rfl, h1, by rw [fkv_len]; decide, ?_⟩
  rw [fput_3]
  have k1 : Kp fp H (upd H fp (.dK (fkv (.ref cl) left at0 (count + 1)))) := kp_fd h1
  have g1 : (upd H fp (.dK (fkv (.ref cl) left at0 (count + 1)))) fp = _ := upd_same
  generalize upd H fp (.dK (fkv (.ref cl) left at0 (count + 1))) = H1 at *
  have c0 : 0 ≤ count + 1 := by omega
  have c1 : count + 1 ≤ ((n + 1 : Nat) : Int) := by omega
  tm_at "go"
  refine ⟨_, _, _, rfl, g1, fkv_1, ?_⟩
  tm_at "run"
  refine ifd (fun q1 => ?_) (fun q1 => ?_)
  · tm_at "go"
    refine ⟨_, _, _, rfl, g1, fkv_1, ?_⟩
    tm_at "run"
    refine ro_mod m0 ?_
    tm_at "go"
    refine ⟨_, _, _, rfl, g1, fkv_1, ?_⟩
    tm_at "run"
    refine ro_div m0 (by omega) ?_
    tm_at "run"
    refine ⟨_, _, rfl, g1, by rw [fkv_len]; decide, ?_⟩
    rw [fput_1]
    have k2 := k1.trans (kp_fd (o' := .dK (fkv (.ref cl) (left / m) at0 (count + 1))) g1)
    have n2 := k2.k cl _ ncl h2
    tm_at "go"
    refine k (.int (left % m)) _ _ ⟨m, _, rfl, rfl, Int.emod_nonneg _ (by omega), Int.emod_lt_of_pos _ m0⟩ k2 ⟨ns, _, _, _, upd_same, n2, h3, c0, c1⟩ (.int _)
  tm_at "go"
  refine ⟨_, _, _, rfl, g1, fkv_2, ?_⟩
  tm_at "go"
  refine ⟨_, _, rfl, g1, by rw [fkv_len]; decide, ?_⟩
  rw [fput_2]
  have k2 : Kp fp H (upd H1 fp (.dK (fkv (.ref cl) left (at0 + 1) (count + 1)))) := k1.trans (kp_fd g1)
  have g2 : (upd H1 fp (.dK (fkv (.ref cl) left (at0 + 1) (count + 1)))) fp = _ := upd_same
  generalize upd H1 fp (.dK (fkv (.ref cl) left (at0 + 1) (count + 1))) = H2 at *
  have n2 := k2.k cl _ ncl h2
  refine b_cons ?_
  refine s_set (by tm_at "at") (e_int ?_)
  refine b_cut (fun σ1 H3 => Same H2 H3 ∧ ∃ cell : Int, σ1 = [some (.ref fp), some (.int m), some (.int count), none, some (.int at0), some (.int cell), none]) ?_ ?_
  · tm_at "run"
    refine ⟨_, _, _, rfl, g2, fkv_0, ?_⟩
    refine e_lst ?_
    tm_at "run"
    refine ⟨by decide, fun pe hpe => ?_⟩
    have s3 : Same H2 (upd H2 pe (.lst [])) := same_new hpe
    have g3 : (upd H2 pe (.lst [])) pe = some (.lst []) := upd_same
    generalize upd H2 pe (.lst []) = H3 at *
    refine ro_neD (.lst (SqL.of (s3 _ _ n2)) (dpInts ns)) (.lst (SqL.of g3) .nil) (shInts ns) (by decide) ?_
    refine ⟨_, rfl, ifb (fun e => ?_) (fun e => ?_)⟩
    · have hn : 0 < ns.length := by
        cases ns with
        | nil => exact absurd e (by decide)
        | cons => exact Nat.succ_pos _
      tm_at "go"
      refine ⟨_, _, _, rfl, s3 _ _ g2, fkv_0, ?_⟩
      tm_at "run"
      refine ⟨_, _, _, rfl, s3 _ _ g2, fkv_0, ?_⟩
      tm_at "run"
      refine rc_lenL (SqL.of (s3 _ _ n2)) ?_
      rw [List.length_map]
      refine ro_mod (by omega) ?_
      have lt : (at0 % (ns.length : Int)).toNat < ns.length := by
        have h1 := Int.emod_nonneg at0 (show (ns.length : Int) ≠ 0 by omega)
        have h2 := Int.emod_lt_of_pos at0 (show (0 : Int) < ns.length by omega)
        omega
      refine rx_list (SqL.of (s3 _ _ n2)) (v := .int ns[(at0 % (ns.length : Int)).toNat]) ?_ ?_
      · have h1 := Int.emod_nonneg at0 (show (ns.length : Int) ≠ 0 by omega)
        refine pl_at (j := (at0 % (ns.length : Int)).toNat) (by omega) ?_
        rw [List.getElem?_map, List.getElem?_eq_getElem lt]; rfl
      · exact ⟨s3, _, rfl⟩
    · tm_at "go"
      exact ⟨s3, _, rfl⟩
  rintro _ H3 ⟨s3, cell, rfl⟩
  have k3 : Kp fp H H3 := k2.trans (kp_same s3)
  have g3 := s3 _ _ g2
  have n3 := s3 _ _ n2
  refine b_cut (fun σ1 H4 => H4 = H3 ∧ σ1 = [some (.ref fp), some (.int m), some (.int count), none, some (.int at0), some (.int cell), none]) ?_ ?_
  · tm_at "run"
    refine ro_pow ⟨by decide, by decide, by decide⟩ ?_
    tm_at "run"
    refine ifd (fun c2 => ?_) (fun c2 => ?_)
    · tm_at "run"
      refine ⟨_, _, _, rfl, g3, fkv_0, ?_⟩
      tm_at "run"
      refine rc_lenL (SqL.of n3) ?_
      tm_at "run"
      refine ifd (fun c3 => ?_) (fun c3 => ?_)
      · tm_at "go"
        refine ro_div m0 (by omega) ?_
        tm_at "run"
        refine ⟨_, _, rfl, g3, by rw [fkv_len]; decide, ?_⟩
        rw [fput_1]
        tm_at "go"
        refine ro_mod m0 ?_
        have k4 := k3.trans (kp_fd (o' := .dK (fkv (.ref cl) (cell / m) (at0 + 1) (count + 1))) g3)
        refine k (.int (cell % m)) _ _ ⟨m, _, rfl, rfl, Int.emod_nonneg _ (by omega), Int.emod_lt_of_pos _ m0⟩ k4 ⟨ns, _, _, _, upd_same, k4.k cl _ ncl h2, h3, c0, c1⟩ (.int _)
      · tm_at "go"
        exact ⟨rfl, rfl⟩
    · tm_at "go"
      exact ⟨rfl, rfl⟩
  rintro _ _ ⟨rfl, rfl⟩
  tm_at "go"
  refine ro_mod (by decide) ?_
  tm_at "go"
  refine ro_mul (.inl ⟨by decide, by decide⟩) ?_
  tm_at "go"
  refine ro_mul (.inr ⟨by omega, by omega⟩) ?_
  tm_at "go"
  refine ro_mul (.inl ⟨by decide, by decide⟩) ?_
  tm_at "go"
  have b0 := Int.emod_nonneg cell (show (2147483587 : Int) ≠ 0 by decide)
  have b1 := Int.emod_lt_of_pos cell (show (0 : Int) < 2147483587 by decide)
  have b2 : 0 ≤ 14029 * count * count := Int.mul_nonneg (by omega) h4
  have b3 : 14029 * count * count ≤ 14029 * 1000000 * 1000000 := Int.mul_le_mul (by omega) (by omega) h4 (by decide)
  generalize cell % 2147483587 = c8 at *
  generalize 14029 * count * count = c9 at *
  refine ro_mul (.inl ⟨by omega, by omega⟩) ?_
  tm_at "go"
  refine ro_mul (.inl ⟨by decide, by decide⟩) ?_
  tm_at "go"
  refine ro_mod (by decide) ?_
  generalize hmy : ((c8 + c9 + 5503 * count + 1019) * (c8 + c9 + 5503 * count + 1019) + 100043 * count + 139) % 2147483549 = my
  have b4 : 0 ≤ my ∧ my < 2147483549 := by rw [← hmy]; exact ⟨Int.emod_nonneg _ (by decide), Int.emod_lt_of_pos _ (by decide)⟩
  tm_at "go"
  refine ro_mul (.inl ⟨by omega, by omega⟩) ?_
  tm_at "go"
  refine ro_mul (.inl ⟨by decide, by decide⟩) ?_
  tm_at "go"
  refine ro_mod (by decide) ?_
  tm_at "go"
  refine ro_div (by decide) (by decide) ?_
  tm_at "go"
  refine ro_mod m0 ?_
  exact k (.int _) _ _ ⟨m, _, rfl, rfl, Int.emod_nonneg _ (by omega), Int.emod_lt_of_pos _ m0⟩ k3 ⟨ns, _, _, _, g3, n3, h3, c0, c1⟩ (.int _)
end K

local macro_rules | `(tactic| tm_at "mk") => `(tactic| repeat (first | (refine gRE ?_; refine e_tupD ?_) | tm_at "s" | (refine gRB ?_; first | refine b_one ?_ | refine b_cons ?_) | (refine tupend (by tm_at "dts") (Nat.le_of_ble_eq_true rfl) fun v H s h => ?_)))
namespace K
open PySem PySem.Spec PyProof.Rows L2 G
variable {M : Md}
abbrev Row := Str × Nat × Int × Int × Bool × Bool × Int
def rowD (r : Row) : PyData := .tuple [.str r.1, .int r.2.1, .int r.2.2.1, .int r.2.2.2.1, .bool r.2.2.2.2.1, .bool r.2.2.2.2.2.1, .int r.2.2.2.2.2.2]
def cellsD (rs : List Row) : PyData := .tuple (rs.map rowD)
def rs4 : List (List Row) := [[("x", 0, 0, 2, true, false, 0), ("y", 0, 0, 1, false, true, 0)], [("x", 0, 0, 1, true, false, 0), ("y", 0, 0, 1, false, false, 1), ("z", 0, 0, 2, false, true, 0)],
  [("i", 0, 0, 1, true, false, 0), ("t", 2, 0, 1, false, true, 0), ("x", 0, 0, 1, true, true, 0)], [("x", 0, -1, 1, false, true, 0), ("y", 0, 0, 2, true, false, 0)]]
def rRows : List PyData → PyData → Prop := fun ds d => ∃ rs ∈ rs4, d = cellsD rs
/-- what a draw leaves -/
structure Kept (K : PySem.W.Frag) (fp cl : Addr) (n : Nat) (H H' : Hp) : Prop where
  k : Kp fp H H'
  f : Feed K H' fp cl n
theorem e_draw {c : Cd} {σ : L2.St} {H : Hp} {Q : VK} (D : Dc c.toMd "_law_next" ["_law_source_here", "_law_limit"] 1 (spD 1 preNext rNext c.K)) {e1 e2 : Expr} {p pos : Pos} (q : RE c e1 σ H fun x H1 => RE c e2 σ H1 fun y H2 => ∃ fp cl n m, x = .ref fp ∧ y = .int m ∧ Feed c.K H2 fp cl n ∧ n + 1 ≤ 1000000 ∧ (0 < m ∧ m < 1000000) ∧ ∀ r H', 0 ≤ r → r < m → Kp fp H2 H' → Feed c.K H' fp cl (n + 1) → Q (.int r) H')
    (hk : 1 ≤ c.k := by exact Nat.le_of_ble_eq_true rfl) (hg : c.sc.names.lookup ("_law_next" : Str) = some .globalImplicit := by rfl)
    (he : ∀ env, starEach [e1, e2] env = (false, eval e1 env) :: starEach [e2] env := by intro _; rfl) (hpl : ∀ env, (backTo pos (starEach [e2] env)).any (·.1) = false := by intro _; rfl) (h2 : ∀ env, starEach [e2] env = (false, eval e2 env) :: starEach [] env := by intro _; rfl) :
    RE c (.Call (.Name "_law_next" p) [e1, e2] [] pos) σ H Q := by
  refine e_callD D (a_cons (RE.mono (fun x H1 z => a_cons (RE.mono (fun y H2 z => a_nil ?_) z) h2) q) he) hk hg (by decide) he hpl
  obtain ⟨fp, cl, n, m, rfl, rfl, hf, hn, hm, k⟩ := z
  refine ⟨fp, cl, _, _, n, rfl, hf, hn, .cons (.int _) .nil, ⟨m, rfl, hm⟩, ?_⟩
  rintro d v H' ⟨m', r, e, rfl, r0, r1⟩ kk ff hv
  cases e
  cases hv
  exact k r H' r0 r1 kk ff
abbrev dcNext (M : Md) : Prop := Dc M "_law_next" ["_law_source_here", "_law_limit"] 1 (spD 1 preNext rNext M.K)
def pre0 : List PyData → Prop := fun ds => ds = []
set_option maxHeartbeats 1000000 in
theorem ok_rows {f fd} (F : Fun M.K "_law_rows" "_law_rows" s__law_rows f fd) (b : Bl M) (dn : dcNext M) : FnG M.prog M.w M.K M.mg M.base CX0 2 f fd ["_law_source_here"] (spD 1 pre0 rRows M.K) := by
  refine fn_ok F sc__law_rows (spD_len (n := 0) (by rintro ds rfl; rfl)) (fun H vs Q E h => ?_)
  obtain ⟨fp, cl, rest, ds, n, rfl, hf, hn, hds, rfl, k⟩ := h
  cases hds
  refine b_cut (fun σ1 H1 => ∃ l us, σ1 = [some (.ref fp), some (.ref l)] ∧ Same H H1 ∧ H l = none ∧ H1 l = some (.lst us) ∧ DtAll M.K H1 us ((rs4.take 1).map cellsD)) ?_ ?_
  · tm_at "go"
    refine e_lstD ?_
    refine a_cons (e_tupD ?_)
    tm_at "mk"
    refine ⟨(Nat.le_of_ble_eq_true rfl), fun l H' s n g => ?_⟩
    tm_at "go"
    exact ⟨l, _, rfl, by tm_at "same", same_none (by tm_at "same") n, g, .cons (by tm_at "dt") .nil⟩
  rintro _ H1 ⟨l, u1, rfl, s1, n1, g1, h1⟩
  refine b_cut (fun σ1 HH => ∃ us, σ1 = [some (.ref fp), some (.ref l)] ∧ Kp l H1 HH ∧ Same H HH ∧ HH l = some (.lst us) ∧ DtAll M.K HH us ((rs4.take 2).map cellsD)) ?_ ?_
  · refine s_expr ?_
    refine e_app ?_
    tm_at "go"
    refine ⟨l, _, rfl, g1, ?_⟩
    tm_at "mk"
    rename_i vx Hx _ _
    have sx : Same H1 Hx := by tm_at "same"
    have lu := h1.len
    refine ⟨u1, sx _ _ g1, by rw [lu]; decide, ?_⟩
    have kk := kp_upd (o' := .lst (u1 ++ [vx])) (sx _ _ g1) (fun _ e => nomatch e) (fun _ _ e => nomatch e)
    refine ⟨_, rfl, (kp_same sx).trans kk, same_mut (s1.trans sx) n1, upd_same, ?_⟩
    exact (h1.mono ((tp_same sx).trans kk.t)).app (.cons (Dt.mono kk.t (by assumption)) .nil)
  rintro _ H2 ⟨u2, rfl, k2, s2, g2, h2⟩
  refine b_cut (fun σ1 HH => ∃ us, σ1 = [some (.ref fp), some (.ref l)] ∧ Kp l H2 HH ∧ Same H HH ∧ HH l = some (.lst us) ∧ DtAll M.K HH us ((rs4.take 3).map cellsD)) ?_ ?_
  · refine s_expr ?_
    refine e_app ?_
    tm_at "go"
    refine ⟨l, _, rfl, g2, ?_⟩
    tm_at "mk"
    rename_i vx Hx _ _
    have sx : Same H2 Hx := by tm_at "same"
    have lu := h2.len
    refine ⟨u2, sx _ _ g2, by rw [lu]; decide, ?_⟩
    have kk := kp_upd (o' := .lst (u2 ++ [vx])) (sx _ _ g2) (fun _ e => nomatch e) (fun _ _ e => nomatch e)
    refine ⟨_, rfl, (kp_same sx).trans kk, same_mut (s2.trans sx) n1, upd_same, ?_⟩
    exact (h2.mono ((tp_same sx).trans kk.t)).app (.cons (Dt.mono kk.t (by assumption)) .nil)
  rintro _ H3 ⟨u3, rfl, k3, s3, g3, h3⟩
  refine b_cut (fun σ1 HH => ∃ us, σ1 = [some (.ref fp), some (.ref l)] ∧ Kp l H3 HH ∧ Same H HH ∧ HH l = some (.lst us) ∧ DtAll M.K HH us ((rs4.take 4).map cellsD)) ?_ ?_
  · refine s_expr ?_
    refine e_app ?_
    tm_at "go"
    refine ⟨l, _, rfl, g3, ?_⟩
    tm_at "mk"
    rename_i vx Hx _ _
    have sx : Same H3 Hx := by tm_at "same"
    have lu := h3.len
    refine ⟨u3, sx _ _ g3, by rw [lu]; decide, ?_⟩
    have kk := kp_upd (o' := .lst (u3 ++ [vx])) (sx _ _ g3) (fun _ e => nomatch e) (fun _ _ e => nomatch e)
    refine ⟨_, rfl, (kp_same sx).trans kk, same_mut (s3.trans sx) n1, upd_same, ?_⟩
    exact (h3.mono ((tp_same sx).trans kk.t)).app (.cons (Dt.mono kk.t (by assumption)) .nil)
  rintro _ H4 ⟨u4, rfl, k4, s4, g4, h4⟩
  tm_at "go"
  have nf : l ≠ fp := ne_feed hf (Same.refl _) n1
  refine e_draw dn ?_
  tm_at "go"
  refine ⟨fp, cl, n, 4, rfl, rfl, hf.same s4, hn, ⟨by decide, by decide⟩, fun r H5 r0 r1 k5 f5 => ?_⟩
  refine rx_pick (ds := rs4.map cellsD) (.of (k5.k _ _ nf g4)) (h4.mono k5.t) r0 (by show r < 4; exact r1) fun v d hd hv => ?_
  rw [List.getElem?_map] at hd
  obtain ⟨rs, hrs, rfl⟩ := Option.map_eq_some_iff.mp hd
  exact k _ _ _ ⟨rs, List.mem_of_getElem? hrs, rfl⟩ ((kp_same s4).trans k5) f5 hv
end K

namespace K
open PySem PySem.Spec PyProof.Rows L2 G
variable {M : Md}
theorem gd_int {i : Int} (h : i.natAbs < 1024) : Gd 0 23 (.int i) := by
  have h2 : i.natAbs.log2 < 10 := PySem.Flt.log2_lt_of (by decide) (Nat.lt_of_lt_of_le h (by decide))
  refine ⟨by simp only [gd, decide_eq_true_eq]; omega, by simp only [PyData.depth]; exact Nat.le_refl _, by simp only [wt]; omega⟩
theorem gd_str {s : Str} {n : Nat} (h : PyData.strOk s = true) (hl : s.length ≤ n) : Gd 0 (10 * n + 13) (.str s) := ⟨by simpa only [gd] using h, by simp only [PyData.depth]; exact Nat.le_refl _, by simp only [wt]; omega⟩
theorem gd_bool (b : Bool) : Gd 0 13 (.bool b) := ⟨by simp only [gd], by simp only [PyData.depth]; exact Nat.le_refl _, by simp only [wt]; exact Nat.le_refl _⟩
theorem gd_none : Gd 0 13 .none := ⟨by simp only [gd], by simp only [PyData.depth]; exact Nat.le_refl _, by simp only [wt]; exact Nat.le_refl _⟩
theorem wts_le {k : Nat} : ∀ {ds : List PyData}, (∀ d ∈ ds, wt d ≤ k) → wts ds ≤ ds.length * (k + 4)
  | [], _ => by simp [wts]
  | d :: ds, h => by
    have h1 := h d (List.mem_cons_self ..)
    have h2 := wts_le fun e he => h e (List.mem_cons_of_mem _ he)
    simp only [wts, List.length_cons, Nat.succ_mul]
    omega
theorem gd_mk {L m k c : Nat} {ds : List PyData} (h : ∀ d ∈ ds, GdL L m k d) (hl : ds.length ≤ c) : GdL L (m + 1) (c * (k + 4) + 13) (.tuple ds) := by
  refine gd_tup.mpr ⟨fun d hd => (h d hd).g, fun d hd => (h d hd).dep, ?_⟩
  have h1 := wts_le (k := k) fun d hd => (h d hd).wt
  have h2 := Nat.mul_le_mul_right (k + 4) hl
  omega
theorem gd_mkL {L m k c : Nat} {ds : List PyData} (h : ∀ d ∈ ds, GdL L m k d) (hl : ds.length ≤ c) : GdL L (m + 1) (c * (k + 4) + 13) (.list ds) := by
  obtain ⟨a, b, e⟩ := gd_mk h hl
  exact ⟨by simpa only [gd] using a, by simpa only [PyData.depth] using b, by simpa only [wt] using e⟩
structure RowsG (rs : List Row) : Prop where
  len : rs.length ≤ 4
  nm : ∀ r ∈ rs, PyData.strOk r.1 = true ∧ r.1.length ≤ 8 ∧ r.2.1 ≤ 3
  pl : rs.any (fun r => r.2.1 == 0) = true
theorem rs4_ok : ∀ rs ∈ rs4, RowsG rs := by
  intro rs h
  have e : rs4.all (fun rs => decide (rs.length ≤ 4) && rs.all (fun r => PyData.strOk r.1 && (decide (r.1.length ≤ 8) && decide (r.2.1 ≤ 3))) && rs.any (fun r => r.2.1 == 0)) = true := by decide +kernel
  have := List.all_eq_true.mp e rs h
  simp only [Bool.and_eq_true, List.all_eq_true, decide_eq_true_eq] at this
  exact ⟨this.1.1, fun r hr => this.1.2 r hr, this.2⟩
def tabRow (r : Row) : List PyData := (List.range r.2.1).map fun k : Nat => .tuple [.str r.1, .int k]
def tabPl (rs : List Row) : List PyData := rs.flatMap tabRow
theorem tabRow_len (r : Row) : (tabRow r).length = r.2.1 := by simp [tabRow]
theorem tabPl_snoc {rs : List Row} {i : Nat} {r : Row} (h : rs[i]? = some r) : tabPl (rs.take (i + 1)) = tabPl (rs.take i) ++ tabRow r := by
  obtain ⟨h1, rfl⟩ := List.getElem?_eq_some_iff.mp h
  rw [List.take_succ_eq_append_getElem h1, tabPl, List.flatMap_append]
  simp [tabPl]
theorem tabPl_le {rs : List Row} (h : ∀ r ∈ rs, r.2.1 ≤ 3) : (tabPl rs).length ≤ 3 * rs.length := by
  induction rs with
  | nil => simp [tabPl]
  | cons r rs ih =>
    have h1 := h r (List.mem_cons_self ..)
    have h2 := ih fun q hq => h q (List.mem_cons_of_mem _ hq)
    have e : (tabPl (r :: rs)).length = r.2.1 + (tabPl rs).length := by simp [tabPl, tabRow_len]
    rw [e, List.length_cons]
    omega
def rTab : List PyData → List PyData → Prop := fun ds es => ∃ rs, ds = [cellsD rs] ∧ RowsG rs ∧ es = tabPl rs
theorem ok_tab {f fd} (F : Fun M.K "_law_table_places" "_law_table_places" s__law_table_places f fd) (b : Bl M) : FnG M.prog M.w M.K M.mg M.base CX0 1 f fd ["_law_rows_here"] (spL rTab M.K) := by
  refine fn_ok F sc__law_table_places (fun vs H Q E h => ?_) (fun H vs Q E h => ?_)
  · obtain ⟨ds, d, h, ⟨rs, rfl, _⟩, _⟩ := h
    exact h.len
  obtain ⟨ds, es, h, ⟨rs, rfl, R, rfl⟩, k⟩ := h
  obtain _ | ⟨hc, h⟩ := h
  cases h
  obtain ⟨a, xs, rfl, hxs, hrs⟩ := hc.tupE
  have hle := hrs.len
  rw [List.length_map] at hle
  tm_at "go"
  refine e_lstD ?_
  tm_at "go"
  refine ⟨(Nat.le_of_ble_eq_true rfl), fun l H0 s0 n0 g0 => ?_⟩
  tm_at "go"
  refine s_forT ?_
  tm_at "s"
  refine ⟨a, xs, rfl, (tp_same s0).sqt hxs, fun i σ1 H1 => ∃ (us : List V) (v : Option V), σ1 = [some (.ref a), some (.ref l), v, none] ∧ Same H H1 ∧ H1 l = some (.lst us) ∧ DtAll M.K H1 us (tabPl (rs.take i)), ⟨[], _, rfl, s0, g0, .nil⟩, ?_, ?_, ?_⟩
  · rintro i σ' H' _ ⟨us, v, rfl, s, _⟩
    exact (tp_same s).sqt hxs
  · rintro i x σ' H' hx ⟨us, v, rfl, s, hl1, hu⟩
    obtain ⟨d, hd, hx'⟩ := hrs.getV hx
    rw [List.getElem?_map] at hd
    obtain ⟨r, hr, rfl⟩ := Option.map_eq_some_iff.mp hd
    have rm := List.mem_of_getElem? hr
    have r3 := (R.nm r rm).2.2
    have hu1 := hu.len
    have ht := tabPl_le (rs := rs.take i) fun q hq => (R.nm q (List.mem_of_mem_take hq)).2.2
    have ht2 : (rs.take i).length ≤ 4 := Nat.le_trans (by simp [List.length_take]; omega) R.len
    refine g_name (by tm_at "at") ?_
    refine b_one ?_
    refine s_expr ?_
    refine e_ext ?_
    tm_at "go"
    refine ⟨l, _, rfl, hl1, ?_⟩
    refine e_lc (own := [("_law_k", 3)]) (Blk.of (N := N__law_table_places) (sc := defScope s__law_table_places) rfl rfl (by decide +kernel)) ?_
    have hx1 := hx'.mono (tp_same s)
    refine lcR1_F (fun i => some (.tuple [.str r.1, .int i])) b.range ?_
    tm_at "go"
    refine ⟨by omega, fun t H2 ht s2 => ?_, fun p ws H2 s2 n2 g2 h2 => ?_⟩
    · refine g_name (by tm_at "at") ⟨rfl, rfl, ts_nil ⟨Same.refl _, ift ?_⟩⟩
      have hx2 := hx1.mono (tp_same s2)
      refine e_tupD ?_
      tm_at "go"
      exact tupend (by tm_at "dts") (Nat.le_of_ble_eq_true rfl) fun v2 H3 s3 h3 => ⟨s3, _, rfl, h3⟩
    · have e : (List.range ((r.2.1 : Nat) : Int).toNat).filterMap (fun t : Nat => some (PyData.tuple [.str r.1, .int (t : Int)])) = tabRow r := by
        rw [Int.toNat_natCast, List.filterMap_eq_map']; rfl
      have h2 : DtAll M.K H2 ws _ := h2
      rw [e] at h2
      have lw := h2.len
      rw [tabRow_len] at lw
      have k6 := kp_upd (o' := .lst (us ++ ws)) (s2 _ _ hl1) (fun _ e => nomatch e) (fun _ _ e => nomatch e)
      refine ⟨p, _, _, rfl, s2 _ _ hl1, g2, by omega, ?_⟩
      refine ⟨_, _, rfl, same_mut (s.trans s2) n0, upd_same, ?_⟩
      rw [tabPl_snoc hr]
      exact (hu.mono ((tp_same s2).trans k6.t)).app (h2.mono k6.t)
  · rintro σ' H' ⟨us, v, rfl, s, hl1, hu⟩
    rw [hle, List.take_length] at hu
    tm_at "go"
    exact k _ _ _ s n0 hl1 hu
end K

namespace K
open PySem PySem.Spec PyProof.Rows L2 G
variable {M : Md}
def gPl : PyData → Option PyData
  | .tuple [.str s, .int z, _, _, _, _, _] => if z = 0 then some (.str s) else none
  | _ => none
def gTb : PyData → Option PyData
  | .tuple [.str s, .int z, _, _, _, _, _] => if z > 0 then some (.str s) else none
  | _ => none
theorem gPl_row (r : Row) : gPl (rowD r) = if (r.2.1 : Int) = 0 then some (.str r.1) else none := rfl
theorem gTb_row (r : Row) : gTb (rowD r) = if (r.2.1 : Int) > 0 then some (.str r.1) else none := rfl
theorem nm_gd {rs : List Row} (R : RowsG rs) : ∀ d ∈ (rs.map rowD).filterMap gPl ++ tabPl rs, Gd 1 243 d := by
  intro d hd
  rcases List.mem_append.mp hd with h | h
  · obtain ⟨y, hy, e⟩ := List.mem_filterMap.mp h
    obtain ⟨r, hr, rfl⟩ := List.mem_map.mp hy
    rw [gPl_row] at e
    split at e
    · cases e
      exact (gd_str (R.nm r hr).1 (R.nm r hr).2.1).up (by decide) (by decide)
    · cases e
  · obtain ⟨r, hr, h2⟩ := List.mem_flatMap.mp h
    obtain ⟨k, hk, rfl⟩ := List.mem_map.mp h2
    have hk := List.mem_range.mp hk
    have h3 := (R.nm r hr).2.2
    refine (gd_mk (m := 0) (k := 93) (c := 2) (fun d hd => ?_) (by simp)).up (by decide) (by decide)
    simp only [List.mem_cons, List.not_mem_nil, or_false] at hd
    rcases hd with rfl | rfl
    · exact (gd_str (R.nm r hr).1 (R.nm r hr).2.1).up (by decide) (by decide)
    · exact (gd_int (by omega)).up (by decide) (by decide)
theorem nm_pos {rs : List Row} (R : RowsG rs) : 0 < ((rs.map rowD).filterMap gPl ++ tabPl rs).length := by
  obtain ⟨r, hr, h0⟩ := List.any_eq_true.mp R.pl
  have h0 : r.2.1 = 0 := by simpa using h0
  have : PyData.str r.1 ∈ (rs.map rowD).filterMap gPl := List.mem_filterMap.mpr ⟨rowD r, List.mem_map.mpr ⟨r, hr, rfl⟩, by rw [gPl_row, if_pos (by omega)]⟩
  have h2 := List.length_pos_of_mem this
  rw [List.length_append]
  omega
def prePart : List PyData → Prop := fun ds => ∃ (rs : List Row) (at0 many : Int), ds = [cellsD rs, .int at0, .int many] ∧ RowsG rs ∧ 0 ≤ at0 ∧ at0 < many ∧ many ≤ 9
def rIns : List PyData → PyData → Prop := fun _ d => Gd 2 1248 d
theorem gd5 {ds : List PyData} (h : ∀ d ∈ ds, Gd 1 243 d) (hl : ds.length ≤ 5) : Gd 2 1248 (.tuple ds) := gd_mk h hl
theorem gi {i : Int} (h0 : -1000 ≤ i) (h1 : i ≤ 1000) : Gd 1 243 (.int i) := (gd_int (by omega)).up (by decide) (by decide)
theorem gs {s : Str} (h : PyData.strOk s = true) (hl : s.length ≤ 20) : Gd 1 243 (.str s) := (gd_str h hl).up (by decide) (by decide)
theorem all2 {P : PyData → Prop} {a b : PyData} (ha : P a) (hb : P b) : ∀ d ∈ [a, b], P d := by simp [ha, hb]
theorem all3 {P : PyData → Prop} {a b c : PyData} (ha : P a) (hb : P b) (hc : P c) : ∀ d ∈ [a, b, c], P d := by simp [ha, hb, hc]
theorem all4 {P : PyData → Prop} {a b c d : PyData} (ha : P a) (hb : P b) (hc : P c) (hd : P d) : ∀ e ∈ [a, b, c, d], P e := by simp [ha, hb, hc, hd]
theorem all5 {P : PyData → Prop} {a b c d e : PyData} (ha : P a) (hb : P b) (hc : P c) (hd : P d) (he : P e) : ∀ x ∈ [a, b, c, d, e], P x := by simp [ha, hb, hc, hd, he]
local macro_rules | `(tactic| tm_at "mk") => `(tactic| repeat (first | (refine gRE ?_; refine e_tupD ?_) | tm_at "s" | (refine gRB ?_; first | refine b_one ?_ | refine b_cons ?_) | (refine tupend (by tm_at "dts") (Nat.le_of_ble_eq_true rfl) fun v H s h => ?_)))
set_option maxHeartbeats 4000000 in
theorem ok_part {f fd} (F : Fun M.K "_law_part" "_law_part" s__law_part f fd) (b : Bl M) (dn : dcNext M) (dt : Dc M "_law_table_places" ["_law_rows_here"] 1 (spL rTab M.K)) :
    FnG M.prog M.w M.K M.mg M.base CX0 2 f fd ["_law_source_here", "_law_rows_here", "_law_at", "_law_many"] (spD 6 prePart rIns M.K) := by
  refine fn_ok F sc__law_part (spD_len (n := 3) (by rintro ds ⟨rs, a, m, rfl, _⟩; rfl)) (fun H vs Q E h => ?_)
  obtain ⟨fp, cl, rest, ds, n, rfl, hf, hn, hds, ⟨rs, at0, many, rfl, R, p0, p1, p9⟩, k⟩ := h
  obtain _ | ⟨hc, hds⟩ := hds
  obtain _ | ⟨ha, hds⟩ := hds
  obtain _ | ⟨hm, hds⟩ := hds
  cases hds
  cases ha
  cases hm
  rename_i vc
  -- the names
  refine b_cut (fun σ1 H1 => ∃ l us, σ1 = [some (.ref fp), some vc, some (.int at0), some (.int many), some (.ref l), none, none, none, none, none, none, none] ∧ Same H H1 ∧ H l = none ∧ H1 l = some (.lst us) ∧ DtAll M.K H1 us ((rs.map rowD).filterMap gPl ++ tabPl rs)) ?_ ?_
  · tm_at "go"
    refine e_lc (own := [("_law_row", 11)]) (Blk.of (N := N__law_part) (sc := defScope s__law_part) rfl rfl (by decide +kernel)) ?_
    refine lcT_F gPl ?_
    tm_at "go"
    refine ⟨rs.map rowD, hc, by rw [List.length_map]; have := R.len; omega, fun d v H' hm s3 hv => ?_, fun p us H3 s3 n3 g3 h3 => ?_⟩
    · obtain ⟨r, hr, rfl⟩ := List.mem_map.mp hm
      refine g_name (by tm_at "at") ⟨rfl, rfl, ts_one ?_⟩
      tm_at "go"
      rw [gPl_row]
      refine ⟨Same.refl _, ifd (fun c => ?_) (fun c => ?_)⟩
      · tm_at "go"
        exact ⟨Same.refl _, _, if_pos c, .str _⟩
      · exact if_neg c
    · refine e_callL dt ?_
      tm_at "go"
      refine ⟨_, _, .cons (hc.mono (tp_same s3)) .nil, ⟨rs, rfl, R, rfl⟩, fun l us2 H4 s4 n4 g4 h4 => ?_⟩
      have l1 := h3.len
      have l2 := h4.len
      have l3 := tabPl_le (rs := rs) fun q hq => (R.nm q hq).2.2
      have l4 : ((rs.map rowD).filterMap gPl).length ≤ rs.length := Nat.le_trans (List.length_filterMap_le ..) (by rw [List.length_map]; exact Nat.le_refl _)
      have l5 := R.len
      refine ro_cat (s4 _ _ g3) g4 (by omega) fun l6 H6 s6 n6 g6 => ?_
      exact ⟨l6, _, rfl, s3.trans (s4.trans s6), same_none (s3.trans s4) n6, g6, (h3.mono (tp_same (s4.trans s6))).app (h4.mono (tp_same s6))⟩
  rintro _ H1 ⟨l, us, rfl, s1, n1, g1, h1⟩
  -- the tables
  refine b_cut (fun σ1 H2 => ∃ l2 us2, σ1 = [some (.ref fp), some vc, some (.int at0), some (.int many), some (.ref l), some (.ref l2), none, none, none, none, none, none] ∧ Same H1 H2 ∧ H1 l2 = none ∧ H2 l2 = some (.lst us2) ∧ DtAll M.K H2 us2 ((rs.map rowD).filterMap gTb)) ?_ ?_
  · refine s_setLc (own := [("_law_row", 11)]) (by tm_at "at") (Blk.of (N := N__law_part) (sc := defScope s__law_part) rfl rfl (by decide +kernel)) ?_
    refine lcT_F gTb ?_
    tm_at "go"
    refine ⟨rs.map rowD, hc.mono (tp_same s1), by rw [List.length_map]; have := R.len; omega, fun d v H' hm s3 hv => ?_, fun p us H3 s3 n3 g3 h3 => ?_⟩
    · obtain ⟨r, hr, rfl⟩ := List.mem_map.mp hm
      refine g_name (by tm_at "at") ⟨rfl, rfl, ts_one ?_⟩
      tm_at "go"
      rw [gTb_row]
      refine ⟨Same.refl _, ifd (fun c => ?_) (fun c => ?_)⟩
      · tm_at "go"
        exact ⟨Same.refl _, _, if_pos c, .str _⟩
      · exact if_neg c
    · exact ⟨p, us, rfl, s3, n3, g3, h3⟩
  rintro _ H2 ⟨l2, us2, rfl, s2, n2, g2, h2⟩
  have s02 := s1.trans s2
  have nl : l ≠ fp := ne_feed hf (Same.refl _) n1
  have nl2 : l2 ≠ fp := ne_feed (hf.same s1) (Same.refl _) n2
  refine b_cut (fun σ1 H3 => ∃ way r s : Int, σ1 = [some (.ref fp), some vc, some (.int at0), some (.int many), some (.ref l), some (.ref l2), some (.int way), some (.int r), some (.int s), none, none, none] ∧ Kp fp H2 H3 ∧ Feed M.K H3 fp cl (n + 1 + 1 + 1) ∧ (0 ≤ way ∧ way < 12) ∧ (0 ≤ r ∧ r < 3) ∧ 0 ≤ s ∧ s < 3) ?_ ?_
  · tm_at "go"
    refine e_draw dn ?_
    tm_at "go"
    refine ⟨fp, cl, n, 12, rfl, rfl, hf.same s02, by omega, ⟨by decide, by decide⟩, fun way H3 w0 w1 k3 f3 => ?_⟩
    refine e_draw dn ?_
    tm_at "go"
    refine ⟨fp, cl, n + 1, 3, rfl, rfl, f3, by omega, ⟨by decide, by decide⟩, fun r H4 r0 r1 k4 f4 => ?_⟩
    refine e_draw dn ?_
    tm_at "go"
    refine ⟨fp, cl, n + 1 + 1, 3, rfl, rfl, f4, by omega, ⟨by decide, by decide⟩, fun s H5 q0 q1 k5 f5 => ?_⟩
    exact ⟨way, r, s, rfl, k3.trans (k4.trans k5), f5, ⟨w0, w1⟩, ⟨r0, r1⟩, q0, q1⟩
  rintro _ H3 ⟨way, r, s, rfl, k3, f3, ⟨w0, w1⟩, ⟨r0, r1⟩, q0, q1⟩
  have g3 := k3.k _ _ nl (s2 _ _ g1)
  have h3 := (h1.mono (tp_same s2)).mono k3.t
  have g23 := k3.k _ _ nl2 g2
  have h23 := h2.mono k3.t
  have k03 : Kp fp H H3 := (kp_same s02).trans k3
  have npos := nm_pos R
  have ngd := nm_gd R
  have nlen : ((rs.map rowD).filterMap gPl ++ tabPl rs).length ≤ 100 := by
    have l3 := tabPl_le (rs := rs) fun q hq => (R.nm q hq).2.2
    have l4 : ((rs.map rowD).filterMap gPl).length ≤ rs.length := Nat.le_trans (List.length_filterMap_le ..) (by rw [List.length_map]; exact Nat.le_refl _)
    have l5 := R.len
    rw [List.length_append]
    omega
  generalize (rs.map rowD).filterMap gPl ++ tabPl rs = nms at *
  -- a drawn name
  have pick : ∀ {σ : L2.St} {p p1 p2 p3 p4 p5 p6 p7 : Pos} {Q2 : VK}, σ[0]? = some (some (.ref fp)) → σ[4]? = some (some (.ref l)) → (∀ v d H4, Gd 1 243 d → Kp fp H3 H4 → Feed M.K H4 fp cl (n + 6) → Dt M.K H4 v d → Q2 v H4) →
      RE ⟨M, N__law_part, defScope s__law_part, 1, true, false, none⟩ (.Subscript (.Name "_law_names" p1) (.Call (.Name "_law_next" p2) [.Name "_law_source_here" p3, .Call (.Name "len" p4) [.Name "_law_names" p5] [] p6] [] p7) p) σ H3 Q2 := by
    intro σ p p1 p2 p3 p4 p5 p6 p7 Q2 e0 e4 kk
    refine e_ix (e_var (by tm_at "at") ?_ e4)
    refine e_draw dn (e_var (by tm_at "at") ?_ e0)
    refine e_callB (id := "len") b.len (by decide +kernel) (a_cons (e_var (by tm_at "at") (a_nil ?_) e4))
    refine rc_lenL (.of g3) ?_
    rw [h3.len]
    refine ⟨fp, cl, _, _, rfl, rfl, f3, by omega, ⟨by omega, by omega⟩, fun j H4 j0 j1 k4 f4 => ?_⟩
    exact rx_pick (.of (k4.k _ _ nl g3)) (h3.mono k4.t) j0 j1 fun v d hd hv => kk v d H4 (ngd d (List.mem_of_getElem? hd)) k4 (f4.up (by omega)) hv
  have done : ∀ v d H4, Gd 2 1248 d → Kp fp H3 H4 → Feed M.K H4 fp cl (n + 6) → Dt M.K H4 v d → Q v H4 := fun v d H4 gd k4 f4 hv => k d v H4 gd (k03.trans k4) f4 hv
  tm_at "go"
  refine ifd (fun c1 => ?_) (fun c1 => ?_)
  · tm_at "go"
    refine e_tupD ?_
    refine a_cons ?_
    refine e_str ?_
    refine a_cons ?_
    refine e_var (by tm_at "at") ?_
    refine a_cons ?_
    refine pick rfl rfl fun v d H4 gd4 k4 f4 hv => ?_
    tm_at "go"
    exact tupend (by tm_at "dts") (Nat.le_of_ble_eq_true rfl) fun v2 H5 s5 h5 => done _ _ _ (gd5 (all3 (gs (by decide +kernel) (Nat.le_of_ble_eq_true rfl)) (gi (by omega) (by omega)) gd4) (Nat.le_of_ble_eq_true rfl)) (k4.trans (kp_same s5)) (f4.same s5) h5
  tm_at "go"
  refine ifd (fun c2 => ?_) (fun c2 => ?_)
  · tm_at "go"
    refine e_tupD ?_
    refine a_cons ?_
    refine e_str ?_
    refine a_cons ?_
    refine pick rfl rfl fun v d H4 gd4 k4 f4 hv => ?_
    tm_at "go"
    exact tupend (by tm_at "dts") (Nat.le_of_ble_eq_true rfl) fun v2 H5 s5 h5 => done _ _ _ (gd5 (all3 (gs (by decide +kernel) (Nat.le_of_ble_eq_true rfl)) gd4 (gi (by omega) (by omega))) (Nat.le_of_ble_eq_true rfl)) (k4.trans (kp_same s5)) (f4.same s5) h5
  -- one of some tuples of small things
  have lst : ∀ {HX : Hp} {nx : Nat} (fx : Feed M.K HX fp cl nx) (lx : nx + 1 ≤ n + 6) (kx : Kp fp H3 HX) {σ : L2.St} {ts : List (List PyData)} {es : List Expr} {m : Int} {p1 p2 p3 p4 p5 p6 : Pos} {j0 : Nat} {Q2 : VK}, σ[0]? = some (some (.ref fp)) → m = ts.length → 0 < m ∧ m < 1000000 → (∀ ds ∈ ts, (∀ d ∈ ds, Gd 1 243 d) ∧ ds.length ≤ 5) →
      (∀ Q3 : List V → Hp → Prop, (∀ us H4, Same HX H4 → us.length ≤ 1000 → DtAll M.K H4 us (ts.map .tuple) → Q3 us H4) → RA ⟨M, N__law_part, defScope s__law_part, 1, true, false, none⟩ es σ HX Q3) → (∀ v d H4, Gd 2 1248 d → Kp fp H3 H4 → Feed M.K H4 fp cl (n + 6) → Dt M.K H4 v d → Q2 v H4) →
      RE ⟨M, N__law_part, defScope s__law_part, 1, true, false, none⟩ (.Subscript (.List es p1) (.Call (.Name "_law_next" p2) [.Name "_law_source_here" p3, .Constant (.int m) j0 p5] [] p6) p4) σ HX Q2 := by
    intro HX nx fx lx kx σ ts es m p1 p2 p3 p4 p5 p6 j0 Q2 e0 em hm hts hes kk
    refine e_ix ?_
    refine e_lstD ?_
    refine hes _ fun us H4 s4 lu hu => ?_
    refine ⟨lu, fun pl H5 s5 n5 g5 => ?_⟩
    refine e_draw dn (e_var (by tm_at "at") ?_ e0)
    refine e_int ?_
    refine ⟨fp, cl, _, _, rfl, rfl, fx.same (s4.trans s5), by omega, hm, fun j H6 j0 j1 k6 f6 => ?_⟩
    have npl : pl ≠ fp := ne_feed fx s4 n5
    refine rx_pick (.of (k6.k _ _ npl g5)) ((hu.mono (tp_same s5)).mono k6.t) j0 (by rw [List.length_map]; omega) fun v d hd hv => ?_
    rw [List.getElem?_map] at hd
    obtain ⟨ds, hds, rfl⟩ := Option.map_eq_some_iff.mp hd
    obtain ⟨a1, a2⟩ := hts ds (List.mem_of_getElem? hds)
    exact kk v _ H6 (gd5 a1 a2) (kx.trans ((kp_same (s4.trans s5)).trans k6)) (f6.up (by omega)) hv
  refine b_nil ?_
  refine b_cut (fun σ1 H4 => Same H3 H4 ∧ σ1 = [some (.ref fp), some vc, some (.int at0), some (.int many), some (.ref l), some (.ref l2), some (.int way), some (.int r), some (.int s), none, none, none]) ?_ ?_
  · tm_at "go"
    refine ifd (fun c3 => ?_) (fun c3 => ?_)
    · tm_at "go"
      refine e_lstD ?_
      tm_at "go"
      refine ⟨(Nat.le_of_ble_eq_true rfl), fun q9 H4 s4 n4 g4 => ?_⟩
      refine ro_neNil (n := 1) (s4 _ _ g23) (h23.mono (tp_same s4)) (fun d hd => ?_) (by decide) g4 ?_
      · obtain ⟨y, hy, e⟩ := List.mem_filterMap.mp hd
        obtain ⟨r, hr, rfl⟩ := List.mem_map.mp hy
        rw [gTb_row] at e
        split at e
        · cases e; exact shp_str (R.nm r hr).1
        · cases e
      refine ⟨_, rfl, ?_⟩
      have tgd : ∀ d ∈ (rs.map rowD).filterMap gTb, ∃ s0 : Str, d = .str s0 ∧ Gd 1 243 d := fun d hd => by
        obtain ⟨y, hy, e⟩ := List.mem_filterMap.mp hd
        obtain ⟨r, hr, rfl⟩ := List.mem_map.mp hy
        rw [gTb_row] at e
        split at e
        · cases e; exact ⟨_, rfl, gs (R.nm r hr).1 (by have := (R.nm r hr).2.1; omega)⟩
        · cases e
      generalize (rs.map rowD).filterMap gTb = tbs at *
      cases tbs with
      | nil =>
        refine iff0 ?_
        tm_at "go"
        exact ⟨s4, rfl⟩
      | cons d0 dt0 =>
        obtain ⟨s0, rfl, gs0⟩ := tgd d0 (List.mem_cons_self ..)
        obtain _ | ⟨hv0, hvs⟩ := h23
        cases hv0
        refine ift ?_
        refine b_one ?_
        refine s_ret ?_
        refine lst (f3.same s4) (by omega) (kp_same s4) (ts := [[.str "loadat", .int r, .str s0, .int s], [.str "storeat", .str s0, .int r, .int s]]) rfl rfl ⟨by decide, by decide⟩ (fun ds hds => ?_) (fun Q3 kk => ?_) (fun v d H5 g5 k5 f5 h5 => done v d H5 g5 k5 f5 h5)
        · simp only [List.mem_cons, List.not_mem_nil, or_false] at hds
          rcases hds with rfl | rfl
          · exact ⟨all4 (gs (by decide +kernel) (Nat.le_of_ble_eq_true rfl)) (gi (by omega) (by omega)) gs0 (gi (by omega) (by omega)), (Nat.le_of_ble_eq_true rfl)⟩
          · exact ⟨all4 (gs (by decide +kernel) (Nat.le_of_ble_eq_true rfl)) gs0 (gi (by omega) (by omega)) (gi (by omega) (by omega)), (Nat.le_of_ble_eq_true rfl)⟩
        · refine a_cons ?_
          refine e_tupD ?_
          tm_at "go"
          refine rx_list (.of (s4 _ _ g23)) (v := .str s0) (pl_at (j := 0) rfl rfl) ?_
          tm_at "go"
          refine tupend (by tm_at "dts") (Nat.le_of_ble_eq_true rfl) fun v5 H5 s5 h5 => ?_
          refine a_cons ?_
          refine e_tupD ?_
          tm_at "go"
          refine rx_list (.of (s5 _ _ (s4 _ _ g23))) (v := .str s0) (pl_at (j := 0) rfl rfl) ?_
          tm_at "go"
          refine tupend (by tm_at "dts") (Nat.le_of_ble_eq_true rfl) fun v6 H6 s6 h6 => ?_
          refine a_nil ?_
          exact kk _ _ (s5.trans s6) (Nat.le_of_ble_eq_true rfl) (.cons (h5.mono (tp_same s6)) (.cons h6 .nil))
    · tm_at "go"
      exact ⟨Same.refl _, rfl⟩
  rintro _ H4 ⟨s4, rfl⟩
  have f4 := f3.same s4
  have d4 : ∀ v d H5, Gd 2 1248 d → Kp fp H4 H5 → Feed M.K H5 fp cl (n + 6) → Dt M.K H5 v d → Q v H5 := fun v d H5 g5 k5 f5 h5 => done v d H5 g5 ((kp_same s4).trans k5) f5 h5
  tm_at "go"
  refine ifd (fun c5 => ?_) (fun c5 => ?_)
  · tm_at "go"
    refine e_tupD ?_
    tm_at "go"
    refine e_draw dn ?_
    tm_at "go"
    refine ⟨fp, cl, _, 4, rfl, rfl, f4, by omega, ⟨by decide, by decide⟩, fun j H5 j0 j1 k5 f5 => ?_⟩
    tm_at "go"
    exact tupend (by tm_at "dts") (Nat.le_of_ble_eq_true rfl) fun v2 H6 s6 h6 => d4 _ _ _ (gd5 (all3 (gs (by decide +kernel) (Nat.le_of_ble_eq_true rfl)) (gi (by omega) (by omega)) (gi (by omega) (by omega))) (Nat.le_of_ble_eq_true rfl)) (k5.trans (kp_same s6)) ((f5.same s6).up (by omega)) h6
  tm_at "go"
  refine ifd (fun c6 => ?_) (fun c6 => ?_)
  · tm_at "go"
    refine e_lstD ?_
    tm_at "go"
    refine ⟨(Nat.le_of_ble_eq_true rfl), fun pl H5 s5 n5 g5 => ?_⟩
    refine e_draw dn ?_
    tm_at "go"
    refine ⟨fp, cl, _, 10, rfl, rfl, f4.same s5, by omega, ⟨by decide, by decide⟩, fun j H6 j0 j1 k6 f6 => ?_⟩
    have npl : pl ≠ fp := ne_feed f4 (Same.refl _) n5
    refine rx_pick (ds := (["+", "-", "*", "least", "most", "=", "<", "<=", "div", "mod"] : List Str).map .str) (.of (k6.k _ _ npl g5)) (dtStrs ["+", "-", "*", "least", "most", "=", "<", "<=", "div", "mod"]) j0 (by show j < 10; exact j1) fun v d hd hv => ?_
    rw [List.getElem?_map] at hd
    obtain ⟨op, hop, rfl⟩ := Option.map_eq_some_iff.mp hd
    cases hv
    have gop : ∀ w ∈ (["+", "-", "*", "least", "most", "=", "<", "<=", "div", "mod"] : List Str), PyData.strOk w = true ∧ w.length ≤ 20 := by decide +kernel
    have go1 := gop op (List.mem_of_getElem? hop)
    refine b_cut (fun σ1 H7 => H7 = H6 ∧ ∃ op2 : Str, (PyData.strOk op2 = true ∧ op2.length ≤ 20) ∧ σ1 = [some (.ref fp), some vc, some (.int at0), some (.int many), some (.ref l), some (.ref l2), some (.int way), some (.int r), some (.int s), some (.str op2), none, none]) ?_ ?_
    · tm_at "go"
      refine ifd (fun c7 => ?_) (fun c7 => ?_)
      · tm_at "go"
        refine ifd (fun c8 => ?_) (fun c8 => ?_)
        · tm_at "go"
          exact ⟨rfl, "most", ⟨by decide +kernel, (Nat.le_of_ble_eq_true rfl)⟩, rfl⟩
        · tm_at "go"
          exact ⟨rfl, op, go1, rfl⟩
      · tm_at "go"
        exact ⟨rfl, op, go1, rfl⟩
    rintro _ _ ⟨rfl, op2, go2, rfl⟩
    tm_at "go"
    refine e_tupD ?_
    tm_at "go"
    refine e_draw dn ?_
    tm_at "go"
    refine ⟨fp, cl, _, 3, rfl, rfl, f6, by omega, ⟨by decide, by decide⟩, fun j2 H8 q2 q3 k8 f8 => ?_⟩
    tm_at "go"
    exact tupend (by tm_at "dts") (Nat.le_of_ble_eq_true rfl) fun v2 H9 s9 h9 => d4 _ _ _ (gd5 (all5 (gs (by decide +kernel) (Nat.le_of_ble_eq_true rfl)) (gs go2.1 go2.2) (gi (by omega) (by omega)) (gi (by omega) (by omega)) (gi (by omega) (by omega))) (Nat.le_of_ble_eq_true rfl)) (((kp_same s5).trans k6).trans (k8.trans (kp_same s9))) ((f8.same s9).up (by omega)) h9
  refine b_nil ?_
  tm_at "go"
  refine e_draw dn ?_
  tm_at "go"
  refine ⟨fp, cl, _, many - at0, rfl, rfl, f4, by omega, ⟨by omega, by omega⟩, fun j H5 j0 j1 k5 f5 => ?_⟩
  refine ro_add ?_
  refine b_one ?_
  refine s_ret ?_
  refine lst f5 (by omega) ((kp_same s4).trans k5) (ts := [[.str "unless", .int s, .int (at0 + 1 + j)], [.str "unless", .int r, .int (at0 + 1 + j)], [.str "jump", .int (at0 + 1 + j)], [.str "end"]]) rfl rfl ⟨by decide, by decide⟩ (fun ds hds => ?_) (fun Q3 kk => ?_) done
  · simp only [List.mem_cons, List.not_mem_nil, or_false] at hds
    rcases hds with rfl | rfl | rfl | rfl
    · exact ⟨all3 (gs (by decide +kernel) (Nat.le_of_ble_eq_true rfl)) (gi (by omega) (by omega)) (gi (by omega) (by omega)), (Nat.le_of_ble_eq_true rfl)⟩
    · exact ⟨all3 (gs (by decide +kernel) (Nat.le_of_ble_eq_true rfl)) (gi (by omega) (by omega)) (gi (by omega) (by omega)), (Nat.le_of_ble_eq_true rfl)⟩
    · exact ⟨all2 (gs (by decide +kernel) (Nat.le_of_ble_eq_true rfl)) (gi (by omega) (by omega)), (Nat.le_of_ble_eq_true rfl)⟩
    · exact ⟨fun d hd => by rw [List.mem_singleton.mp hd]; exact gs (by decide +kernel) (Nat.le_of_ble_eq_true rfl), (Nat.le_of_ble_eq_true rfl)⟩
  · refine a_cons ?_
    refine e_tupD ?_
    tm_at "go"
    refine tupend (by tm_at "dts") (Nat.le_of_ble_eq_true rfl) fun v1 H6 s6 h6 => ?_
    refine a_cons ?_
    refine e_tupD ?_
    tm_at "go"
    refine tupend (by tm_at "dts") (Nat.le_of_ble_eq_true rfl) fun v2 H7 s7 h7 => ?_
    refine a_cons ?_
    refine e_tupD ?_
    tm_at "go"
    refine tupend (by tm_at "dts") (Nat.le_of_ble_eq_true rfl) fun v3 H8 s8 h8 => ?_
    refine a_cons ?_
    refine e_tupD ?_
    tm_at "go"
    refine tupend (by tm_at "dts") (Nat.le_of_ble_eq_true rfl) fun v4 H9 s9 h9 => ?_
    refine a_nil ?_
    exact kk _ _ (s6.trans (s7.trans (s8.trans s9))) (Nat.le_of_ble_eq_true rfl) (.cons (h6.mono (tp_same (s7.trans (s8.trans s9)))) (.cons (h7.mono (tp_same (s8.trans s9))) (.cons (h8.mono (tp_same s9)) (.cons h9 .nil))))
def preCode : List PyData → Prop := fun ds => ∃ rs : List Row, ds = [cellsD rs, .int 8] ∧ RowsG rs
def rCode : List PyData → PyData → Prop := fun _ d => ∃ ds, d = .tuple ds ∧ ds.length ≤ 8 ∧ ∀ x ∈ ds, Gd 2 1248 x
theorem ok_code {f fd} (F : Fun M.K "_law_code" "_law_code" s__law_code f fd) (b : Bl M) (dn : dcNext M) (dp : Dc M "_law_part" ["_law_source_here", "_law_rows_here", "_law_at", "_law_many"] 2 (spD 6 prePart rIns M.K)) :
    FnG M.prog M.w M.K M.mg M.base CX0 3 f fd ["_law_source_here", "_law_rows_here", "_law_most"] (spD 49 preCode rCode M.K) := by
  refine fn_ok F sc__law_code (spD_len (n := 2) (by rintro ds ⟨rs, rfl, _⟩; rfl)) (fun H vs Q E h => ?_)
  obtain ⟨fp, cl, rest, ds, n, rfl, hf, hn, hds, ⟨rs, rfl, R⟩, k⟩ := h
  obtain _ | ⟨hc, hds⟩ := hds
  obtain _ | ⟨hm, hds⟩ := hds
  cases hds
  cases hm
  rename_i vc
  tm_at "go"
  refine e_draw dn ?_
  tm_at "go"
  refine ⟨fp, cl, _, 8, rfl, rfl, hf, by omega, ⟨by decide, by decide⟩, fun j H1 j0 j1 k1 f1 => ?_⟩
  tm_at "go"
  refine e_lc (own := [("_law_at", 4)]) (Blk.of (N := N__law_code) (sc := defScope s__law_code) rfl rfl (by decide +kernel)) ?_
  refine lc_R1 b.range ?_
  tm_at "go"
  refine ⟨by omega, fun D hD => ?_⟩
  have nD : D ≠ fp := ne_feed f1 (Same.refl _) hD
  refine ⟨fun t acc H' => ∃ es : List PyData, acc.length ≤ t ∧ es.length = t ∧ Kp fp H H' ∧ Feed M.K H' fp cl (n + 1 + 6 * t) ∧ H' D = some (.lst acc) ∧ DtAll M.K H' acc es ∧ ∀ e ∈ es, Gd 2 1248 e, ?_, ?_, ?_, ?_⟩
  · exact ⟨[], Nat.le_refl _, rfl, kp_mut k1 (kp_none k1 hD nD), f1.upd nD (ne_cl f1 (Same.refl _) hD), upd_same, .nil, fun _ h => nomatch h⟩
  · rintro t acc H' ⟨es, h, _⟩
    exact h
  · rintro t acc H2 ht ⟨es, la, le, k2, f2, g2, h2, he⟩
    have ht' : t < 8 := by omega
    refine g_name (by tm_at "at") ⟨rfl, ts_nil (ift ?_)⟩
    refine e_callD dp ?_
    tm_at "go"
    refine ⟨fp, cl, _, _, _, rfl, f2, by omega, .cons (hc.mono k2.t) (.cons (.int _) (.cons (.int _) .nil)), ⟨rs, _, _, rfl, R, by omega, by omega, by omega⟩, fun d v H3 hd k3 f3 hv => ?_⟩
    have g3 := k3.k _ _ nD g2
    have ku := kp_upd (o' := .lst (acc ++ [v])) g3 (fun _ e => nomatch e) (fun _ _ e => nomatch e)
    refine ⟨g3, es ++ [d], by rw [List.length_append]; exact Nat.succ_le_succ la, by rw [List.length_append, le]; rfl, kp_mut (k2.trans k3) (kp_none k1 hD nD), (f3.upd nD (ne_cl f1 (Same.refl _) hD)).up (by omega), upd_same, (h2.mono (k3.t.trans ku.t)).app (.cons (hv.mono ku.t) .nil), fun e he' => ?_⟩
    rcases List.mem_append.mp he' with h | h
    · exact he e h
    · rw [List.mem_singleton.mp h]; exact hd
  · rintro acc H2 ⟨es, la, le, k2, f2, g2, h2, he⟩
    tm_at "go"
    refine rc_tupL (.of g2) h2 fun v3 H3 s3 h3 => ?_
    exact k _ _ _ ⟨es, rfl, by omega, he⟩ (k2.trans (kp_same s3)) ((f2.same s3).up (by omega)) h3
end K

namespace G
open PySem PySem.Spec PyProof.Rows L2
/-! ### t[::-1] of a tuple -/
theorem adj_back (n : Nat) : Builtin.Slice.sliceAdjust none none (-1) (n : Int) = ((n : Int) - 1, -1) := by
  unfold Builtin.Slice.sliceAdjust
  simp
theorem plc_back (n : Nat) : Builtin.Slice.slicePlaces ((n : Int) - 1) (-1) (-1) = n := by
  unfold Builtin.Slice.slicePlaces
  simp
  omega
theorem fm_congr {α β : Type} {f g : α → Option β} : ∀ {l : List α}, (∀ x ∈ l, f x = g x) → l.filterMap f = l.filterMap g
  | [], _ => rfl
  | x :: l, h => by rw [List.filterMap_cons, List.filterMap_cons, h x (List.mem_cons_self ..), fm_congr fun y hy => h y (List.mem_cons_of_mem _ hy)]
theorem pick_back (xs : Array Value) : ((List.range xs.size).filterMap fun (m : Nat) => xs[((xs.size : Int) - 1 + (m : Int) * (-1)).toNat]?) = xs.toList.reverse := by
  have e1 : ((List.range xs.size).filterMap fun (m : Nat) => xs[((xs.size : Int) - 1 + (m : Int) * (-1)).toNat]?) = (List.range xs.size).filterMap fun m => xs.toList.reverse[m]? := by
    refine fm_congr fun m hm => ?_
    have hlt := List.mem_range.mp hm
    rw [show ((xs.size : Int) - 1 + (m : Int) * (-1)).toNat = xs.size - 1 - m by omega, List.getElem?_reverse (by rw [Array.length_toList]; exact hlt), Array.length_toList, Array.getElem?_toList]
  have e2 : ∀ (l : List Value) (n : Nat), n = l.length → (List.range n).filterMap (fun m => l[m]?) = l := by
    intro l n h
    subst h
    refine List.ext_getElem? fun j => ?_
    have e3 : (List.range l.length).filterMap (fun m => l[m]?) = (List.range l.length).map fun m => l.getD m .none := by
      rw [← List.filterMap_eq_map]
      refine fm_congr fun m hm => ?_
      have hlt := List.mem_range.mp hm
      simp [List.getD, List.getElem?_eq_getElem hlt]
    rw [e3, List.getElem?_map]
    by_cases hj : j < l.length
    · rw [List.getElem?_range hj]
      simp [List.getD, List.getElem?_eq_getElem hj]
    · rw [List.getElem?_eq_none (by rw [List.length_range]; omega), List.getElem?_eq_none (by omega)]
      rfl
  rw [e1]
  exact e2 _ _ (by rw [List.length_reverse, Array.length_toList])
section
variable {prog : Program} {w : World} {A : Around} {E : Value → Shared → Prop} {s : Shared}
theorem applied_back {b : Addr} {step : Value} {n : Nat} {Q : Int × Int × Nat → Shared → Prop} (at_ : s.heap.IsSliceOf b .none .none step) (p : IsPart step (some (-1))) (k : Q ((n : Int) - 1, -1, n) s) : wpAny (model prog w) A (Builtin.Slice.sliceApplied (.ref b) (pure (n : Int))) Q E s := by
  obtain ⟨o, g1, g2, g3⟩ := id at_
  unfold Builtin.Slice.sliceApplied Builtin.Slice.sliceFields
  refine wpAny_bind (wpAny_bind (wpAny_field g1 g3 (x := .none) rfl ?_))
  refine wpAny_bind (wpAny_field g1 g3 (x := .none) rfl ?_)
  refine wpAny_bind (wpAny_field g1 g3 (x := step) rfl (wpAny_pure ?_))
  refine wpAny_bind (HT.slicePart_ p ?_)
  show wpAny _ _ (if ((-1 : Int) == 0) = true then _ else _) _ _ s
  rw [if_neg (by decide)]
  refine wpAny_bind (slicePart_none ?_)
  refine wpAny_bind (slicePart_none ?_)
  refine wpAny_bind (wpAny_pure ?_)
  show wpAny _ _ (match Builtin.Slice.sliceAdjust none none (-1) (n : Int) with | (lo, hi) => pure (lo, (-1 : Int), Builtin.Slice.slicePlaces lo hi (-1))) _ _ s
  rw [adj_back]
  show wpAny _ _ (pure ((n : Int) - 1, (-1 : Int), Builtin.Slice.slicePlaces ((n : Int) - 1) (-1) (-1))) _ _ s
  rw [plc_back]
  exact wpAny_pure k
theorem getItem_back {t b : Addr} {items : Array Value} {step : Value} {Q : Value → Shared → Prop} (ht : IsTup s.heap t items) (at_ : s.heap.IsSliceOf b .none .none step) (p : IsPart step (some (-1)))
    (k : Q (.ref s.heap.objs.size) { s with heap := s.heap.push { cls := .type "tuple", data := .seq items.toList.reverse.toArray } }) (fits : items.size ≤ sizeLine) : wpAny (model prog w) A (getItem (.ref t) (.ref b)) Q E s := by
  have room : sizeOk (.seq items.toList.reverse.toArray) := by
    show items.toList.reverse.toArray.size ≤ sizeLine
    rw [List.size_toArray, List.length_reverse, Array.length_toList]
    exact fits
  obtain ⟨o, g1, g2, g3⟩ := id at_
  have kind : s.TypeIs (.ref b) "slice" := ⟨o, g1, g2⟩
  unfold getItem
  try with_reducible refine wpAny_holding ?_
  first | refine wpAny_bind (wpAny_pure ?_) | skip
  refine wpAny_bind (wpAny_sequenceKey ht.typeIs (by decide) ?_)
  refine wpAny_bind (wpAny_callSpecial?_slot (name := Str.ofString "__getitem__") ht.typeIs slot_tuple_getitem (wpAny_call_entry slot_tuple_getitem ht.typeIs entry_tuple_getitem ?_ (args_tuple_getitem _ _)))
  show wpAny _ _ (Builtin.Tuple.tupleItemsOf (.ref t) >>= _) _ _ s
  refine wpAny_bind (tupleItemsOf_ ht (wpAny_bind (wpAny_typeOf kind ?_)))
  rw [if_pos (by decide)]
  refine wpAny_bind (applied_back at_ p ?_)
  show wpAny _ _ (if (((items.size : Int) - 1) == 0 && (-1 : Int) == 1 && items.size == items.size) = true then _ else _) _ _ s
  rw [if_neg (by simp), pick_back]
  first
    | exact wpAny_bind (m := Builtin.Tuple.tupleExact _) (wpAny_newObj_type (wpAny_pure ⟨_, rfl, wpAny_pure k⟩) room)
    | exact wpAny_bind (m := Builtin.Tuple.tupleExact _) (wpAny_newObj_type (wpAny_bind (wpAny_pure (wpAny_pure ⟨_, rfl, wpAny_pure k⟩))) room)
    | exact wpAny_bind (wpAny_bind (m := Builtin.Tuple.tupleExact _) (wpAny_newObj_type (wpAny_pure (wpAny_pure ⟨_, rfl, wpAny_pure k⟩)) room))
    | exact wpAny_bind (wpAny_bind (m := Builtin.Tuple.tupleExact _) (wpAny_newObj_type (wpAny_pure ⟨_, rfl, wpAny_pure k⟩) room))
end
def tRevT (K : PySem.W.Frag) (te : TE) : TE := fun σ H Q => te σ H fun x H1 => ∃ a xs, x = .ref a ∧ SqT K H1 a xs ∧ ∀ p, H1 p = none → Q (.ref p) (upd H1 p (.tup xs.reverse))
theorem pe_revT {X : Cx} {e : Expr} {te : TE} {k : Nat} {p1 p2 p3 pos : Pos} (he : PE X e te) : PE X (.Subscript e (.Slice none none (some (.UnaryOp .USub (.Constant (.int 1) k p1) p2)) p3) pos) (tRevT X.K te) := by
  constructor
  intro pins st σ H Q J z
  refine Subscript_ (thn (he.run pins st σ H _ J z) fun v s1 ⟨x, H1, J1, r1, a, xs, ex, hx, q⟩ => ?_)
  subst ex
  obtain rfl : v = Value.ref a := r1
  have third : PO X (some (.UnaryOp .USub (.Constant (.int 1) k p1) p2)) (tPart (tUn (rU fun i => .int (-i)) (tC (.int 1)))) := po_some (pe_un un_neg pe_int)
  refine wpAny_Slice (thn (po_none.run pins s1 σ H1 (fun o H2 => o = none ∧ H2 = H1) J1 ⟨rfl, rfl⟩) fun vl s2 ⟨l, H2, J2, pl, el, e2⟩ => ?_)
  subst el e2
  cases pl
  refine thn (po_none.run pins s2 σ H2 (fun o H3 => o = none ∧ H3 = H2) J2 ⟨rfl, rfl⟩) fun vu s3 ⟨u, H3, J3, pu, eu, e3⟩ => ?_
  subst eu e3
  cases pu
  refine thn (third.run pins s3 σ H3 (fun o H4 => o = some (-1) ∧ H4 = H3) J3 ⟨1, rfl, -1, rfl, rfl, rfl⟩) fun vs s4 ⟨o, H4, J4, ps, eo, e4⟩ => ?_
  subst eo e4
  have J5 : Inv X pins σ H4 { s4 with heap := s4.heap.push { cls := .type "slice", data := .fields #[.none, .none, vs] } } := J4.kept (t' := s4.toks) fun b ob q => Heap.get?_push_of_some _ q
  obtain ⟨its, r, ht, hz⟩ := J5.tuple hx
  have same := r.length
  show wpAny (model X.prog X.w) X.A (subscriptTail e (.Slice none none (some (.UnaryOp .USub (.Constant (.int 1) k p1) p2)) p3) (.ref a) (.ref s4.heap.objs.size)) (EP X pins σ Q) X.xe { s4 with heap := s4.heap.push { cls := .type "slice", data := .fields #[.none, .none, vs] } }
  refine tail_any (ops := [.ref a, .ref s4.heap.objs.size]) ht.typeIs slot_tuple_getitem.lookup ?_ (by with_unfolding_all rfl)
  refine getItem_back ht (Heap.IsSliceOf.new _ .none .none vs) ps ?_ (by rw [List.size_toArray]; omega)
  refine ⟨.ref _, _, J5.laid (t' := s4.toks) (o := .tup xs.reverse) (fun b ob q => Heap.get?_push_of_some _ q) (Nat.le_refl _) ?_, rfl, q _ (J5.hok.fresh (Nat.le_refl _))⟩
  exact ⟨by rw [List.length_reverse]; exact hz, _, r.reverse, IsTup.new _ _⟩
theorem DtAll.rev {K : PySem.W.Frag} {H : Hp} : ∀ {ds : List PyData} {vs : List V}, DtAll K H vs ds → DtAll K H vs.reverse ds.reverse
  | [], _, h => by cases h; exact .nil
  | d :: ds, _, h => by
    cases h with
    | cons h1 h2 =>
      rw [List.reverse_cons, List.reverse_cons]
      exact (DtAll.rev h2).app (.cons h1 .nil)
theorem e_revT {c : Cd} {σ : L2.St} {H : Hp} {Q : VK} {e : Expr} {k : Nat} {p1 p2 p3 pos : Pos} (q : RE c e σ H fun x H1 => ∃ ds, Dt c.K H1 x (.tuple ds) ∧ ∀ v H2, Same H1 H2 → Dt c.K H2 v (.tuple ds.reverse) → Q v H2) : RE c (.Subscript e (.Slice none none (some (.UnaryOp .USub (.Constant (.int 1) k p1) p2)) p3) pos) σ H Q := by
  refine re_of (t := tRevT c.K (RE c e)) (fun X h => by rw [← h.K]; exact pe_revT (pe_re h)) (RE.mono (fun x H1 z => ?_) q)
  obtain ⟨ds, hx, z⟩ := z
  obtain ⟨a, xs, rfl, ht, hd⟩ := hx.tupE
  exact ⟨a, xs, rfl, ht, fun p hp => z _ _ (same_new hp) (.tup (.of upd_same) (hd.rev.mono (tp_same (same_new hp))))⟩
end G

namespace K
open PySem PySem.Spec PyProof.Rows L2 G
variable {M : Md}
section
variable {c : Cd} {σ : L2.St} {H : Hp} {Q : VK} {pos : Pos}
/-- what an expression gave is locked for good -/
theorem e_freeze {e : Expr} (q : RE c e σ H fun v H1 => ∃ l u, H1 l = some u ∧ Mut (some u) ∧ ∀ od, Q v (upd H1 l (.frz od u))) : RE c e σ H Q := by
  refine re_of (t := fun σ H Q => RE c e σ H fun v H1 => ∃ l u, H1 l = some u ∧ Mut (some u) ∧ ∀ od, Q v (upd H1 l (.frz od u))) (fun X h => ⟨fun pins s σ H Q I w => ?_⟩) q
  refine thn ((pe_re h).run pins s σ H _ I w) fun v s1 hv => ?_
  obtain ⟨x, H1, I1, r, l, u, hl, mu, k⟩ := hv
  obtain ⟨od, I2⟩ := I1.lock hl mu
  exact ⟨x, _, I2, r, k od⟩
theorem rc_str {i : Int} (h : i.natAbs.log2 < 1900) (q : Q (.str (Str.ofString (toString i))) H) : RC c (.type "str") [.int i] H Q :=
  rc_of (fun X h => call_str_int) ⟨i, rfl, by omega, q⟩
end
theorem strOk_of (s : String) : PyData.strOk (Str.ofString s) = true := by
  rw [Str.ofString_eq_toList]
  show (s.toList.map Char.toNat).toArray.all (· < 0x110000) = true
  rw [← Array.all_toList, List.all_eq_true]
  intro c hc
  obtain ⟨ch, _, rfl⟩ := List.mem_map.mp hc
  have := ch.valid
  refine decide_eq_true ?_
  rcases ch.valid with h | h
  · exact Nat.lt_trans h (by decide)
  · exact h.2
theorem log_up {i j : Int} {L : Nat} (hL : 0 < L) (h : i.natAbs.log2 < L) (hj : j.natAbs ≤ 2 * i.natAbs + 1) : j.natAbs.log2 < L + 2 ∧ j.natAbs.log2 ≤ i.natAbs.log2 + 2 := by
  have h1 : i.natAbs < 2 ^ (i.natAbs.log2 + 1) := Nat.lt_log2_self
  have h2 : j.natAbs < 2 ^ (i.natAbs.log2 + 3) := by
    have : 2 ^ (i.natAbs.log2 + 3) = 4 * 2 ^ (i.natAbs.log2 + 1) := by rw [Nat.pow_add, Nat.pow_add]; omega
    omega
  have h3 := PySem.Flt.log2_lt_of (Nat.succ_pos _) h2
  omega
def tl : PyData → Nat
  | .tuple ds => ds.length
  | _ => 0
def preBent (m : Nat) : List PyData → Prop := fun ds => ∃ x, ds = [x] ∧ GdL 1100 m 200000 x
def rBent (m : Nat) : List PyData → PyData → Prop := fun ds d => ∃ x, ds = [x] ∧ tl d ≤ tl x + 1 ∧ ∀ L n, 0 < L → L ≤ 1090 → GdL L m n x → GdL (L + 2) m (2 * n + 10100) d
abbrev dcBent (M : Md) (m : Nat) : Prop := Dc M "_law_bent" ["_law_source_here", "_law_value"] (m + 2) (spD (2 * m + 3) (preBent m) (rBent m) M.K)
theorem cutN {α : Type} (l : List α) (k : Nat) : G.cutD l none (some (k : Int)) = l.take k := by
  show (l.drop 0).take (HT.sIx l.length l.length (some (k : Int)) - 0) = _
  rw [HT.sIx_nat, List.drop_zero, Nat.sub_zero]
  by_cases h : k ≤ l.length
  · rw [Nat.min_eq_left h]
  · rw [Nat.min_eq_right (by omega), List.take_of_length_le (Nat.le_refl _), List.take_of_length_le (by omega)]
theorem cutM {α : Type} (l : List α) (k : Nat) : G.cutD l (some (k : Int)) none = l.drop k := by
  show (l.drop (HT.sIx l.length 0 (some (k : Int)))).take (l.length - HT.sIx l.length 0 (some (k : Int))) = _
  rw [HT.sIx_nat]
  by_cases h : k ≤ l.length
  · rw [Nat.min_eq_left h, List.take_of_length_le (by rw [List.length_drop]; exact Nat.le_refl _)]
  · rw [Nat.min_eq_right (by omega), List.drop_of_length_le (Nat.le_refl _), List.drop_of_length_le (by omega), List.take_nil]
theorem cut1 {α : Type} (l : List α) (k : Nat) : G.cutD l (some (k : Int)) (some ((k + 1 : Nat) : Int)) = (l.drop k).take 1 := by
  show (l.drop (HT.sIx l.length 0 (some (k : Int)))).take (HT.sIx l.length l.length (some ((k + 1 : Nat) : Int)) - HT.sIx l.length 0 (some (k : Int))) = _
  rw [HT.sIx_nat, HT.sIx_nat]
  by_cases h : k < l.length
  · rw [Nat.min_eq_left (by omega), Nat.min_eq_left (by omega)]
    congr 1
    omega
  · rw [Nat.min_eq_right (by omega), Nat.min_eq_right (by omega), List.drop_of_length_le (Nat.le_refl _), List.drop_of_length_le (by omega)]; simp
theorem wts_cut (l : List PyData) (k : Nat) : wts (l.take k) + wts (l.drop k) = wts l := by rw [← wts_app, List.take_append_drop]
theorem gdT {L m n : Nat} {ds : List PyData} (h : GdL L (m + 1) n (.tuple ds)) : (∀ d ∈ ds, gd L d = true) ∧ (∀ d ∈ ds, d.depth ≤ m) ∧ wts ds + 13 ≤ n := by
  have w := h.wt
  simp only [wt] at w
  have h2 : GdL L (m + 1) (wts ds + 13) (.tuple ds) := ⟨h.g, h.dep, by simp only [wt]; exact Nat.le_refl _⟩
  obtain ⟨a, b, _⟩ := gd_tup.mp h2
  exact ⟨a, b, by omega⟩
theorem gdTmk {L m n : Nat} {ds : List PyData} (h1 : ∀ d ∈ ds, gd L d = true) (h2 : ∀ d ∈ ds, d.depth ≤ m) (h3 : wts ds + 13 ≤ n) : GdL L (m + 1) n (.tuple ds) := (gd_tup.mpr ⟨h1, h2, Nat.le_refl _⟩).up (Nat.le_refl _) h3
theorem gdLmk {L m n : Nat} {ds : List PyData} (h1 : ∀ d ∈ ds, gd L d = true) (h2 : ∀ d ∈ ds, d.depth ≤ m) (h3 : wts ds + 13 ≤ n) : GdL L (m + 1) n (.list ds) := by
  obtain ⟨a, b, e⟩ := gdTmk h1 h2 h3
  exact ⟨by simpa only [gd] using a, by simpa only [PyData.depth] using b, by simpa only [wt] using e⟩
/-- parts of a tuple, put together anew -/
theorem rb_sub {j : Nat} {ds es : List PyData} (hm : ∀ e ∈ es, e ∈ ds) (hw : wts es ≤ 2 * wts ds + 50) (hl : es.length ≤ ds.length + 1) : tl (.tuple es) ≤ tl (.tuple ds) + 1 ∧ ∀ L n, 0 < L → L ≤ 1090 → GdL L (j + 1) n (.tuple ds) → GdL (L + 2) (j + 1) (2 * n + 10100) (.tuple es) := by
  refine ⟨hl, fun L n _ _ g => ?_⟩
  obtain ⟨a, b, w⟩ := gdT g
  exact (gdTmk (fun e he => a e (hm e he)) (fun e he => b e (hm e he)) (by omega)).lup (by omega)
theorem wts_rev : ∀ ds : List PyData, wts ds.reverse = wts ds
  | [] => rfl
  | d :: ds => by
    rw [List.reverse_cons, wts_app, wts_rev ds]
    simp only [wts]
    omega
theorem wts_drop (ds : List PyData) (k : Nat) : wts (ds.drop k) ≤ wts ds := by have := wts_cut ds k; omega
theorem wts_take (ds : List PyData) (k : Nat) : wts (ds.take k) ≤ wts ds := by have := wts_cut ds k; omega
theorem top_depth {m : Nat} {L n : Nat} {ds : List PyData} (h : GdL L m n (.tuple ds)) : ∃ j, m = j + 1 := by
  have := h.dep
  simp only [PyData.depth] at this
  exact ⟨m - 1, by omega⟩
set_option maxHeartbeats 4000000 in
theorem ok_bent (m : Nat) (hm60 : m ≤ 40) {f fd} (F : Fun M.K "_law_bent" "_law_bent" s__law_bent f fd) (b : Bl M) (dn : dcNext M) (ih : ∀ j, m = j + 1 → dcBent M j) :
    FnG M.prog M.w M.K M.mg M.base CX0 (m + 2) f fd ["_law_source_here", "_law_value"] (spD (2 * m + 3) (preBent m) (rBent m) M.K) := by
  refine fn_ok F sc__law_bent (spD_len (n := 1) (by rintro ds ⟨x, rfl, _⟩; rfl)) (fun H vs Q E h => ?_)
  obtain ⟨fp, cl, rest, ds, n, rfl, hf, hn, hds, ⟨x, rfl, gx⟩, k⟩ := h
  obtain _ | ⟨hx, hds⟩ := hds
  cases hds
  rename_i vx
  have k1 : ∀ {H1 v d}, Kp fp H H1 → Feed M.K H1 fp cl (n + (2 * m + 3)) → (tl d ≤ tl x + 1 ∧ ∀ L n, 0 < L → L ≤ 1090 → GdL L m n x → GdL (L + 2) m (2 * n + 10100) d) → Dt M.K H1 v d → Q v H1 := fun kk ff hd hv => k _ _ _ ⟨x, rfl, hd.1, hd.2⟩ kk ff hv
  have lk : 1 ≤ m + 1 := by omega
  -- one of a list's things
  have pickL : ∀ {HX : Hp} {nx : Nat} (fx : Feed M.K HX fp cl nx) (lx : nx + 1 ≤ n + (2 * m + 3)) (kx : Kp fp H HX) {σ : L2.St} {le : Expr} {m7 : Int} {es : List PyData} {p2 p3 p4 p5 p6 : Pos} {j0 : Nat}, σ[0]? = some (some (.ref fp)) → m7 = es.length → 0 < m7 ∧ m7 < 1000000 →
      (∀ d ∈ es, tl d ≤ tl x + 1 ∧ ∀ L n, 0 < L → L ≤ 1090 → GdL L m n x → GdL (L + 2) m (2 * n + 10100) d) →
      (∀ Q3 : VK, (∀ p us H4, Same HX H4 → p ≠ fp → H4 p = some (.lst us) → DtAll M.K H4 us es → Q3 (.ref p) H4) → RE ⟨M, N__law_bent, defScope s__law_bent, m + 1, true, false, none⟩ le σ HX Q3) →
      RE ⟨M, N__law_bent, defScope s__law_bent, m + 1, true, false, none⟩ (.Subscript le (.Call (.Name "_law_next" p2) [.Name "_law_source_here" p3, .Constant (.int m7) j0 p5] [] p6) p4) σ HX Q := by
    intro HX nx fx lx kx σ le m7 es p2 p3 p4 p5 p6 j0 e0 em hm hes hle
    refine e_ix ?_
    refine hle _ fun pl us H4 s4 npl g4 h4 => ?_
    refine e_draw dn (e_var (by tm_at "at") ?_ e0) lk
    refine e_int ?_
    refine ⟨fp, cl, _, _, rfl, rfl, fx.same s4, by omega, hm, fun j H6 j0 j1 k6 f6 => ?_⟩
    refine rx_pick (.of (k6.k _ _ npl g4)) (h4.mono k6.t) j0 (by omega) fun v d hd hv => ?_
    exact k1 (kx.trans ((kp_same s4).trans k6)) (f6.up (by omega)) (hes d (List.mem_of_getElem? hd)) hv
  refine b_cut (fun σ1 H1 => σ1 = [some (.ref fp), some vx, none, none] ∧ Kp fp H H1 ∧ Feed M.K H1 fp cl (n + 1)) ?_ ?_
  · tm_at "go"
    refine t_val ?_
    tm_at "go"
    refine rc_isTup hx ?_
    refine ⟨_, rfl, ?_⟩
    cases hs : isTup x with
    | false =>
      refine iff0 ?_
      tm_at "go"
      exact ⟨rfl, Kp.refl _ _, hf.up (by omega)⟩
    | true =>
      obtain ⟨ds, rfl⟩ : ∃ s, x = .tuple s := by cases x <;> first | exact ⟨_, rfl⟩ | cases hs
      obtain ⟨j, rfl⟩ := top_depth gx
      obtain ⟨ga, gb, gw⟩ := gdT gx
      have gl := wts_len ds
      refine ift ?_
      tm_at "go"
      refine e_tupD ?_
      tm_at "go"
      refine tupend (ds := []) .nil (Nat.le_of_ble_eq_true rfl) fun v1 H1 s1 h1 => ?_
      refine ro_neD (hx.mono (tp_same s1)).dp h1.dp (gx.shaped (by omega)) (by decide) ?_
      rw [eqv_nil]
      refine ⟨_, rfl, ?_⟩
      cases ds with
      | nil =>
        refine iff0 ?_
        tm_at "go"
        exact ⟨rfl, kp_same s1, (hf.same s1).up (by omega)⟩
      | cons d0 ds =>
        refine ift ?_
        tm_at "go"
        refine e_draw dn ?_ lk
        tm_at "go"
        refine ⟨fp, cl, n, 6, rfl, rfl, hf.same s1, by omega, ⟨by decide, by decide⟩, fun r H2 r0 r1 k2 f2 => ?_⟩
        have k02 : Kp fp H H2 := (kp_same s1).trans k2
        tm_at "go"
        refine ifd (fun c1 => ?_) (fun c1 => ?_)
        · have hx2 := hx.mono k02.t
          generalize hds : d0 :: ds = xs at *
          have lpos : 0 < xs.length := by rw [← hds]; exact Nat.succ_pos _
          tm_at "go"
          refine e_draw dn ?_ lk
          tm_at "go"
          refine rc_lenT hx2 ?_
          refine ⟨fp, cl, n + 1, _, rfl, rfl, f2, by omega, ⟨by omega, by omega⟩, fun kk H3 q0 q1 k3 f3 => ?_⟩
          obtain ⟨kn, rfl⟩ := Int.eq_ofNat_of_zero_le q0
          have hkn : kn < xs.length := by omega
          have hx3 := hx2.mono k3.t
          tm_at "go"
          refine rsl_tup hx3 fun v4 H4 s4 h4 => ?_
          refine e_tupD ?_
          tm_at "go"
          refine e_callD (ih j rfl) ?_ (Nat.le_refl _)
          tm_at "go"
          refine rx_pickT (hx3.mono (tp_same s4)) (by omega) (by omega) fun v5 d5 hd5 h5 => ?_
          rw [show ((kn : Nat) : Int).toNat = kn from rfl] at hd5
          have dm : d5 ∈ xs := List.mem_of_getElem? hd5
          have g5 : GdL 1100 j 200000 d5 := ⟨ga d5 dm, gb d5 dm, by have := wts_mem dm; omega⟩
          tm_at "go"
          refine ⟨fp, cl, _, _, n + 1 + 1, rfl, f3.same s4, by omega, .cons h5 .nil, ⟨d5, rfl, g5⟩, fun d6 v6 H6 hr k6 f6 h6 => ?_⟩
          obtain ⟨x5, e5, t5, r5⟩ := hr
          cases e5
          tm_at "go"
          refine tupend (.cons h6 .nil) (Nat.le_of_ble_eq_true rfl) fun v7 H7 s7 h7 => ?_
          have h47 := (h4.mono k6.t).mono (tp_same s7)
          rw [cutN] at h47
          refine ro_catT h47 h7 (by rw [List.length_take]; have := wts_len xs; simp only [List.length_singleton]; omega) fun v8 H8 s8 h8 => ?_
          tm_at "go"
          have hx8 := ((hx3.mono (tp_same s4)).mono k6.t).mono (tp_same (s7.trans s8))
          refine rsl_tup hx8 fun v9 H9 s9 h9 => ?_
          have e1 : ((kn : Int) + 1) = ((kn + 1 : Nat) : Int) := by omega
          rw [e1, cutM] at h9
          refine ro_catT (h8.mono (tp_same s9)) h9 (by rw [List.length_append, List.length_take, List.length_drop]; have := wts_len xs; simp only [List.length_singleton]; omega) fun v10 H10 s10 h10 => ?_
          refine k1 (k02.trans (k3.trans ((kp_same s4).trans (k6.trans (kp_same (s7.trans (s8.trans (s9.trans s10)))))))) ((f6.same (s7.trans (s8.trans (s9.trans s10)))).up (by omega)) ⟨?_, fun L n' hL hL2 g => ?_⟩ h10
          · show (xs.take kn ++ [d6] ++ xs.drop (kn + 1)).length ≤ xs.length + 1
            rw [List.length_append, List.length_append, List.length_take, List.length_drop, List.length_singleton]
            omega
          · obtain ⟨a, b', w⟩ := gdT g
            have w5 : GdL L j (K.wt d5) d5 := ⟨a d5 dm, b' d5 dm, Nat.le_refl _⟩
            have r6 := r5 L _ hL hL2 w5
            have ed : xs.drop kn = d5 :: xs.drop (kn + 1) := by
              obtain ⟨h1, h2⟩ := List.getElem?_eq_some_iff.mp hd5
              rw [← h2]; exact List.drop_eq_getElem_cons h1
            have wc := wts_cut xs kn
            rw [ed] at wc
            simp only [wts] at wc
            refine gdTmk (fun e he => ?_) (fun e he => ?_) ?_
            · rcases List.mem_append.mp he with he | he
              · rcases List.mem_append.mp he with he | he
                · exact gd_mono (by omega) e (a e (List.mem_of_mem_take he))
                · rw [List.mem_singleton.mp he]; exact r6.g
              · exact gd_mono (by omega) e (a e (List.mem_of_mem_drop he))
            · rcases List.mem_append.mp he with he | he
              · rcases List.mem_append.mp he with he | he
                · exact b' e (List.mem_of_mem_take he)
                · rw [List.mem_singleton.mp he]; exact r6.dep
              · exact b' e (List.mem_of_mem_drop he)
            · rw [wts_app, wts_app]
              have := r6.wt
              simp only [wts]
              omega
        · tm_at "go"
          exact ⟨rfl, k02, f2⟩
  rintro _ H1 ⟨rfl, k01, f1⟩
  have hx1 := hx.mono k01.t
  refine b_cut (fun σ1 H2 => σ1 = [some (.ref fp), some vx, none, none] ∧ Kp fp H H2 ∧ Feed M.K H2 fp cl (n + 1) ∧ isTup x = false) ?_ ?_
  · tm_at "go"
    refine t_val ?_
    tm_at "go"
    refine rc_isTup hx1 ?_
    refine ⟨_, rfl, ?_⟩
    cases hs : isTup x with
    | false =>
      refine iff0 ?_
      tm_at "go"
      exact ⟨rfl, k01, f1, rfl⟩
    | true =>
      obtain ⟨ds, rfl⟩ : ∃ s, x = .tuple s := by cases x <;> first | exact ⟨_, rfl⟩ | cases hs
      obtain ⟨j, rfl⟩ := top_depth gx
      obtain ⟨ga, gb, gw⟩ := gdT gx
      have gl := wts_len ds
      refine ift ?_
      tm_at "go"
      refine e_draw dn ?_ lk
      tm_at "go"
      refine rc_lenT hx1 ?_
      tm_at "go"
      refine ⟨fp, cl, n + 1, _, rfl, rfl, f1, by omega, ⟨by omega, by omega⟩, fun kk H2 q0 q1 k2 f2 => ?_⟩
      obtain ⟨kn, rfl⟩ := Int.eq_ofNat_of_zero_le q0
      have hkn : kn ≤ ds.length := by omega
      have hx2 := hx1.mono k2.t
      have e1 : ((kn : Int) + 1) = ((kn + 1 : Nat) : Int) := by omega
      have k12 := k01.trans k2
      refine b_cons ?_
      refine s_set (by tm_at "at") ?_
      refine e_lstD ?_
      -- without one
      refine a_cons ?_
      tm_at "go"
      refine rsl_tup hx2 fun v3 H3 s3 h3 => ?_
      rw [cutN] at h3
      tm_at "go"
      refine rsl_tup (hx2.mono (tp_same s3)) fun v4 H4 s4 h4 => ?_
      rw [e1, cutM] at h4
      refine ro_catT (h3.mono (tp_same s4)) h4 (by rw [List.length_take, List.length_drop]; omega) fun v5 H5 s5 h5 => ?_
      have hx5 := hx2.mono (tp_same (s3.trans (s4.trans s5)))
      -- one twice
      tm_at "go"
      refine rsl_tup hx5 fun v6 H6 s6 h6 => ?_
      rw [cutN] at h6
      tm_at "go"
      refine rsl_tup (hx5.mono (tp_same s6)) fun v7 H7 s7 h7 => ?_
      rw [e1, cut1] at h7
      refine ro_catT (h6.mono (tp_same s7)) h7 (by rw [List.length_take, List.length_take, List.length_drop]; omega) fun v8 H8 s8 h8 => ?_
      tm_at "go"
      refine rsl_tup (hx5.mono (tp_same (s6.trans (s7.trans s8)))) fun v9 H9 s9 h9 => ?_
      rw [cutM] at h9
      refine ro_catT (h8.mono (tp_same s9)) h9 (by rw [List.length_append, List.length_take, List.length_take, List.length_drop]; omega) fun v10 H10 s10 h10 => ?_
      have s610 := s6.trans (s7.trans (s8.trans (s9.trans s10)))
      have hx10 := hx5.mono (tp_same s610)
      -- a list
      refine a_cons ?_
      refine e_freeze ?_
      tm_at "go"
      refine rc_lstT hx10 fun l11 ys H11 s11 n11 g11 h11 => ?_
      refine ⟨l11, _, g11, True.intro, fun od => ?_⟩
      have s12 : Same H10 (upd H11 l11 (.frz od (.lst ys))) := same_mut s11 n11
      have kfz := kp_upd (o' := .frz od (.lst ys)) g11 (fun _ e => nomatch e) (fun _ _ e => nomatch e)
      have h12 : Dt M.K (upd H11 l11 (.frz od (.lst ys))) (.ref l11) (.list ds) := .lst upd_same (h11.mono kfz.t)
      generalize upd H11 l11 (.frz od (.lst ys)) = H12 at *
      -- turned
      refine a_cons ?_
      refine e_revT ?_
      tm_at "go"
      refine ⟨ds, hx10.mono (tp_same s12), fun v13 H13 s13 h13 => ?_⟩
      refine a_nil ⟨(Nat.le_of_ble_eq_true rfl), fun pl H14 s14 n14 g14 => ?_⟩
      have s514 := s610.trans (s12.trans (s13.trans s14))
      have d5 := h5.mono (tp_same s514)
      have d10 := h10.mono (tp_same (s12.trans (s13.trans s14)))
      have d12 := h12.mono (tp_same (s13.trans s14))
      have d13 := h13.mono (tp_same s14)
      have s214 := (s3.trans (s4.trans s5)).trans s514
      have k014 := k12.trans (kp_same s214)
      have f14 := f2.same s214
      have hx14 := hx2.mono (tp_same s214)
      refine b_one ?_
      refine s_ret ?_
      refine pickL f14 (by omega) k014 (es := [.tuple (ds.take kn ++ ds.drop (kn + 1)), .tuple (ds.take kn ++ (ds.drop kn).take 1 ++ ds.drop kn), .list ds, .tuple ds.reverse, .tuple [], .tuple (ds ++ [.str "a"]), .none]) rfl rfl ⟨by decide, by decide⟩ (fun d hd => ?_) (fun Q3 kk => ?_)
      · have wc := wts_cut ds kn
        have w2 := wts_cut (ds.drop kn) 1
        rw [List.drop_drop] at w2
        simp only [List.mem_cons, List.not_mem_nil, or_false] at hd
        rcases hd with rfl | rfl | rfl | rfl | rfl | rfl | rfl
        · refine rb_sub (fun e he => ?_) ?_ ?_
          · rcases List.mem_append.mp he with he | he
            · exact List.mem_of_mem_take he
            · exact List.mem_of_mem_drop he
          · rw [wts_app]; omega
          · rw [List.length_append, List.length_take, List.length_drop]; omega
        · refine rb_sub (fun e he => ?_) ?_ ?_
          · rcases List.mem_append.mp he with he | he
            · rcases List.mem_append.mp he with he | he
              · exact List.mem_of_mem_take he
              · exact List.mem_of_mem_drop (List.mem_of_mem_take he)
            · exact List.mem_of_mem_drop he
          · rw [wts_app, wts_app]; omega
          · rw [List.length_append, List.length_append, List.length_take, List.length_take, List.length_drop]; omega
        · refine ⟨Nat.zero_le _, fun L n' _ _ g => ?_⟩
          obtain ⟨a, b', w⟩ := gdT g
          exact (gdLmk a b' (by omega)).lup (by omega)
        · exact rb_sub (fun e he => List.mem_reverse.mp he) (by rw [wts_rev]; omega) (by rw [List.length_reverse]; omega)
        · exact rb_sub (fun e he => nomatch he) (by simp only [wts]; omega) (by simp)
        · refine ⟨by show (ds ++ [PyData.str "a"]).length ≤ ds.length + 1; simp, fun L n' _ _ g => ?_⟩
          obtain ⟨a, b', w⟩ := gdT g
          refine gdTmk (fun e he => ?_) (fun e he => ?_) ?_
          · rcases List.mem_append.mp he with he | he
            · exact gd_mono (by omega) e (a e he)
            · rw [List.mem_singleton.mp he]; simp only [gd]; decide +kernel
          · rcases List.mem_append.mp he with he | he
            · exact b' e he
            · rw [List.mem_singleton.mp he]; simp only [PyData.depth]; omega
          · rw [wts_app]
            have : wts [PyData.str "a"] = 27 := by simp only [wts, wt]; decide +kernel
            omega
        · refine ⟨Nat.zero_le _, fun L n' _ _ g => ?_⟩
          obtain ⟨a, b', w⟩ := gdT g
          exact ⟨by simp only [gd], by simp only [PyData.depth]; omega, by simp only [wt]; omega⟩
      · refine e_bin ?_
        refine e_var (by tm_at "at") ?_
        refine e_lstD ?_
        refine a_cons ?_
        refine e_tupD ?_
        tm_at "go"
        refine tupend (ds := []) .nil (Nat.le_of_ble_eq_true rfl) fun v15 H15 s15 h15 => ?_
        refine a_cons ?_
        refine e_bin ?_
        refine e_var (by tm_at "at") ?_
        refine e_tupD ?_
        tm_at "go"
        refine tupend (ds := [.str "a"]) (.cons (.str _) .nil) (Nat.le_of_ble_eq_true rfl) fun v16 H16 s16 h16 => ?_
        refine ro_catT (hx14.mono (tp_same (s15.trans s16))) h16 (by simp only [List.length_singleton]; omega) fun v17 H17 s17 h17 => ?_
        tm_at "go"
        refine ⟨(Nat.le_of_ble_eq_true rfl), fun p2 H18 s18 n18 g18 => ?_⟩
        have s1418 := s15.trans (s16.trans (s17.trans s18))
        refine ro_cat (s1418 _ _ g14) g18 (Nat.le_of_ble_eq_true rfl) fun p3 H19 s19 n19 g19 => ?_
        have sA := s1418.trans s19
        have np3 : p3 ≠ fp := ne_feed f14 s1418 n19
        refine kk p3 _ H19 sA np3 g19 ?_
        exact .cons (d5.mono (tp_same sA)) (.cons (d10.mono (tp_same sA)) (.cons (d12.mono (tp_same sA)) (.cons (d13.mono (tp_same sA)) (.cons (h15.mono (tp_same (s16.trans (s17.trans (s18.trans s19))))) (.cons (h17.mono (tp_same (s18.trans s19))) (.cons .non .nil))))))
  rintro _ H3 ⟨rfl, k03, f3, hnt⟩
  have hx3 := hx.mono k03.t
  refine b_cut (fun σ1 H2 => σ1 = [some (.ref fp), some vx, none, none] ∧ Kp fp H H2 ∧ Feed M.K H2 fp cl (n + 1)) ?_ ?_
  · tm_at "go"
    refine t_val ?_
    tm_at "go"
    refine rc_isInt hx3 ?_
    refine ⟨_, rfl, ifb (fun e => ?_) (fun e => ?_)⟩
    · tm_at "go"
      refine t_val ?_
      tm_at "go"
      refine rc_isBool hx3 ?_
      refine ⟨_, rfl, ?_⟩
      cases x with
      | int i =>
        cases hx3
        refine ift ?_
        refine b_one ?_
        refine s_ret ?_
        have gi : i.natAbs.log2 < 1100 := by have := gx.g; simpa [gd] using this
        have iJ : ∀ j : Int, j.natAbs ≤ 2 * i.natAbs + 1 → tl (.int j) ≤ tl (.int i) + 1 ∧ ∀ L n, 0 < L → L ≤ 1090 → GdL L m n (.int i) → GdL (L + 2) m (2 * n + 10100) (.int j) := fun j hj => by
          refine ⟨Nat.zero_le _, fun L n' hL hL2 g => ?_⟩
          have g1 : i.natAbs.log2 < L := by have := g.g; simpa [gd] using this
          have g2 := g.wt
          simp only [wt] at g2
          obtain ⟨l1, l2⟩ := log_up hL g1 hj
          exact ⟨by simp only [gd, decide_eq_true_eq]; omega, by simp only [PyData.depth]; exact Nat.zero_le _, by simp only [wt]; omega⟩
        refine pickL f3 (by omega) k03 (es := [.int (i + 1), .int (i - 1), .int (0 - i), .bool (decide (i = 1)), .str (Str.ofString (toString i)), .none, .int (2 * i)]) rfl rfl ⟨by decide, by decide⟩ (fun d hd => ?_) (fun Q3 kk => ?_)
        · simp only [List.mem_cons, List.not_mem_nil, or_false] at hd
          rcases hd with rfl | rfl | rfl | rfl | rfl | rfl | rfl
          · exact iJ _ (by omega)
          · exact iJ _ (by omega)
          · exact iJ _ (by omega)
          · exact ⟨Nat.zero_le _, fun L n' _ _ g => ⟨by simp only [gd], by simp only [PyData.depth]; exact Nat.zero_le _, by simp only [wt]; omega⟩⟩
          · refine ⟨Nat.zero_le _, fun L n' hL hL2 g => ?_⟩
            have g1 : i.natAbs.log2 < L := by have := g.g; simpa [gd] using this
            have g2 := g.wt
            simp only [wt] at g2
            have ln := int_text_length_le (a := i) (k := i.natAbs.log2 + 1) (Nat.succ_pos _) (Nat.lt_succ_self _)
            refine ⟨by simp only [gd]; exact strOk_of _, by simp only [PyData.depth]; exact Nat.zero_le _, ?_⟩
            simp only [wt]
            rw [PySem.ofString_length]
            omega
          · exact ⟨Nat.zero_le _, fun L n' _ _ g => ⟨by simp only [gd], by simp only [PyData.depth]; exact Nat.zero_le _, by simp only [wt]; omega⟩⟩
          · exact iJ _ (by omega)
        · refine e_lstD ?_
          tm_at "go"
          refine e_callT (T := "str") b.str (by decide +kernel) ?_
          tm_at "go"
          refine rc_str (by omega) ?_
          tm_at "go"
          refine ro_mul (.inl ⟨by decide, by decide⟩) ?_
          tm_at "go"
          refine ⟨(Nat.le_of_ble_eq_true rfl), fun p us s2 n2 g2 => ?_⟩
          exact kk p _ _ s2 (ne_feed f3 (Same.refl _) n2) g2 (.cons (.int _) (.cons (.int _) (.cons (.int _) (.cons (.bl _) (.cons (.str _) (.cons .non (.cons (.int _) .nil)))))))
      | bool q =>
        tm_at "go"
        exact ⟨rfl, k03, f3⟩
      | _ => cases e
    · tm_at "go"
      exact ⟨rfl, k03, f3⟩
  rintro _ H4 ⟨rfl, k04, f4⟩
  refine b_one ?_
  refine s_ret ?_
  refine pickL f4 (by omega) k04 (es := (["a", "x", "y", "load", "store", "A", "", "end"] : List Str).map .str) rfl rfl ⟨by decide, by decide⟩ (fun d hd => ?_) (fun Q3 kk => ?_)
  · obtain ⟨w, hw, rfl⟩ := List.mem_map.mp hd
    have hws : ∀ w ∈ (["a", "x", "y", "load", "store", "A", "", "end"] : List Str), PyData.strOk w = true ∧ w.length ≤ 5 := by decide +kernel
    obtain ⟨w1, w2⟩ := hws w hw
    refine ⟨Nat.zero_le _, fun L n' _ _ g => ⟨by simpa only [gd] using w1, by simp only [PyData.depth]; exact Nat.zero_le _, by simp only [wt]; omega⟩⟩
  · refine e_lstD ?_
    tm_at "go"
    refine ⟨(Nat.le_of_ble_eq_true rfl), fun p us s2 n2 g2 => ?_⟩
    exact kk p _ _ s2 (ne_feed f4 (Same.refl _) n2) g2 (dtStrs ["a", "x", "y", "load", "store", "A", "", "end"])
end K

namespace K
open PySem PySem.Spec PyProof.Rows L2 G
variable {M : Md}
/-! ### the text of data is made of proper signs -/
def okC (l : List Nat) : Prop := ∀ c ∈ l, c < 0x110000
theorem strOk_iff {s : Str} : PyData.strOk s = true ↔ okC s.cps.toList := by
  show s.cps.all (· < 0x110000) = true ↔ _
  rw [← Array.all_toList, List.all_eq_true]
  exact ⟨fun h c hc => of_decide_eq_true (h c hc), fun h c hc => decide_eq_true (h c hc)⟩
theorem okC_app {a b : List Nat} : okC (a ++ b) ↔ okC a ∧ okC b := by
  unfold okC
  simp only [List.mem_append]
  exact ⟨fun h => ⟨fun c hc => h c (.inl hc), fun c hc => h c (.inr hc)⟩, fun h c hc => hc.elim (h.1 c) (h.2 c)⟩
theorem strOk_app {a b : Str} : PyData.strOk (a ++ b) = true ↔ PyData.strOk a = true ∧ PyData.strOk b = true := by
  rw [strOk_iff, strOk_iff, strOk_iff]
  have e : (a ++ b).cps.toList = a.cps.toList ++ b.cps.toList := by
    show (a.cps ++ b.cps).toList = _
    rw [Array.toList_append]
  rw [e, okC_app]
theorem okC_chars (l : List Char) : okC (l.map Char.toNat) := by
  intro c hc
  obtain ⟨ch, _, rfl⟩ := List.mem_map.mp hc
  rcases ch.valid with h | h
  · exact Nat.lt_trans h (by decide)
  · exact h.2
theorem okC_char {q c : Nat} (hc : c < 0x110000) : okC (Builtin.Str.reprChar q c) := by
  have hx : ∀ w : Nat, okC (List.replicate (w - ((Nat.toDigits 16 c).map Char.toNat).length) 48 ++ (Nat.toDigits 16 c).map Char.toNat) := fun w => okC_app.mpr ⟨fun d hd => by rw [(List.mem_replicate.mp hd).2]; decide, okC_chars _⟩
  unfold Builtin.Str.reprChar
  simp only
  repeat' split
  all_goals first
    | (intro d hd; simp only [List.mem_cons, List.not_mem_nil, or_false] at hd; rcases hd with rfl | rfl <;> first | decide | exact hc)
    | (intro d hd; simp only [List.mem_cons, List.not_mem_nil, or_false] at hd; subst hd; exact hc)
    | exact okC_app.mpr ⟨fun d hd => by simp only [List.mem_cons, List.not_mem_nil, or_false] at hd; rcases hd with rfl | rfl <;> decide, hx _⟩
theorem okC_fold {q : Nat} : ∀ (l : List Nat) (acc : Array Nat), okC l → okC acc.toList → okC (l.foldl (fun out c => out ++ (Builtin.Str.reprChar q c).toArray) acc).toList
  | [], acc, _, h => h
  | c :: l, acc, hl, h => by
    rw [List.foldl_cons]
    refine okC_fold l _ (fun d hd => hl d (List.mem_cons_of_mem _ hd)) ?_
    rw [Array.toList_append]
    exact okC_app.mpr ⟨h, okC_char (hl c (List.mem_cons_self ..))⟩
theorem strOk_repr {s : Str} (h : PyData.strOk s = true) : PyData.strOk (reprText s) = true := by
  rw [strOk_iff] at h ⊢
  have hq : reprQuote s < 0x110000 := by unfold reprQuote; split <;> decide
  unfold reprText
  generalize reprQuote s = q at *
  obtain ⟨⟨l⟩⟩ := s
  have e : Array.foldl (fun out c => out ++ (Builtin.Str.reprChar q c).toArray) #[q] (⟨l⟩ : Array Nat) = l.foldl (fun out c => out ++ (Builtin.Str.reprChar q c).toArray) #[q] := by simp
  show okC (Array.push (Array.foldl (fun out c => out ++ (Builtin.Str.reprChar q c).toArray) #[q] (⟨l⟩ : Array Nat)) q).toList
  have e2 : ∀ A : Array Nat, (Array.push A q).toList = A.toList ++ [q] := fun A => by simp
  rw [e2]
  refine okC_app.mpr ⟨?_, fun d hd => ?_⟩
  · rw [e]
    refine okC_fold _ _ h fun d hd => ?_
    have h2 : d ∈ [q] := by simpa using hd
    rw [List.mem_singleton.mp h2]; exact hq
  · rw [List.mem_singleton.mp hd]; exact hq
theorem strOk_from : ∀ (ts : List Str) (k : Nat) (acc : Str), (∀ t ∈ ts, PyData.strOk t = true) → PyData.strOk acc = true → PyData.strOk (textFrom k acc ts) = true
  | [], _, _, _, h => h
  | t :: ts, k, acc, ht, h => by
    refine strOk_from ts (k + 1) _ (fun u hu => ht u (List.mem_cons_of_mem _ hu)) ?_
    exact strOk_app.mpr ⟨strOk_app.mpr ⟨h, strOk_of _⟩, ht t (List.mem_cons_self ..)⟩
theorem strOk_join {sep : Str} (hs : PyData.strOk sep = true) : ∀ ts : List Str, (∀ t ∈ ts, PyData.strOk t = true) → PyData.strOk (Str.join sep ts) = true
  | [], _ => strOk_iff.mpr fun c hc => nomatch hc
  | [t], h => h t (List.mem_cons_self ..)
  | t :: u :: ts, h => strOk_app.mpr ⟨strOk_app.mpr ⟨h t (List.mem_cons_self ..), hs⟩, strOk_join hs (u :: ts) fun x hx => h x (List.mem_cons_of_mem _ hx)⟩
mutual
theorem shown_ok {L : Nat} : ∀ d : PyData, gd L d = true → PyData.strOk d.shown = true
  | .none, _ => by simp only [PyData.shown]; exact strOk_of _
  | .bool b, _ => by simp only [PyData.shown]; cases b <;> exact strOk_of _
  | .int i, _ => by simp only [PyData.shown]; exact strOk_of _
  | .str s, h => by simp only [PyData.shown]; exact strOk_repr (by simpa [gd] using h)
  | .list ds, h => by
    simp only [PyData.shown]
    exact strOk_app.mpr ⟨strOk_from _ _ _ (shown_oks ds (by simpa [gd] using h)) (strOk_of _), strOk_of _⟩
  | .tuple ds, h => by
    simp only [PyData.shown]
    exact strOk_app.mpr ⟨strOk_app.mpr ⟨strOk_of _, strOk_join (strOk_of _) _ (shown_oks ds (by simpa [gd] using h))⟩, strOk_of _⟩
  | .dict _, h => by simp [gd] at h
theorem shown_oks {L : Nat} : ∀ ds : List PyData, gds L ds = true → ∀ t ∈ PyData.shownAll ds, PyData.strOk t = true
  | [], _, t, ht => by simp only [PyData.shownAll] at ht; cases ht
  | d :: ds, h, t, ht => by
    have h1 : gd L d = true ∧ gds L ds = true := by simpa [gds] using h
    simp only [PyData.shownAll] at ht
    rcases List.mem_cons.mp ht with rfl | ht
    · exact shown_ok d h1.1
    · exact shown_oks ds h1.2 t ht
end
/-! ### repr(v) of any data -/
def rRepG (K : PySem.W.Frag) : List V → Hp → VK → Prop := fun vs H Q => ∃ x d, vs = [x] ∧ Dt K H x d ∧ Shw 60 1000000 d ∧ Q (.str d.shown) H
theorem cr_repG {X : Cx} (quiet : X.A.guards = some []) (hu : X.A.units + 64 < cLine) : CallR X (.builtin "repr") (rRepG X.K) := by
  intro pins st σ H vs us Q J rv z
  obtain ⟨x, d, rfl, hd, sw, k⟩ := z
  obtain ⟨u, rfl, ru⟩ := vals1 rv
  have h2 := sw.len
  cases hd with
  | non =>
    cases ru
    exact P.repr_of_none ⟨.str _, H, J.tok _, ⟨_, rfl⟩, k⟩
  | bl b =>
    cases ru
    refine P.repr_of_bool ⟨.str _, H, J.tok _, ⟨_, rfl⟩, ?_⟩
    cases b <;> exact k
  | int i =>
    obtain ⟨t, rfl⟩ := ru
    have hs : i.natAbs.log2 < 1920 := by have := sw.ok; simpa [PyData.showable] using this
    exact P.repr_of_int hs ⟨.str _, H, J.tok _, ⟨_, rfl⟩, k⟩
  | str s =>
    obtain ⟨t, rfl⟩ := ru
    simp only [PyData.shown] at h2
    exact P.repr_of_str ⟨.str _, H, J.tok _, ⟨_, rfl⟩, by simpa only [PyData.shown] using k⟩ (by rw [sizeLine_eq]; omega)
  | tup h1 h3 =>
    obtain ⟨as, rd⟩ := Dp.reads J _ _ u (Dt.dp (.tup h1 h3)) ru
    cases ru
    have h1 := sw.dep
    refine repr_of_reads' rd sw.ok (fun h => by rw [sw.nod] at h; cases h) quiet (by omega) (fun _ _ e => e) (fun h' u tk keep => ?_) (by rw [sizeLine_eq]; omega)
    exact ⟨.str _, H, J.kept (t' := tk) keep, ⟨u, rfl⟩, k⟩
  | lst h1 h3 =>
    obtain ⟨as, rd⟩ := Dp.reads J _ _ u (Dt.dp (.lst h1 h3)) ru
    cases ru
    have h1 := sw.dep
    refine repr_of_reads' rd sw.ok (fun h => by rw [sw.nod] at h; cases h) quiet (by omega) (fun _ _ e => e) (fun h' u tk keep => ?_) (by rw [sizeLine_eq]; omega)
    exact ⟨.str _, H, J.kept (t' := tk) keep, ⟨u, rfl⟩, k⟩
theorem rc_repG {c : Cd} {H : Hp} {Q : VK} {x : V} {d : PyData} (hd : Dt c.K H x d) (sw : Shw 60 1000000 d) (q : Q (.str d.shown) H) (hq : c.g = true := by rfl) : RC c (.builtin "repr") [x] H Q :=
  rc_of (r := rRepG c.K) (fun X h => by rw [← h.K]; exact cr_repG (h.gd hq) h.room.units) ⟨x, d, rfl, hd, sw, q⟩
end K

namespace K
open PySem PySem.Spec PyProof.Rows L2 G
variable {M : Md}
section
variable {c : Cd} {σ : L2.St} {H : Hp} {Q : VK} {pos : Pos}
/-- a new list of data, locked for good -/
theorem e_lockD {es : List Expr} (q : RA c es σ H fun xs H1 => ∃ ds, DtAll c.K H1 xs ds ∧ xs.length ≤ 1000 ∧ ∀ v H2, Same H1 H2 → Dt c.K H2 v (.list ds) → Q v H2) : RE c (.List es pos) σ H Q := by
  refine e_freeze (e_lstD (RA.mono (fun xs H1 z => ?_) q))
  obtain ⟨ds, hd, hl, k⟩ := z
  refine ⟨hl, fun p H2 s n g => ⟨p, _, g, True.intro, fun od => ?_⟩⟩
  have kfz := kp_upd (o' := .frz od (.lst xs)) g (fun _ e => nomatch e) (fun _ _ e => nomatch e)
  exact k _ _ (same_mut s n) (.lst upd_same ((hd.mono (tp_same s)).mono kfz.t))
theorem lockend {K : PySem.W.Frag} {H1 : Hp} {xs : List V} {ds : List PyData} {Q : VK} (h : DtAll K H1 xs ds) (hl : xs.length ≤ 1000) (q : ∀ v H2, Same H1 H2 → Dt K H2 v (.list ds) → Q v H2) : ∃ ds, DtAll K H1 xs ds ∧ xs.length ≤ 1000 ∧ ∀ v H2, Same H1 H2 → Dt K H2 v (.list ds) → Q v H2 := ⟨ds, h, hl, q⟩
end
def spSrc (K : PySem.W.Frag) : Sp := fun vs H Q _ => ∃ (sl : Addr) (ns : List Int), vs = [.ref sl] ∧ SqL K H sl (ns.map V.int) ∧ ∀ p cl H', Same H H' → H p = none → H cl = none → Feed K H' p cl 0 → Q (.ref p) H'
theorem ok_src {f fd} (F : Fun M.K "_law_source" "_law_source" s__law_source f fd) (b : Bl M) : FnG M.prog M.w M.K M.mg M.base CX0 1 f fd ["_law_script"] (spSrc M.K) := by
  refine fn_ok F sc__law_source (fun vs H Q E h => ?_) (fun H vs Q E h => ?_)
  · obtain ⟨sl, ns, rfl, _⟩ := h
    rfl
  obtain ⟨sl, ns, rfl, hs, k⟩ := h
  tm_at "go"
  refine e_disp (fun X h => pps_cons (pe_re h) (pe_re h) (pps_cons (pe_re h) (pe_re h) (pps_cons (pe_re h) (pe_re h) (pps_cons (pe_re h) (pe_re h) pps_nil)))) rfl rfl (by intro e; cases e) (by decide) ?_
  intro p hp
  simp only [tPairs]
  have s0 := same_new (o := .dK []) hp
  tm_at "go"
  refine rsl_list (s0.seq hs) fun l1 H1 s1 n1 g1 => ?_
  tm_at "go"
  have gp : H1 p = some (.dK []) := s1 _ _ upd_same
  have np : p ≠ l1 := by
    rintro rfl
    rw [upd_same] at n1
    cases n1
  rw [show cutV (ns.map V.int) none (some 63) = (G.cutD ns none (some 63)).map V.int from by simp only [cutV, G.cutD, List.length_map, List.map_take, List.map_drop]] at g1
  have hl : (G.cutD ns none (some 63)).length ≤ 63 := by
    show ((ns.drop 0).take (HT.sIx ns.length ns.length (some ((63 : Nat) : Int)) - 0)).length ≤ 63
    rw [HT.sIx_nat, List.length_take]
    omega
  refine ⟨gp, fkv (.ref l1) 0 0 0, rfl, by rw [fkv_len]; decide, ?_⟩
  rw [show mergeK [] (fkv (.ref l1) 0 0 0) = fkv (.ref l1) 0 0 0 by rfl]
  refine k p l1 _ (same_mut (s0.trans s1) hp) hp (same_none s0 n1) ⟨_, 0, 0, 0, upd_same, ?_, hl, Int.le_refl _, Int.le_refl _⟩
  rw [upd_ne (fun e => np e.symm)]
  exact g1
abbrev rt1 : List PyData := [.tuple [.str "const", .int 0, .int (-5)], .tuple [.str "const", .int 31, .int (10 ^ (50 : Int).toNat)], .tuple [.str "do", .str "mod", .int 0, .int 1, .int 2], .tuple [.str "do", .str "<=", .int 31, .int 31, .int 31], .tuple [.str "end"]]
abbrev rt2 : List PyData := [.tuple [.str "load", .int 0, .str "abcdefgh"], .tuple [.str "load", .int 0, .tuple [.str "t", .int 0]], .tuple [.str "load", .int 3, .tuple [.str "t", .int 99]], .tuple [.str "loadat", .int 0, .str "t", .int 1]]
abbrev rt3 : List PyData := [.tuple [.str "store", .str "x", .int 0], .tuple [.str "store", .tuple [.str "t", .int 1], .int 31], .tuple [.str "storeat", .str "t", .int 0, .int 1], .tuple [.str "jump", .int 0], .tuple [.str "unless", .int 0, .int 99]]
abbrev wr1 : List PyData := [.tuple [.str "const", .int 32, .int 0], .tuple [.str "const", .int (-1), .int 0], .tuple [.str "const", .bool true, .int 0], .tuple [.str "const", .int 0, .bool true], .tuple [.str "const", .int 0], .tuple [.str "go"]]
abbrev wr2 : List PyData := [.tuple [.str "do", .str "and", .int 0, .int 1, .int 2], .tuple [.str "do", .str "+", .int 0, .int 1], .tuple [.str "do", .int 0, .int 0, .int 1, .int 2], .tuple [.str "end", .int 0], .tuple [.str "load", .int 0, .str "X"]]
abbrev wr3 : List PyData := [.tuple [.str "load", .int 0, .tuple [.str "t", .int (-1)]], .tuple [.str "load", .int 0, .tuple [.str "t", .bool true]], .tuple [.str "load", .int 0, .tuple [.str "t"]], .tuple [.str "load", .int 0, .list [.str "t", .int 0]], .tuple []]
abbrev wr4 : List PyData := [.tuple [.str "loadat", .int 0, .tuple [.str "t", .int 0], .int 1], .tuple [.str "store", .int 0, .str "x"], .tuple [.str "storeat", .str "t", .int 0], .tuple [.str "jump", .int (-1)], .tuple [.str "jump", .bool true]]
abbrev wr5 : List PyData := [.tuple [.str "unless", .int 32, .int 0], .list [.str "end"], .str "end", .none, .int 0, .tuple [.tuple [.str "end"]], .tuple [.str "load", .int 0, .str "abcdefghi"], .tuple [.str "load", .int 0, .str ""]]
def rights : List PyData := rt1 ++ rt2 ++ rt3
def wrongs : List PyData := wr1 ++ wr2 ++ wr3 ++ wr4 ++ wr5
def spHand (K : PySem.W.Frag) : Sp := fun vs H Q _ => vs = [] ∧ ∀ t l1 l2 us ws H', Same H H' → H l1 = none → H l2 = none → H' l1 = some (.lst us) → H' l2 = some (.lst ws) → H' t = some (.tup [.ref l1, .ref l2]) → DtAll K H' us rights → DtAll K H' ws wrongs → Q (.ref t) H'
/-- new tuples for a list -/
structure Nw (K : PySem.W.Frag) (H H1 : Hp) (l : Addr) (us : List V) (ds : List PyData) : Prop where
  s : Same H H1
  n : H l = none
  g : H1 l = some (.lst us)
  d : DtAll K H1 us ds
theorem ro_catW {c : Cd} {HB H0 H : Hp} {Q : VK} {a b : Addr} {xs ys : List V} {ds es : List PyData} (w : Nw c.K HB H0 a xs ds) (s : Same H0 H) (g : H b = some (.lst ys)) (d : DtAll c.K H ys es) (hl : ds.length + es.length ≤ 1000) (q : ∀ p us H2, Nw c.K HB H2 p us (ds ++ es) → Same H0 H2 → Q (.ref p) H2) : RO c .Add (.ref a) (.ref b) H Q := by
  refine ro_cat (s _ _ w.g) g (by rw [w.d.len, d.len]; omega) fun p HY sy ny gy => ?_
  exact q p _ _ ⟨w.s.trans (s.trans sy), same_none (w.s.trans s) ny, gy, ((w.d.mono (tp_same s)).app d).mono (tp_same sy)⟩ (s.trans sy)
end K
local macro_rules | `(tactic| tm_at "mk") => `(tactic| repeat (first | (refine gRE ?_; first | refine e_tupD ?_ | refine K.e_lockD ?_) | tm_at "s" | (refine ro_pow ⟨by decide, by decide, by decide⟩ ?_) | (refine gRB ?_; first | refine b_one ?_ | refine b_cons ?_) | (refine tupend (by tm_at "dts") (Nat.le_of_ble_eq_true rfl) fun v H s h => ?_) | (refine K.lockend (by tm_at "dts") (Nat.le_of_ble_eq_true rfl) fun v H s h => ?_)))
namespace K
open PySem PySem.Spec PyProof.Rows L2 G
variable {M : Md}
set_option maxHeartbeats 4000000 in
theorem ok_hand {f fd} (F : Fun M.K "_law_by_hand" "_law_by_hand" s__law_by_hand f fd) (b : Bl M) : FnG M.prog M.w M.K M.mg M.base CX0 1 f fd [] (spHand M.K) := by
  refine fn_ok F sc__law_by_hand (fun vs H Q E h => ?_) (fun H vs Q E h => ?_)
  · obtain ⟨rfl, _⟩ := h
    rfl
  obtain ⟨rfl, k⟩ := h
  refine b_cut (fun σ1 H1 => ∃ l us, σ1 = [some (.ref l), none] ∧ Nw M.K H H1 l us rt1) ?_ ?_
  · refine s_set (by tm_at "at") ?_
    refine e_lstD ?_
    refine a_cons (e_tupD ?_)
    tm_at "mk"
    refine ⟨(Nat.le_of_ble_eq_true rfl), fun l H' s n g => ?_⟩
    exact ⟨l, _, rfl, by tm_at "same", same_none (by tm_at "same") n, g, by tm_at "dts"⟩
  rintro _ H1 ⟨l1, u1, rfl, w1⟩
  refine b_cut (fun σ1 HH => ∃ l us, σ1 = [some (.ref l), none] ∧ Nw M.K H HH l us (rt1 ++ rt2) ∧ Same H1 HH) ?_ ?_
  · refine s_set (by tm_at "at") ?_
    refine e_bin ?_
    refine e_var (by tm_at "at") ?_
    refine e_lstD ?_
    refine a_cons (e_tupD ?_)
    tm_at "mk"
    refine ⟨(Nat.le_of_ble_eq_true rfl), fun l HX s n g => ?_⟩
    refine ro_catW w1 (by tm_at "same") g (by tm_at "dts" : DtAll _ _ _ rt2) (Nat.le_of_ble_eq_true rfl) fun p us HY wy sy => ⟨p, _, rfl, wy, sy⟩
  rintro _ H2 ⟨l2, u2, rfl, w2, _⟩
  refine b_cut (fun σ1 HH => ∃ l us, σ1 = [some (.ref l), none] ∧ Nw M.K H HH l us (rt1 ++ rt2 ++ rt3) ∧ Same H2 HH) ?_ ?_
  · refine s_set (by tm_at "at") ?_
    refine e_bin ?_
    refine e_var (by tm_at "at") ?_
    refine e_lstD ?_
    refine a_cons (e_tupD ?_)
    tm_at "mk"
    refine ⟨(Nat.le_of_ble_eq_true rfl), fun l HX s n g => ?_⟩
    refine ro_catW w2 (by tm_at "same") g (by tm_at "dts" : DtAll _ _ _ rt3) (Nat.le_of_ble_eq_true rfl) fun p us HY wy sy => ⟨p, _, rfl, wy, sy⟩
  rintro _ H3 ⟨l3, u3, rfl, w3, _⟩
  refine b_cut (fun σ1 HH => ∃ l us, σ1 = [some (.ref l3), some (.ref l)] ∧ Nw M.K H HH l us wr1 ∧ Same H3 HH) ?_ ?_
  · refine s_set (by tm_at "at") ?_
    refine e_lstD ?_
    refine a_cons (e_tupD ?_)
    tm_at "mk"
    refine ⟨(Nat.le_of_ble_eq_true rfl), fun l HX s n g => ?_⟩
    exact ⟨l, _, rfl, ⟨w3.s.trans (by tm_at "same"), same_none (w3.s.trans (by tm_at "same")) n, g, by tm_at "dts"⟩, by tm_at "same"⟩
  rintro _ H4 ⟨l4, u4, rfl, w4, s4⟩
  refine b_cut (fun σ1 HH => ∃ l us, σ1 = [some (.ref l3), some (.ref l)] ∧ Nw M.K H HH l us (wr1 ++ wr2) ∧ Same H4 HH) ?_ ?_
  · refine s_set (by tm_at "at") ?_
    refine e_bin ?_
    refine e_var (by tm_at "at") ?_
    refine e_lstD ?_
    refine a_cons (e_tupD ?_)
    tm_at "mk"
    refine ⟨(Nat.le_of_ble_eq_true rfl), fun l HX s n g => ?_⟩
    refine ro_catW w4 (by tm_at "same") g (by tm_at "dts" : DtAll _ _ _ wr2) (Nat.le_of_ble_eq_true rfl) fun p us HY wy sy => ⟨p, _, rfl, wy, sy⟩
  rintro _ H5 ⟨l5, u5, rfl, w5, s5⟩
  refine b_cut (fun σ1 HH => ∃ l us, σ1 = [some (.ref l3), some (.ref l)] ∧ Nw M.K H HH l us (wr1 ++ wr2 ++ wr3) ∧ Same H5 HH) ?_ ?_
  · refine s_set (by tm_at "at") ?_
    refine e_bin ?_
    refine e_var (by tm_at "at") ?_
    refine e_lstD ?_
    refine a_cons (e_tupD ?_)
    tm_at "mk"
    refine ⟨(Nat.le_of_ble_eq_true rfl), fun l HX s n g => ?_⟩
    refine ro_catW w5 (by tm_at "same") g (by tm_at "dts" : DtAll _ _ _ wr3) (Nat.le_of_ble_eq_true rfl) fun p us HY wy sy => ⟨p, _, rfl, wy, sy⟩
  rintro _ H6 ⟨l6, u6, rfl, w6, s6⟩
  refine b_cut (fun σ1 HH => ∃ l us, σ1 = [some (.ref l3), some (.ref l)] ∧ Nw M.K H HH l us (wr1 ++ wr2 ++ wr3 ++ wr4) ∧ Same H6 HH) ?_ ?_
  · refine s_set (by tm_at "at") ?_
    refine e_bin ?_
    refine e_var (by tm_at "at") ?_
    refine e_lstD ?_
    refine a_cons (e_tupD ?_)
    tm_at "mk"
    refine ⟨(Nat.le_of_ble_eq_true rfl), fun l HX s n g => ?_⟩
    refine ro_catW w6 (by tm_at "same") g (by tm_at "dts" : DtAll _ _ _ wr4) (Nat.le_of_ble_eq_true rfl) fun p us HY wy sy => ⟨p, _, rfl, wy, sy⟩
  rintro _ H7 ⟨l7, u7, rfl, w7, s7⟩
  refine b_cut (fun σ1 HH => ∃ l us, σ1 = [some (.ref l3), some (.ref l)] ∧ Nw M.K H HH l us (wr1 ++ wr2 ++ wr3 ++ wr4 ++ wr5) ∧ Same H7 HH) ?_ ?_
  · refine s_set (by tm_at "at") ?_
    refine e_bin ?_
    refine e_var (by tm_at "at") ?_
    refine e_lstD ?_
    refine a_cons (e_tupD ?_)
    tm_at "mk"
    refine ⟨(Nat.le_of_ble_eq_true rfl), fun l HX s n g => ?_⟩
    refine ro_catW w7 (by tm_at "same") g (by tm_at "dts" : DtAll _ _ _ wr5) (Nat.le_of_ble_eq_true rfl) fun p us HY wy sy => ⟨p, _, rfl, wy, sy⟩
  rintro _ H8 ⟨l8, u8, rfl, w8, s8⟩
  have sE : Same H3 H8 := s4.trans (s5.trans (s6.trans (s7.trans s8)))
  tm_at "go"
  refine e_tup ?_
  tm_at "go"
  refine ⟨(Nat.le_of_ble_eq_true rfl), fun p hp => ?_⟩
  have sz := same_new (o := .tup [.ref l3, .ref l8]) hp
  exact k p l3 l8 u3 u8 _ (w8.s.trans sz) w3.n w8.n (sz _ _ (sE _ _ w3.g)) (sz _ _ w8.g) upd_same ((w3.d.mono (tp_same sE)).mono (tp_same sz)) (w8.d.mono (tp_same sz))
end K

namespace G
open PySem PySem.Spec PyProof.Rows L2
/-! ### calls with keywords only -/
section
variable {X : Cx} {k : Nat} {f : Addr} {fd : FuncData} {ps ks : List Str} {sp : Sp} {x : Str} {p pos : Pos} {kws : List Keyword} {t : TA} {E : XK} {CX : CXT}
/-- with keywords only -/
theorem peE_kw {g : List Value → List Value} {gV : List V → List V} (F : FnOk X.prog X.w X.K X.mg X.base CX k f fd ps sp) (room : Room k X.A) (hx : Passes CX X E) (gl : Gl X x) (hm : X.mg x = some (.ref f)) (kp : PySem.W.keepIn X.K (.ref f) = true)
    (bn : ∀ (s : Shared) (ws : List Value), ws.length = ks.length → BindsTo s fd ⟨[], ks.zip ws⟩ (ps.zip (g ws))) (rel : ∀ (zs : List V) (ws : List Value), Vals zs ws → zs.length = ks.length → Vals (gV zs) (g ws)) (hkw : PK X kws t)
    (h1 : (backToKw pos (keywordEach kws X.env)).all (·.1.isSome) = true) (h2 : (backToKw pos (keywordEach kws X.env)).filterMap (·.1) = ks) (hdb : (x == ("__debug__" : Str)) = false)
    (h3 : ((backTo pos (starEach [] X.env)).any (·.1) || (backToKw pos (keywordEach kws X.env)).any (·.1.isNone)) = false) :
    PE X (.Call (.Name x p) [] kws pos) (fun σ H Q => t σ H fun zs H2 => zs.length = ks.length ∧ sp (gV zs) H2 Q E) := by
  constructor
  intro pins st σ H Q J z
  apply wpAny_Call_Name_kw
  apply ld_glob J gl hm _ hdb
  refine PySem.W.callWith_KW0 (h₀ := X.base) J.ok.mod.kin kp h1 ?_ h3
  refine thn (hkw.run pos pins st σ H _ J z) fun ws s1 ⟨zs, H1, J1, rz, lz, q⟩ => ⟨J1.kIn, ?_⟩
  rw [h2]
  have r2 := rel zs ws rz lz
  refine wpAny_call (codeAny_mono (F.run X.A X.stack s1 H1 ⟨[], ks.zip ws⟩ (g ws) (gV zs) Q E room J1.env0 (bn s1 ws (rz.length.symm.trans lz)) r2 q) fun r s2 z => ?_)
  match r, z with
  | .ok (.ret u), z => exact J1.after z
  | .error u, z => exact hx _ _ _ _ u s2 J1 z
end
/-- a def that is called with keywords only -/
structure DcK (c : Md) (x : Str) (ps ks : List Str) (gV : List V → List V) (k : Nat) (sp : Sp) : Prop where
  ex : ∃ (f : Addr) (fd : FuncData) (g : List Value → List Value), FnG c.prog c.w c.K c.mg c.base noX k f fd ps sp ∧ c.mg x = some (.ref f) ∧ PySem.W.keepIn c.K (.ref f) = true ∧ (∀ (s : Shared) (ws : List Value), ws.length = ks.length → BindsTo s fd ⟨[], ks.zip ws⟩ (ps.zip (g ws))) ∧
    ∀ (zs : List V) (ws : List Value), Vals zs ws → zs.length = ks.length → Vals (gV zs) (g ws)
section
variable {c : Cd} {σ : L2.St} {H : Hp} {Q : VK} {pos : Pos}
theorem k_nil {Q : List V → Hp → Prop} (q : Q [] H) : RPK c [] σ H Q := rk_of (fun _ _ => pk_nil) q
theorem k_cons {Q : List V → Hp → Prop} {nm : Option Str} {e : Expr} {kpos : Pos} {kws : List Keyword} (q : RE c e σ H fun x H1 => RPK c kws σ H1 fun xs H2 => Q (x :: xs) H2) : RPK c (⟨nm, e, kpos⟩ :: kws) σ H Q :=
  rk_of (fun X h => pk_cons (pe_re h) (pk_rk h)) q
theorem e_kw {x : Str} {p : Pos} {kws : List Keyword} {ps ks : List Str} {gV : List V → List V} {k : Nat} {sp : Sp} (D : DcK c.toMd x ps ks gV k sp) (q : RPK c kws σ H fun zs H1 => zs.length = ks.length ∧ sp (gV zs) H1 Q fun _ _ _ => False) (hk : k ≤ c.k := by exact Nat.le_of_ble_eq_true rfl) (hg : c.sc.names.lookup x = some .globalImplicit := by rfl)
    (h1 : ∀ env, (backToKw pos (keywordEach kws env)).all (·.1.isSome) = true := by intro _; rfl) (h2 : ∀ env, (backToKw pos (keywordEach kws env)).filterMap (·.1) = ks := by intro _; rfl) (hdb : (x == ("__debug__" : Str)) = false := by decide)
    (h3 : ∀ env, ((backTo pos (starEach [] env)).any (·.1) || (backToKw pos (keywordEach kws env)).any (·.1.isNone)) = false := by intro _; rfl) : RE c (.Call (.Name x p) [] kws pos) σ H Q := by
  obtain ⟨f, fd, g, F, hm, hkp, hb, hr⟩ := D.ex
  refine re_of (t := fun σ H Q => RPK c kws σ H fun zs H2 => zs.length = ks.length ∧ sp (gV zs) H2 Q fun _ _ _ => False) (fun X h => ?_) q
  refine peE_kw (CX := noX) (E := fun _ _ _ => False) (k := k) (f := f) (fd := fd) (ps := ps) (ks := ks) (sp := sp) (g := g) (gV := gV) ?_ (h.room.mono hk) (fun _ _ _ _ _ _ _ z => z.elim) (gl_of h hg) (by rw [h.mg]; exact hm) (by rw [h.K]; exact hkp) hb hr (pk_rk h) (h1 _) (h2 _) hdb (h3 _)
  rw [h.prog, h.w, h.K, h.mg, h.base]; exact F
end
end G

namespace K
open PySem PySem.Spec PyProof.Rows L2 G
variable {M : Md}
theorem ro_isB {c : Cd} {H : Hp} {Q : VK} {a b : Bool} (q : Q (.bl (decide (a = b))) H) : RQ c .Is (.bl a) (.bl b) H Q := rq_of (r := rIsB) (fun _ _ => op_isBl) ⟨a, b, rfl, rfl, q⟩
theorem ro_notB {c : Cd} {H : Hp} {Q : VK} {a b : Bool} (q : Q (.bl (!decide (a = b))) H) : RQ c .IsNot (.bl a) (.bl b) H Q := rq_of (r := rNotB) (fun _ _ => op_notBl) ⟨a, b, rfl, rfl, q⟩
def spLaw (K : PySem.W.Frag) : Sp := fun vs H Q _ => ∃ (sl : Addr) (ns : List Int), vs = [.ref sl] ∧ SqL K H sl (ns.map V.int) ∧ ∀ H', Q (.bl true) H'
def Okd (d : PyData) : Prop := GdX d ∧ tl d ≤ 1000
theorem Okd.len {d : PyData} (h : Okd d) : ∀ ds, d = .tuple ds → ds.length ≤ 1000 := by
  rintro ds rfl
  exact h.2
structure Hands (K : PySem.W.Frag) (fp cl : Addr) (n : Nat) (l1 l2 : Addr) (u1 u2 : List V) (H : Hp) : Prop where
  f : Feed K H fp cl n
  g1 : H l1 = some (.lst u1)
  d1 : DtAll K H u1 rights
  g2 : H l2 = some (.lst u2)
  d2 : DtAll K H u2 wrongs
  n1 : l1 ≠ fp
  n2 : l2 ≠ fp
theorem Hands.same {K : PySem.W.Frag} {fp cl : Addr} {n : Nat} {l1 l2 : Addr} {u1 u2 : List V} {H H' : Hp} (h : Hands K fp cl n l1 l2 u1 u2 H) (s : Same H H') : Hands K fp cl n l1 l2 u1 u2 H' :=
  ⟨h.f.same s, s _ _ h.g1, h.d1.mono (tp_same s), s _ _ h.g2, h.d2.mono (tp_same s), h.n1, h.n2⟩
theorem Hands.kp {K : PySem.W.Frag} {fp cl : Addr} {n m : Nat} {l1 l2 : Addr} {u1 u2 : List V} {H H' : Hp} (h : Hands K fp cl n l1 l2 u1 u2 H) (k : Kp fp H H') (f : Feed K H' fp cl m) : Hands K fp cl m l1 l2 u1 u2 H' :=
  ⟨f, k.k _ _ h.n1 h.g1, h.d1.mono k.t, k.k _ _ h.n2 h.g2, h.d2.mono k.t, h.n1, h.n2⟩
theorem Hands.up {K : PySem.W.Frag} {fp cl : Addr} {n m : Nat} {l1 l2 : Addr} {u1 u2 : List V} {H : Hp} (h : Hands K fp cl n l1 l2 u1 u2 H) (g : n ≤ m) : Hands K fp cl m l1 l2 u1 u2 H := ⟨h.f.up g, h.g1, h.d1, h.g2, h.d2, h.n1, h.n2⟩
structure Vls (K : PySem.W.Frag) (fp lv : Addr) (us : List V) (ds : List PyData) (m : Nat) (H : Hp) : Prop where
  g : H lv = some (.lst us)
  d : DtAll K H us ds
  ne : lv ≠ fp
  ok : ∀ d ∈ ds, Okd d
  len : ds.length ≤ m
theorem Vls.same {K : PySem.W.Frag} {fp lv : Addr} {m : Nat} {us : List V} {ds : List PyData} {H H' : Hp} (h : Vls K fp lv us ds m H) (s : Same H H') : Vls K fp lv us ds m H' :=
  ⟨s _ _ h.g, h.d.mono (tp_same s), h.ne, h.ok, h.len⟩
theorem Vls.kp {K : PySem.W.Frag} {fp lv : Addr} {m : Nat} {us : List V} {ds : List PyData} {H H' : Hp} (h : Vls K fp lv us ds m H) (k : Kp fp H H') : Vls K fp lv us ds m H' :=
  ⟨k.k _ _ h.ne h.g, h.d.mono k.t, h.ne, h.ok, h.len⟩
theorem Vls.up {K : PySem.W.Frag} {fp lv : Addr} {m n : Nat} {us : List V} {ds : List PyData} {H : Hp} (h : Vls K fp lv us ds m H) (g : m ≤ n) : Vls K fp lv us ds n H := ⟨h.g, h.d, h.ne, h.ok, Nat.le_trans h.len g⟩
theorem ro_catV {c : Cd} {fp cl : Addr} {n m : Nat} {H : Hp} {Q : VK} {a b : Addr} {xs ys : List V} {ds es : List PyData} (f : Feed c.K H fp cl n) (V : Vls c.K fp a xs ds m H) (g : H b = some (.lst ys)) (d : DtAll c.K H ys es) (ok : ∀ e ∈ es, Okd e) (hm : m + es.length ≤ 1000) (q : ∀ p us H2, Vls c.K fp p us (ds ++ es) (m + es.length) H2 → Same H H2 → Q (.ref p) H2) : RO c .Add (.ref a) (.ref b) H Q := by
  refine ro_cat V.g g (by rw [V.d.len, d.len]; have := V.len; omega) fun p HY sy ny gy => ?_
  refine q p _ _ ⟨gy, (V.d.mono (tp_same sy)).app (d.mono (tp_same sy)), ne_feed f (Same.refl _) ny, fun e he => ?_, by rw [List.length_append]; exact Nat.add_le_add_right V.len _⟩ sy
  rcases List.mem_append.mp he with h | h
  · exact V.ok e h
  · exact ok e h
/-- a new list, locked: list(xs) -/
theorem lock_of {K : PySem.W.Frag} {H H1 : Hp} {l : Addr} {ys : List V} {ds : List PyData} (s : Same H H1) (n : H l = none) (g : H1 l = some (.lst ys)) (d : DtAll K H1 ys ds) (od : Obj) :
    Same H (upd H1 l (.frz od (.lst ys))) ∧ Dt K (upd H1 l (.frz od (.lst ys))) (.ref l) (.list ds) := by
  have kfz := kp_upd (o' := .frz od (.lst ys)) g (fun _ e => nomatch e) (fun _ _ e => nomatch e)
  exact ⟨same_mut s n, .lst upd_same (d.mono kfz.t)⟩
def hv0 : List PyData := (rights ++ wrongs).map fun d => .tuple [d]
abbrev hv1 : List PyData := [.tuple rights, .list rights, .none, .tuple [], .str "code", .int 0, .tuple [.str "end"]]
def okB (d : PyData) : Bool := gd 1000 d && decide (d.depth ≤ 50) && decide (wt d ≤ 100000) && decide (tl d ≤ 1000)
theorem okB_ok {d : PyData} (h : okB d = true) : Okd d := by
  simp only [okB, Bool.and_eq_true, decide_eq_true_eq] at h
  exact ⟨(⟨h.1.1.1, h.1.1.2, by omega⟩ : GdL 1000 50 500000 d).lup (by omega), h.2⟩
theorem hv_ok : ∀ d ∈ hv0 ++ hv1, Okd d := by
  have h : (hv0 ++ hv1).all okB = true := by decide +kernel
  intro d hd
  exact okB_ok (List.all_eq_true.mp h d hd)
def wrB (d : PyData) : Bool := gd 1000 d && decide (d.depth ≤ 2) && decide (wt d ≤ 1248)
theorem wr_ok : ∀ d ∈ wrongs, Gd 2 1248 d := by
  have h : wrongs.all wrB = true := by decide +kernel
  intro d hd
  have := List.all_eq_true.mp h d hd
  simp only [wrB, Bool.and_eq_true, decide_eq_true_eq] at this
  exact ⟨this.1.1, this.1.2, this.2⟩
abbrev fr1 : List PyData := [.tuple [.str "load", .int 32, .str "x"], .tuple [.str "do", .str "+", .int 32, .int 1, .int 0], .tuple [.str "do", .str "+", .int 0, .int 32, .int 1], .tuple [.str "do", .str "+", .int 0, .int 1, .int 32]]
abbrev fr2 : List PyData := [.tuple [.str "loadat", .int 32, .str "t", .int 0], .tuple [.str "loadat", .int 0, .str "t", .int 32], .tuple [.str "store", .str "x", .int 32]]
abbrev fr3 : List PyData := [.tuple [.str "storeat", .str "t", .int 32, .int 0], .tuple [.str "storeat", .str "t", .int 0, .int 32], .tuple [.str "load", .int 0, .str "x", .int 0], .tuple [.str "jump"], .tuple [.str "unless", .int 0]]
theorem far_no : ∀ d ∈ wrongs ++ (fr1 ++ fr2 ++ fr3), Okd (.tuple [d]) ∧ isCode (.tuple [d]) = false := by
  have h : (wrongs ++ (fr1 ++ fr2 ++ fr3)).all (fun d => okB (.tuple [d]) && !isCode (.tuple [d])) = true := by decide +kernel
  intro d hd
  have := List.all_eq_true.mp h d hd
  simp only [Bool.and_eq_true, Bool.not_eq_true'] at this
  exact ⟨okB_ok this.1, this.2⟩
theorem rights_yes : isCode (.tuple rights) = true := by decide +kernel
end K

local macro_rules | `(tactic| tm_at "mk") => `(tactic| repeat (first | (refine gRE ?_; first | refine e_tupD ?_ | refine K.e_lockD ?_) | tm_at "s" | (refine gRB ?_; first | refine b_one ?_ | refine b_cons ?_) | (refine tupend (by tm_at "dts") (Nat.le_of_ble_eq_true rfl) fun v H s h => ?_) | (refine K.lockend (by tm_at "dts") (Nat.le_of_ble_eq_true rfl) fun v H s h => ?_)))
namespace K
open PySem PySem.Spec PyProof.Rows L2 G
variable {M : Md}
set_option maxHeartbeats 4000000 in
theorem ok_law {f fd} (F : Fun M.K "law" "law" s_law f fd) (b : Bl M) (b2 : Bl2 M)
    (dsr : Dc M "_law_source" ["_law_script"] 1 (spSrc M.K)) (dha : Dc M "_law_by_hand" [] 1 (spHand M.K)) (dn : dcNext M)
    (dro : Dc M "_law_rows" ["_law_source_here"] 2 (spD 1 pre0 rRows M.K)) (dco : Dc M "_law_code" ["_law_source_here", "_law_rows_here", "_law_most"] 3 (spD 49 preCode rCode M.K))
    (dbe : dcBent M 3) (dic : Dc M "is_code" ["thing"] 6 (spF (rC isCode) M.K)) (dlc : Dc M "_law_is_code" ["_law_value"] 6 (spF (rC isCode) M.K)) (kic : DcK M "is_code" ["thing"] ["thing"] (fun zs => zs) 6 (spF (rC isCode) M.K)) :
    FnQ M.prog M.w M.K M.mg M.base CX0 7 f fd ["_law_script"] (spLaw M.K) := by
  refine fn_okQ F sc_law (fun vs H Q E h => ?_) (fun H vs Q E h => ?_)
  · obtain ⟨sl, ns, rfl, _⟩ := h
    rfl
  obtain ⟨sl, ns, rfl, hs, k⟩ := h
  refine b_cut (fun σ1 H1 => ∃ fp cl, σ1 = [some (.ref sl), some (.ref fp), none, none, none, none, none, none, none, none, none, none, none, none] ∧ Feed M.K H1 fp cl 0) ?_ ?_
  · tm_at "go"
    refine e_call dsr ?_
    tm_at "go"
    exact ⟨sl, ns, rfl, hs, fun fp cl H1 s1 n1 nc1 f1 => ⟨fp, cl, rfl, f1⟩⟩
  rintro _ H1 ⟨fp, cl, rfl, f1⟩
  refine b_cut (fun σ1 H2 => ∃ l1 l2 u1 u2, σ1 = [some (.ref sl), some (.ref fp), some (.ref l1), some (.ref l2), none, none, none, none, none, none, none, none, none, none] ∧ Hands M.K fp cl 0 l1 l2 u1 u2 H2) ?_ ?_
  · refine s_asg ?_
    refine e_call0 dha ?_
    refine ⟨rfl, fun t l1 l2 us ws H2 s2 n1 n2 g1 g2 gt d1 d2 => ?_⟩
    refine g_tup (.of gt) (gs_cons (g_name (by tm_at "at") (gs_cons (g_name (by tm_at "at") (gs_nil ?_)))))
    exact ⟨l1, l2, us, ws, rfl, f1.same s2, g1, d1, g2, d2, ne_feed f1 (Same.refl _) n1, ne_feed f1 (Same.refl _) n2⟩
  rintro _ H2 ⟨l1, l2, u1, u2, rfl, S2⟩
  refine b_cut (fun σ1 H3 => ∃ lv us, σ1 = [some (.ref sl), some (.ref fp), some (.ref l1), some (.ref l2), some (.ref lv), none, none, none, none, none, none, none, none, none] ∧ Hands M.K fp cl 0 l1 l2 u1 u2 H3 ∧ Vls M.K fp lv us (hv0 ++ hv1) 50 H3) ?_ ?_
  · refine s_set (by tm_at "at") ?_
    refine e_bin ?_
    refine e_lc (own := [("_law_part_here", 13)]) (Blk.of (N := N_law) (sc := defScope s_law) rfl rfl (by decide +kernel)) ?_
    refine lcL_F (fun d => some (.tuple [d])) ?_
    tm_at "go"
    refine ro_cat S2.g1 S2.g2 (by rw [S2.d1.len, S2.d2.len]; decide) fun pc HC sc nc gc => ?_
    refine ⟨pc, _, rights ++ wrongs, rfl, .of gc, (S2.d1.mono (tp_same sc)).app (S2.d2.mono (tp_same sc)), by decide, fun d x H' hd s hx => ?_, fun l7 us7 H7 s7 n7 g7 h7 => ?_⟩
    · refine g_name (by tm_at "at") ⟨rfl, rfl, ts_nil ⟨Same.refl _, ift ?_⟩⟩
      refine e_tupD ?_
      tm_at "go"
      refine tupend (.cons hx .nil) (Nat.le_of_ble_eq_true rfl) fun v H8 s8 h8 => ?_
      exact ⟨s8, _, rfl, h8⟩
    have h7' : DtAll M.K H7 us7 hv0 := by
      rw [List.filterMap_eq_map'] at h7
      exact h7
    have S7 := S2.same (sc.trans s7)
    have V7 : Vls M.K fp l7 us7 hv0 43 H7 := ⟨g7, h7', ne_feed (S2.f.same sc) (Same.refl _) n7, fun d hd => hv_ok d (List.mem_append_left _ hd), by decide⟩
    refine e_lstD ?_
    refine a_cons ?_
    tm_at "go"
    refine rc_tupL (.of S7.g1) S7.d1 fun v8 H8 s8 h8 => ?_
    have S8 := S7.same s8
    refine a_cons ?_
    refine e_freeze ?_
    tm_at "go"
    refine rc_lstL (.of S8.g1) fun l9 H9 s9 n9 g9 => ?_
    refine ⟨l9, _, g9, True.intro, fun od => ?_⟩
    obtain ⟨sA, hA⟩ := lock_of s9 n9 g9 (S8.d1.mono (tp_same s9)) od
    generalize upd H9 l9 (.frz od (.lst u1)) = HA at *
    refine a_cons (e_non ?_)
    refine a_cons (e_tupD (a_nil ?_))
    refine tupend (ds := []) .nil (Nat.le_of_ble_eq_true rfl) fun vB HB sB hB => ?_
    refine a_cons (e_str ?_)
    refine a_cons (e_int ?_)
    refine a_cons (e_tupD ?_)
    tm_at "go"
    refine tupend (.cons (.str _) .nil) (Nat.le_of_ble_eq_true rfl) fun vC HD sD hD => ?_
    refine a_nil ⟨(Nat.le_of_ble_eq_true rfl), fun p HE sE nE gE => ?_⟩
    have S9 := S8.same (sA.trans (sB.trans (sD.trans sE)))
    have V9 := V7.same (s8.trans (sA.trans (sB.trans (sD.trans sE))))
    refine ro_catV S9.f V9 gE (.cons ((h8.mono (tp_same (sA.trans (sB.trans (sD.trans sE)))))) (.cons (hA.mono (tp_same (sB.trans (sD.trans sE)))) (.cons .non (.cons (hB.mono (tp_same (sD.trans sE))) (.cons (.str _) (.cons (.int _) (.cons (hD.mono (tp_same sE)) .nil))))))) (fun e he => hv_ok e (List.mem_append_right _ he)) (Nat.le_of_ble_eq_true rfl) fun q us HF VF sF => ?_
    exact ⟨q, us, rfl, S9.same sF, VF⟩
  rintro _ H3 ⟨lv, us3, rfl, S3, V3⟩
  have okd : ∀ {L m n : Nat} {d : PyData}, GdL L m n d → tl d ≤ 1000 → L ≤ 1100 → m ≤ 50 → n ≤ 500000 → Okd d := fun g t a b' c' => ⟨(g.up b' c').lup a, t⟩
  refine b_cut (fun σ1 H4 => ∃ (v5 v6 v7 v8 : Option V) (lv : Addr) (us : List V) (ds : List PyData), σ1 = [some (.ref sl), some (.ref fp), some (.ref l1), some (.ref l2), some (.ref lv), v5, v6, v7, v8, none, none, none, none, none] ∧ Hands M.K fp cl 477 l1 l2 u1 u2 H4 ∧ Vls M.K fp lv us ds 95 H4) ?_ ?_
  · refine s_forR1 b.range ?_
    tm_at "go"
    refine ⟨by decide, by decide, fun i σ' H' => ∃ (v5 v6 v7 v8 : Option V) (lv : Addr) (us : List V) (ds : List PyData), σ' = [some (.ref sl), some (.ref fp), some (.ref l1), some (.ref l2), some (.ref lv), v5, v6, v7, v8, none, none, none, none, none] ∧ Hands M.K fp cl (159 * i) l1 l2 u1 u2 H' ∧ Vls M.K fp lv us ds (50 + 15 * i) H', ⟨none, none, none, none, lv, us3, _, rfl, S3, V3⟩, ?_, ?_⟩
    · rintro i σ' H' hi ⟨v5, v6, v7, v8, lv, us, ds, rfl, S4, V4⟩
      have hi3 : i < 3 := hi
      refine g_name (by tm_at "at") ?_
      tm_at "go"
      refine e_callD dco ?_
      tm_at "go"
      refine e_callD dro ?_
      tm_at "go"
      refine ⟨fp, cl, _, _, _, rfl, S4.f, by omega, .nil, rfl, fun d5 x5 H5 hr k5 f5 h5 => ?_⟩
      obtain ⟨rs, hrs, rfl⟩ := hr
      tm_at "go"
      refine ⟨fp, cl, _, _, _, rfl, f5, by omega, .cons h5 (.cons (.int _) .nil), ⟨rs, rfl, rs4_ok rs hrs⟩, fun d6 x6 H6 hr k6 f6 h6 => ?_⟩
      obtain ⟨cs, rfl, lc, gc⟩ := hr
      have S6 := S4.kp (k5.trans k6) f6
      have V6 := V4.kp (k5.trans k6)
      have gl : GdL 1000 3 10029 (.tuple cs) := gd_mk gc lc
      refine b_cut (fun σ1 H7 => ∃ (lv : Addr) (us : List V) (ds : List PyData), σ1 = [some (.ref sl), some (.ref fp), some (.ref l1), some (.ref l2), some (.ref lv), some (.int (i : Int)), some x6, v7, v8, none, none, none, none, none] ∧ Hands M.K fp cl (159 * i + 51) l1 l2 u1 u2 H7 ∧ Vls M.K fp lv us ds (50 + 15 * i + 3) H7 ∧ Dt M.K H7 x6 (.tuple cs)) ?_ ?_
      · tm_at "go"
        refine e_lstD ?_
        refine a_cons (e_var (by tm_at "at") ?_)
        refine a_cons ?_
        refine e_freeze ?_
        tm_at "go"
        refine rc_lstT h6 fun l9 ys H9 s9 n9 g9 h9 => ?_
        refine ⟨l9, _, g9, True.intro, fun od => ?_⟩
        obtain ⟨sA, hA⟩ := lock_of s9 n9 g9 h9 od
        generalize upd H9 l9 (.frz od (.lst ys)) = HA at *
        refine a_cons ?_
        tm_at "go"
        refine e_tupD ?_
        tm_at "go"
        have SA := S6.same sA
        refine e_draw dn ?_
        tm_at "go"
        refine rc_lenL (.of SA.g2) ?_
        have l2n := SA.d2.len
        have wl : wrongs.length = 29 := by decide
        refine ⟨fp, cl, _, _, rfl, rfl, SA.f, by omega, ⟨by omega, by omega⟩, fun r HB r0 r1 kB fB => ?_⟩
        have SB := SA.kp kB fB
        refine rx_pick (.of SB.g2) SB.d2 r0 (by omega) fun vB dB hdB hB => ?_
        have gB := wr_ok dB (List.mem_of_getElem? hdB)
        tm_at "go"
        refine tupend (.cons hB .nil) (Nat.le_of_ble_eq_true rfl) fun vC HC sC hC => ?_
        refine ro_catT (((h6.mono (tp_same sA)).mono kB.t).mono (tp_same sC)) hC (by simp only [List.length_cons, List.length_nil]; omega) fun vD HD sD hD => ?_
        refine a_nil ⟨(Nat.le_of_ble_eq_true rfl), fun p HE sE nE gE => ?_⟩
        have sBE := sC.trans (sD.trans sE)
        have SE := SB.same sBE
        have VE := ((V6.same sA).kp kB).same sBE
        refine ro_catV SE.f VE gE (.cons (((h6.mono (tp_same sA)).mono kB.t).mono (tp_same sBE)) (.cons ((hA.mono kB.t).mono (tp_same sBE)) (.cons (hD.mono (tp_same sE)) .nil))) (all3 ?_ ?_ ?_) (by simp only [List.length_cons, List.length_nil]; omega) fun q us HF VF sF => ?_
        · exact okd gl (by show cs.length ≤ 1000; omega) (Nat.le_of_ble_eq_true rfl) (Nat.le_of_ble_eq_true rfl) (Nat.le_of_ble_eq_true rfl)
        · exact okd (gd_mkL gc lc) (Nat.zero_le _) (Nat.le_of_ble_eq_true rfl) (Nat.le_of_ble_eq_true rfl) (Nat.le_of_ble_eq_true rfl)
        · refine okd (gd_mk (c := 9) (k := 1248) (m := 2) (L := 1000) (fun d hd => ?_) (by simp only [List.length_append, List.length_cons, List.length_nil]; omega)) (by show (cs ++ [dB]).length ≤ 1000; simp only [List.length_append, List.length_cons, List.length_nil]; omega) (Nat.le_of_ble_eq_true rfl) (Nat.le_of_ble_eq_true rfl) (Nat.le_of_ble_eq_true rfl)
          rcases List.mem_append.mp hd with h | h
          · exact gc d h
          · rw [List.mem_singleton.mp h]; exact gB
        · exact ⟨q, us, _, rfl, (SE.same sF).up (by omega), VF.up (by simp), (((h6.mono (tp_same sA)).mono kB.t).mono (tp_same sBE)).mono (tp_same sF)⟩
      rintro _ H7 ⟨lv7, us7, ds7, rfl, S7, V7, h7⟩
      refine b_one ?_
      refine s_forR1 b.range ?_
      tm_at "go"
      refine ⟨by decide, by decide, fun j σ' H' => ∃ (v7 v8 : Option V) (lv : Addr) (us : List V) (ds : List PyData), σ' = [some (.ref sl), some (.ref fp), some (.ref l1), some (.ref l2), some (.ref lv), some (.int (i : Int)), some x6, v7, v8, none, none, none, none, none] ∧ Hands M.K fp cl (159 * i + 51 + 18 * j) l1 l2 u1 u2 H' ∧ Vls M.K fp lv us ds (50 + 15 * i + 3 + 2 * j) H' ∧ Dt M.K H' x6 (.tuple cs), ⟨v7, v8, lv7, us7, ds7, rfl, S7, V7, h7⟩, ?_, ?_⟩
      · rintro j σ' H8 hj ⟨v7, v8, lv8, us8, ds8, rfl, S8, V8, h8⟩
        have hj6 : j < 6 := hj
        refine g_name (by tm_at "at") ?_
        tm_at "go"
        refine e_callD dbe ?_
        tm_at "go"
        refine ⟨fp, cl, _, _, _, rfl, S8.f, by omega, .cons h8 .nil, ⟨_, rfl, (gl.lup (Nat.le_of_ble_eq_true rfl)).up (Nat.le_of_ble_eq_true rfl) (Nat.le_of_ble_eq_true rfl)⟩, fun d9 x9 H9 hr k9 f9 h9 => ?_⟩
        obtain ⟨x0, e0, t9, g9⟩ := hr
        cases e0
        have g9 := g9 _ _ (Nat.le_of_ble_eq_true rfl) (Nat.le_of_ble_eq_true rfl) gl
        have t9 : tl d9 ≤ 9 := Nat.le_trans t9 (Nat.succ_le_succ lc)
        have S9 := S8.kp k9 f9
        have V9 := V8.kp k9
        tm_at "go"
        refine e_lstD ?_
        refine a_cons (e_var (by tm_at "at") ?_)
        refine a_cons ?_
        refine e_callD dbe ?_
        tm_at "go"
        refine ⟨fp, cl, _, _, _, rfl, S9.f, by omega, .cons h9 .nil, ⟨_, rfl, (g9.lup (Nat.le_of_ble_eq_true rfl)).up (Nat.le_of_ble_eq_true rfl) (Nat.le_of_ble_eq_true rfl)⟩, fun dA xA HA hr kA fA hA => ?_⟩
        obtain ⟨x0, e0, tA, gA⟩ := hr
        cases e0
        have gA := gA _ _ (Nat.le_of_ble_eq_true rfl) (Nat.le_of_ble_eq_true rfl) g9
        refine a_nil ⟨(Nat.le_of_ble_eq_true rfl), fun p HE sE nE gE => ?_⟩
        have SE := (S9.kp kA fA).same sE
        have VE := (V9.kp kA).same sE
        refine ro_catV SE.f VE gE (.cons ((h9.mono kA.t).mono (tp_same sE)) (.cons (hA.mono (tp_same sE)) .nil)) (all2 (okd g9 (by omega) (Nat.le_of_ble_eq_true rfl) (Nat.le_of_ble_eq_true rfl) (Nat.le_of_ble_eq_true rfl)) (okd gA (by omega) (Nat.le_of_ble_eq_true rfl) (Nat.le_of_ble_eq_true rfl) (Nat.le_of_ble_eq_true rfl))) (by simp only [List.length_cons, List.length_nil]; omega) fun q us HF VF sF => ?_
        exact ⟨_, _, q, us, _, rfl, (SE.same sF).up (by omega), VF.up (by simp only [List.length_cons, List.length_nil]; omega), (((h8.mono k9.t).mono kA.t).mono (tp_same sE)).mono (tp_same sF)⟩
      · rintro σ' H8 ⟨v7, v8, lv8, us8, ds8, rfl, S8, V8, h8⟩
        exact ⟨_, _, v7, v8, lv8, us8, ds8, rfl, S8.up (by show 159 * i + 51 + 18 * 6 ≤ _; omega), V8.up (by show 50 + 15 * i + 3 + 2 * 6 ≤ _; omega)⟩
    · rintro σ' H' ⟨v5, v6, v7, v8, lv, us, ds, rfl, S4, V4⟩
      exact ⟨v5, v6, v7, v8, lv, us, ds, rfl, S4, V4⟩
  rintro _ H4 ⟨v5, v6, v7, v8, lv4, us4, ds4, rfl, S4, V4⟩
  refine b_cut (fun σ1 H5 => ∃ (v5 v6 v7 v8 v9 v10 v11 : Option V), σ1 = [some (.ref sl), some (.ref fp), some (.ref l1), some (.ref l2), some (.ref lv4), v5, v6, v7, v8, v9, v10, v11, none, none] ∧ Hands M.K fp cl 477 l1 l2 u1 u2 H5) ?_ ?_
  · refine s_forL ?_
    tm_at "go"
    refine ⟨lv4, us4, rfl, .of V4.g, fun i σ' H' => ∃ (v5 v6 v7 v8 v9 v10 v11 : Option V), σ' = [some (.ref sl), some (.ref fp), some (.ref l1), some (.ref l2), some (.ref lv4), v5, v6, v7, v8, v9, v10, v11, none, none] ∧ Hands M.K fp cl 477 l1 l2 u1 u2 H' ∧ Vls M.K fp lv4 us4 ds4 95 H', ⟨_, _, _, _, none, none, none, rfl, S4, V4⟩, ?_, ?_, ?_⟩
    · rintro i σ' H' _ ⟨v5, v6, v7, v8, v9, v10, v11, rfl, S, V⟩
      exact .of V.g
    · rintro i x σ' H6 hx ⟨v5, v6, v7, v8, v9, v10, v11, rfl, S6, V6⟩
      obtain ⟨d, hd, hr⟩ := V6.d.getV hx
      have ok := V6.ok d (List.mem_of_getElem? hd)
      have swd : Shw 60 1000000 d := ok.1.shw (Nat.le_of_ble_eq_true rfl) (Nat.le_of_ble_eq_true rfl) (Nat.le_of_ble_eq_true rfl)
      have swb : Shw 60 1000000 (.bool (isCode d)) := (gd_bool (isCode d)).shw (Nat.le_of_ble_eq_true rfl) (Nat.le_of_ble_eq_true rfl) (Nat.le_of_ble_eq_true rfl)
      refine g_name (by tm_at "at") ?_
      refine b_cons ?_
      refine s_par2 (by tm_at "at") (by tm_at "at") ?_
      refine e_callB (id := "repr") b2.repr (by decide +kernel) ?_
      tm_at "go"
      refine rc_repG hr swd ?_
      refine e_callB (id := "repr") b2.repr (by decide +kernel) ?_
      refine a_cons ?_
      refine e_callF dlc ?_
      tm_at "go"
      refine ⟨_, _, .cons hr .nil, ⟨d, rfl, ok.1, ok.len, rfl⟩, fun v7 H7 s7 h7 => ?_⟩
      tm_at "go"
      refine rc_repG h7 swb ?_
      tm_at "go"
      refine e_lstD ?_
      refine a_cons ?_
      refine e_callB (id := "repr") b2.repr (by decide +kernel) ?_
      refine a_cons ?_
      refine e_callF dic ?_
      tm_at "go"
      refine ⟨_, _, .cons (hr.mono (tp_same s7)) .nil, ⟨d, rfl, ok.1, ok.len, rfl⟩, fun v8 H8 s8 h8 => ?_⟩
      tm_at "go"
      refine rc_repG h8 swb ?_
      refine a_cons ?_
      refine e_callB (id := "repr") b2.repr (by decide +kernel) ?_
      refine a_cons ?_
      refine e_kw kic ?_
      refine k_cons ?_
      tm_at "go"
      refine k_nil ⟨rfl, _, _, .cons (hr.mono (tp_same (s7.trans s8))) .nil, ⟨d, rfl, ok.1, ok.len, rfl⟩, fun v9 H9 s9 h9 => ?_⟩
      tm_at "go"
      refine rc_repG h9 swb ?_
      refine a_cons ?_
      refine e_callB (id := "repr") b2.repr (by decide +kernel) ?_
      tm_at "go"
      refine rc_repG (hr.mono (tp_same (s7.trans (s8.trans s9)))) swd ?_
      refine a_nil ⟨(Nat.le_of_ble_eq_true rfl), fun pa HA sA nA gA => ?_⟩
      refine e_lstD ?_
      tm_at "go"
      refine ⟨(Nat.le_of_ble_eq_true rfl), fun pb HB sB nB gB => ?_⟩
      have sh : ∀ a c : Str, PyData.strOk a = true → PyData.strOk c = true → SeqAt.shaped (.list [.str a, .str a, .str c]) = true := fun a c ha hc => by
        have g : GdL 1000 1 (wt (.list [.str a, .str a, .str c])) (.list [.str a, .str a, .str c]) := ⟨by simp [gd, gds, ha, hc], by simp [PyData.depth, PyData.depthAll], Nat.le_refl _⟩
        exact g.shaped (by decide)
      have ha := shown_ok (.bool (isCode d)) (gd_bool (isCode d)).g
      have hc := shown_ok d ok.1.g
      refine ro_neD (.lst (.of (sB _ _ gA)) (.cons (.str _) (.cons (.str _) (.cons (.str _) .nil)))) (.lst (.of gB) (.cons (.str _) (.cons (.str _) (.cons (.str _) .nil)))) (sh _ _ ha hc) (sh _ _ ha hc) ?_
      rw [show PyData.eqv (.list [.str (PyData.shown (.bool (isCode d))), .str (PyData.shown (.bool (isCode d))), .str (PyData.shown d)]) (.list [.str (PyData.shown (.bool (isCode d))), .str (PyData.shown (.bool (isCode d))), .str (PyData.shown d)]) = true from by simp [PyData.eqv, PyData.eqvAll]]
      refine ⟨_, rfl, iff0 ?_⟩
      tm_at "go"
      have sE := s7.trans (s8.trans (s9.trans (sA.trans sB)))
      exact ⟨_, _, _, _, _, _, _, rfl, S6.same sE, V6.same sE⟩
    · rintro σ' H6 ⟨v5, v6, v7, v8, v9, v10, v11, rfl, S6, V6⟩
      exact ⟨_, _, _, _, _, _, _, rfl, S6⟩
  rintro _ H5 ⟨v5, v6, v7, v8, v9, v10, v11, rfl, S5⟩
  refine b_cut (fun σ1 HH => ∃ l us, σ1 = [some (.ref sl), some (.ref fp), some (.ref l1), some (.ref l2), some (.ref lv4), v5, v6, v7, v8, v9, v10, v11, some (.ref l), none] ∧ Nw M.K H5 HH l us fr1) ?_ ?_
  · refine s_set (by tm_at "at") ?_
    refine e_lstD ?_
    refine a_cons (e_tupD ?_)
    tm_at "mk"
    refine ⟨(Nat.le_of_ble_eq_true rfl), fun l H' s n g => ?_⟩
    exact ⟨l, _, rfl, by tm_at "same", same_none (by tm_at "same") n, g, by tm_at "dts"⟩
  rintro _ H6 ⟨l6, u6, rfl, w6⟩
  refine b_cut (fun σ1 HH => ∃ l us, σ1 = [some (.ref sl), some (.ref fp), some (.ref l1), some (.ref l2), some (.ref lv4), v5, v6, v7, v8, v9, v10, v11, some (.ref l), none] ∧ Nw M.K H5 HH l us (fr1 ++ fr2)) ?_ ?_
  · refine s_set (by tm_at "at") ?_
    refine e_bin ?_
    refine e_var (by tm_at "at") ?_
    refine e_lstD ?_
    refine a_cons (e_tupD ?_)
    tm_at "mk"
    refine ⟨(Nat.le_of_ble_eq_true rfl), fun l HX s n g => ?_⟩
    exact ro_catW w6 (by tm_at "same") g (by tm_at "dts" : DtAll _ _ _ fr2) (Nat.le_of_ble_eq_true rfl) fun p us HY wy sy => ⟨p, _, rfl, wy⟩
  rintro _ H7 ⟨l7, u7, rfl, w7⟩
  refine b_cut (fun σ1 HH => ∃ l us, σ1 = [some (.ref sl), some (.ref fp), some (.ref l1), some (.ref l2), some (.ref lv4), v5, v6, v7, v8, v9, v10, v11, some (.ref l), none] ∧ Nw M.K H5 HH l us (fr1 ++ fr2 ++ fr3)) ?_ ?_
  · refine s_set (by tm_at "at") ?_
    refine e_bin ?_
    refine e_var (by tm_at "at") ?_
    refine e_lstD ?_
    refine a_cons (e_tupD ?_)
    tm_at "mk"
    refine ⟨(Nat.le_of_ble_eq_true rfl), fun l HX s n g => ?_⟩
    exact ro_catW w7 (by tm_at "same") g (by tm_at "dts" : DtAll _ _ _ fr3) (Nat.le_of_ble_eq_true rfl) fun p us HY wy sy => ⟨p, _, rfl, wy⟩
  rintro _ H8 ⟨l8, u8, rfl, w8⟩
  have S8 := S5.same w8.s
  refine b_cut (fun σ1 H9 => σ1 = [some (.ref sl), some (.ref fp), some (.ref l1), some (.ref l2), some (.ref lv4), v5, v6, v7, v8, v9, v10, v11, some (.ref l8), none] ∧ Hands M.K fp cl 477 l1 l2 u1 u2 H9) ?_ ?_
  · tm_at "go"
    refine e_lc (own := [("_law_part_here", 13)]) (Blk.of (N := N_law) (sc := defScope s_law) rfl rfl (by decide +kernel)) ?_
    refine lcL_F (fun _ => none) ?_
    tm_at "go"
    refine ro_cat S8.g2 w8.g (by rw [S8.d2.len, w8.d.len]; decide) fun pc HC sc nc gc => ?_
    refine ⟨pc, _, wrongs ++ (fr1 ++ fr2 ++ fr3), rfl, .of gc, (S8.d2.mono (tp_same sc)).app (w8.d.mono (tp_same sc)), by decide, fun d x H' hd s hx => ?_, fun p us H3 s3 n3 g3 h3 => ?_⟩
    · obtain ⟨ok, no⟩ := far_no d hd
      refine g_name (by tm_at "at") ⟨rfl, rfl, ts_one ?_⟩
      refine t_cmp ?_
      refine e_callF dic ?_
      refine a_cons ?_
      refine e_tupD ?_
      tm_at "go"
      refine tupend (.cons hx .nil) (Nat.le_of_ble_eq_true rfl) fun v H8 s8 h8 => ?_
      refine a_nil ?_
      refine ⟨_, _, .cons h8 .nil, ⟨_, rfl, ok.1, ok.len, rfl⟩, fun v4 H4 s4 h4 => ?_⟩
      rw [no] at h4
      cases h4
      refine e_bl ?_
      refine ro_notB ?_
      exact ⟨_, rfl, s8.trans s4, rfl⟩
    · rw [show (wrongs ++ (fr1 ++ fr2 ++ fr3)).filterMap (fun _ => (none : Option PyData)) = [] from by simp] at h3
      cases h3
      refine e_lstD ?_
      tm_at "go"
      refine ⟨(Nat.le_of_ble_eq_true rfl), fun q0 H9 s9 n9 g9 => ?_⟩
      refine ro_neNil (ds := []) (n := 1) (s9 _ _ g3) .nil (fun d hd => nomatch hd) (by decide) g9 ?_
      refine ⟨_, rfl, iff0 ?_⟩
      tm_at "go"
      exact ⟨rfl, S8.same (sc.trans (s3.trans s9))⟩
  rintro _ H9 ⟨rfl, S9⟩
  refine b_one ?_
  refine s_ret ?_
  refine e_cmp ?_
  refine e_callF dic ?_
  tm_at "go"
  refine rc_tupL (.of S9.g1) S9.d1 fun vA HA sA hA => ?_
  have okr : Okd (.tuple rights) := hv_ok _ (List.mem_append_right _ (List.mem_cons_self ..))
  refine a_nil ?_
  refine ⟨_, _, .cons hA .nil, ⟨_, rfl, okr.1, okr.len, rfl⟩, fun vB HB sB hB => ?_⟩
  rw [rights_yes] at hB
  cases hB
  refine e_bl ?_
  refine ro_isB ?_
  exact k HB
end K

namespace G
open PySem PySem.Spec PyProof.Rows L2
/-! ### the law's call, for a def that is proved where no text of an object is being written -/
section
variable {P : Program} {w : World} {K : PySem.W.Frag} {mg mb : Str → Option Value} {k : Nat}
variable {fa sc : Addr} {fd : FuncData} {x : Str} {sp : Sp} {st : Shared} {us : List Value} {ns : List Int}
abbrev scrO (us : List Value) : Obj := { cls := .type "list", data := .seq us.toArray }
/-- how the call ends -/
abbrev Ended (st : Shared) : Result → Shared → Prop := fun r s2 =>
  r = .ok (.ret (.bool true)) ∧ OldK st.heap s2.heap ∧ s2.os = st.os ∧ AllBare s2.gens
theorem begun {H : Hp} (kin : K.In st.heap) (nsg : st.heap.Ns mainGlobals mg) (nsb : st.heap.Ns builtinsNs mb)
    (bis : ∀ y : Str, y ≠ "__name__" → mb y = bootBuiltins y) (lim : st.heap.NoLimit) (gens : st.gens = #[])
    (obj : st.heap.get? sc = some (scrO us)) (ars : IntsAre us ns) (few : ns.length ≤ sizeLine) (room : Room k callerA)
    (F : ∀ bs : Heap, K.In bs → bs.Ns mainGlobals mg → FnQ P w K mg bs CX0 k fa fd [x] sp)
    (bnd : ∀ (s : Shared) (u : Value), BindsTo s fd ⟨[u], []⟩ [(x, u)])
    (seen : ∀ b u, H b = some u → b = sc ∧ K.lookup sc = none ∧ u = .frz (scrO us) (.lst (ns.map V.int)))
    (want : sp [.ref sc] H (fun v _ => v = .bl true) fun _ _ _ => False) :
    codeAny (model P w) callerA (.call (.ref fa) ⟨[.ref sc], []⟩) (Ended st) st := by
  have clear : ∀ {b : Addr}, b ≠ sc → H b = none := fun {b} nb => by
    cases e : H b with
    | none => rfl
    | some u => exact absurd (seen b u e).1 nb
  have far : ∀ {b : Addr} {m : Str → Option Value}, st.heap.Ns b m → (hidT st.heap H).Ns b m := by
    rintro b m ⟨o, es, ep, e, isd, r⟩
    refine ⟨o, es, ep, hidT_get e (clear fun q => ?_), isd, r⟩
    subst q
    cases obj.symm.trans e
    have isd2 : Data.seq us.toArray _ = Data.dict es ep := isd
    cases isd2
  have mod : Mod K mg (hidT st.heap H) := by
    refine ⟨fun b o e => hidT_get (kin b o e) ?_, far nsg, ⟨mb, far nsb, bis⟩, ?_⟩
    · cases q : H b with
      | none => rfl
      | some u =>
        obtain ⟨rfl, non, _⟩ := seen b u q
        cases non.symm.trans e
    · obtain ⟨mc, l1, l2⟩ := lim
      exact ⟨mc, far l1, l2⟩
  have laid : HOk P w H st.heap := fun b u q => by
    obtain ⟨rfl, _, rfl⟩ := seen b u q
    exact ⟨obj, by rw [List.length_map]; exact few, us, _, vals_ints ars, obj⟩
  have env : Env0 P w K mg (hidT st.heap H) callerA [] st H :=
    { frames := rfl
      mod := mod
      bs := fun _ _ => of_hidT
      bsz := Nat.le_of_eq (hidT_size ..)
      funs := trivial
      frf := fun b q => absurd (show b ∈ ([] : List Addr) from q) List.not_mem_nil
      hok := laid
      bare := .of_eq gens }
  have run := (F _ mod.kin mod.glob).run callerA [] st H ⟨[.ref sc], []⟩ [.ref sc] [.ref sc] _ _ rfl room env (bnd st _) (.cons rfl .nil) want
  refine codeAny_mono run fun r s2 z => ?_
  match r, z with
  | .ok (.ret u), ⟨v, H2, os2, bare2, un2, laid2, rv2, q2⟩ =>
    obtain rfl : v = .bl true := q2
    obtain rfl : u = Value.bool true := rv2
    refine ⟨rfl, .of_keep fun b o e => ?_, os2, bare2⟩
    cases q : H b with
    | none => exact un2.keep b o e q (fun m => absurd (show b ∈ ([] : List Addr) from m) List.not_mem_nil) List.not_mem_nil
    | some y =>
      obtain ⟨rfl, _, rfl⟩ := seen b y q
      obtain ⟨e2, _⟩ := laid2 b _ (un2.frzs b _ _ q)
      cases obj.symm.trans e
      exact e2
theorem begunAll (kin : K.In st.heap) (nsg : st.heap.Ns mainGlobals mg) (nsb : st.heap.Ns builtinsNs mb)
    (bis : ∀ y : Str, y ≠ "__name__" → mb y = bootBuiltins y) (lim : st.heap.NoLimit) (gens : st.gens = #[])
    (obj : st.heap.get? sc = some (scrO us)) (ars : IntsAre us ns) (few : ns.length ≤ sizeLine) (room : Room k callerA)
    (F : ∀ bs : Heap, K.In bs → bs.Ns mainGlobals mg → FnQ P w K mg bs CX0 k fa fd [x] sp)
    (bnd : ∀ (s : Shared) (u : Value), BindsTo s fd ⟨[u], []⟩ [(x, u)])
    (want : ∀ H : Hp, SqL K H sc (ns.map V.int) → sp [.ref sc] H (fun v _ => v = .bl true) fun _ _ _ => False) :
    codeAny (model P w) callerA (.call (.ref fa) ⟨[.ref sc], []⟩) (Ended st) st := by
  cases lk : K.lookup sc with
  | none =>
    let H1 : Hp := fun b => if b = sc then some (.frz (scrO us) (.lst (ns.map V.int))) else none
    have h1 : H1 sc = some (.frz (scrO us) (.lst (ns.map V.int))) := if_pos rfl
    refine begun (H := H1) kin nsg nsb bis lim gens obj ars few room F bnd (fun b u q => ?_) (want H1 (.inl (.inr ⟨_, h1⟩)))
    by_cases e : b = sc
    · subst e
      exact ⟨rfl, lk, Option.some.inj (q.symm.trans h1)⟩
    · have q2 : H1 b = none := if_neg e
      cases q2.symm.trans q
  | some o =>
    have len := ars.length
    cases obj.symm.trans (kin sc o lk)
    have sq : SqL K (fun _ => none) sc (ns.map V.int) := by
      refine .inr ⟨_, us.toArray, _, lk, rfl, rfl, rfl, ?_, ?_⟩
      · rw [List.size_toArray, len]
        exact few
      · simpa using vals_ints ars
    exact begun (H := fun _ => none) kin nsg nsb bis lim gens obj ars few room F bnd (fun _ _ q => nomatch q) (want _ sq)
end
end G
namespace G
open PySem PySem.Spec PyProof.Rows L2
theorem walk_begun {l : PySem.W.OpenLaw} {n k : Nat} {q : Program} {loose : List Str} {d : DefRec} {x : Str}
    {XP : (Str → Option Value) → Heap → Prop} {YP : World → Heap → Prop} (most : l.most = some n) (small : n ≤ sizeLine) (nod : d.params.defaults = [])
    (room : Room k callerA) (F : ∀ (w : World) (mg : Str → Option Value) (fa : Addr) (h : Heap), YP w h → h.Ns mainGlobals mg →
      mg d.name = some (.ref fa) → ∃ (K : PySem.W.Frag) (fd : FuncData) (sp : Sp), K.In h ∧
        (∀ (s : Shared) (u : Value), BindsTo s fd ⟨[u], []⟩ [(x, u)]) ∧
        (∀ (H : Hp) (a : Addr) (ns : List Int), ns.length ≤ n → SqL K H a (ns.map V.int) →
          sp [.ref a] H (fun v _ => v = .bl true) fun _ _ _ => False) ∧
        ∀ bs : Heap, K.In bs → bs.Ns mainGlobals mg → FnQ l.prog w K mg bs CX0 k fa fd [x] sp) :
    PySem.W.WalkO q loose XP YP l.row.toRowW d [] (fun f vs => PySem.call f vs) := by
  refine Att.attach_call most nod ?_
  intro w s0 s1 mg mb fa o pm cd doc a vs ns T Y _ _ _ hmg obj ars len gens
  obtain ⟨K, fd, sp, kin, bnd, want, ok⟩ := F w mg fa _ Y T.T.g hmg
  exact begunAll kin T.T.g T.T.b T.T.builtins T.T.nolimit gens obj ars (Nat.le_trans len small) room ok bnd fun H sq => want H a ns len sq
end G

namespace K
open PySem PySem.Spec PyProof.Rows L2 G
theorem fun_of {F : PySem.W.Frag} {x qual : Str} {st : Stmt} {f : Addr} {fd : FuncData} {kws : List (Str × V)} (z : FunD F x qual (defArgs st) (defBody st) (defScope st) [] kws f fd) : Fun F x qual st f fd := by
  obtain ⟨oc, od, dV, kV, doc, pm, an, cdv, ct, osl, e, lk, hcd, hD, _⟩ := z.ex
  rcases hD with ⟨_, rfl⟩ | ⟨h, _⟩
  · exact ⟨⟨oc, od, kV, doc, pm, an, cdv, ct, osl, e, lk, hcd⟩, z.kp⟩
  · exact absurd rfl h
theorem dc_of {M : Md} {x : Str} {st : Stmt} {f : Addr} {fd : FuncData} {ps : List Str} {k : Nat} {sp : Sp} (z : FunD M.K x x (defArgs st) (defBody st) (defScope st) [] [] f fd) (hm : M.mg x = some (.ref f))
    (hb : ∀ (kV doc pm : Value) (an : Option Addr) (cdv ct : Value) (us : List Value), us.length = ps.length → bindArgs (PySem.W.fnOf x x (defArgs st) (defBody st) (defScope st) .none kV doc pm an cdv ct) ⟨us, []⟩ = pure (ps.zip us))
    (ok : Fun M.K x x st f fd → FnG M.prog M.w M.K M.mg M.base CX0 k f fd ps sp) : Dc M x ps k sp := ⟨f, fd, ok (fun_of z), hm, z.kp, z.bindsN hb⟩
theorem kw_ofG {K : PySem.W.Frag} {x : Str} {st : Stmt} {f : Addr} {fd : FuncData} {kws : List (Str × V)} {ag : Args} {bs : List (Str × Value)} (z : FunD K x x (defArgs st) (defBody st) (defScope st) [] kws f fd)
    (h : ∀ (kV doc pm : Value) (an : Option Addr) (cdv ct : Value), bindArgs (PySem.W.fnOf x x (defArgs st) (defBody st) (defScope st) .none kV doc pm an cdv ct) ag = pure bs) (s : Shared) : BindsTo s fd ag bs := by
  obtain ⟨_, _, _, kV, doc, pm, an, cdv, ct, _, e, _, _, hD, _⟩ := z.ex
  subst e
  rcases hD with ⟨_, e⟩ | ⟨e, _⟩
  · subst e
    exact .of_eq (h kV doc pm an cdv ct)
  · exact absurd rfl e
set_option maxHeartbeats 4000000 in
theorem whole {M : Md} (b : Bl M) (b2 : Bl2 M) (g46 : Gl46 M) (gp : Parts M)
    (D : ∀ (i : Nat) (d : He.DefD), fns[i]? = some d → ∃ fd, FunD M.K d.name d.qual d.params d.body d.scope (d.dvs M.K) (d.kws M.K) (He.fAd M.K d.at_) fd) (g : ∀ (i : Nat) (x : Str), fas[i]? = some (.glo x) → M.mg x = some (.ref (He.ga M.K x)))
    {fd : FuncData} (zl : FunD M.K "law" "law" (defArgs s_law) (defBody s_law) (defScope s_law) [] [] (He.ga M.K "law") fd) : FnQ M.prog M.w M.K M.mg M.base CX0 7 (He.ga M.K "law") fd ["_law_script"] (spLaw M.K) := by
  obtain ⟨w_is_integer, z_is_integer⟩ : ∃ fd, FunD M.K "is_integer" "is_integer" (defArgs s_is_integer) (defBody s_is_integer) (defScope s_is_integer) [] [] (He.ga M.K "is_integer") fd := D 0 _ rfl
  have m_is_integer : M.mg "is_integer" = some (.ref (He.ga M.K "is_integer")) := g 0 _ rfl
  obtain ⟨w_is_number, z_is_number⟩ : ∃ fd, FunD M.K "is_number" "is_number" (defArgs s_is_number) (defBody s_is_number) (defScope s_is_number) [] [] (He.ga M.K "is_number") fd := D 1 _ rfl
  have m_is_number : M.mg "is_number" = some (.ref (He.ga M.K "is_number")) := g 1 _ rfl
  obtain ⟨w_is_name, z_is_name⟩ : ∃ fd, FunD M.K "is_name" "is_name" (defArgs s_is_name) (defBody s_is_name) (defScope s_is_name) [] [] (He.ga M.K "is_name") fd := D 2 _ rfl
  have m_is_name : M.mg "is_name" = some (.ref (He.ga M.K "is_name")) := g 2 _ rfl
  obtain ⟨w_is_code, z_is_code⟩ : ∃ fd, FunD M.K "is_code" "is_code" (defArgs s_is_code) (defBody s_is_code) (defScope s_is_code) [] [] (He.ga M.K "is_code") fd := D 3 _ rfl
  have m_is_code : M.mg "is_code" = some (.ref (He.ga M.K "is_code")) := g 3 _ rfl
  obtain ⟨w__is_instruction, z__is_instruction⟩ : ∃ fd, FunD M.K "_is_instruction" "_is_instruction" (defArgs s__is_instruction) (defBody s__is_instruction) (defScope s__is_instruction) [] [] (He.ga M.K "_is_instruction") fd := D 4 _ rfl
  have m__is_instruction : M.mg "_is_instruction" = some (.ref (He.ga M.K "_is_instruction")) := g 4 _ rfl
  obtain ⟨w__is_part, z__is_part⟩ : ∃ fd, FunD M.K "_is_part" "_is_part" (defArgs s__is_part) (defBody s__is_part) (defScope s__is_part) [] [] (He.ga M.K "_is_part") fd := D 5 _ rfl
  have m__is_part : M.mg "_is_part" = some (.ref (He.ga M.K "_is_part")) := g 5 _ rfl
  obtain ⟨w__is_place, z__is_place⟩ : ∃ fd, FunD M.K "_is_place" "_is_place" (defArgs s__is_place) (defBody s__is_place) (defScope s__is_place) [] [] (He.ga M.K "_is_place") fd := D 6 _ rfl
  have m__is_place : M.mg "_is_place" = some (.ref (He.ga M.K "_is_place")) := g 6 _ rfl
  obtain ⟨w__law_source, z__law_source⟩ : ∃ fd, FunD M.K "_law_source" "_law_source" (defArgs s__law_source) (defBody s__law_source) (defScope s__law_source) [] [] (He.ga M.K "_law_source") fd := D 7 _ rfl
  have m__law_source : M.mg "_law_source" = some (.ref (He.ga M.K "_law_source")) := g 7 _ rfl
  obtain ⟨w__law_next, z__law_next⟩ : ∃ fd, FunD M.K "_law_next" "_law_next" (defArgs s__law_next) (defBody s__law_next) (defScope s__law_next) [] [] (He.ga M.K "_law_next") fd := D 8 _ rfl
  have m__law_next : M.mg "_law_next" = some (.ref (He.ga M.K "_law_next")) := g 8 _ rfl
  obtain ⟨w__law_rows, z__law_rows⟩ : ∃ fd, FunD M.K "_law_rows" "_law_rows" (defArgs s__law_rows) (defBody s__law_rows) (defScope s__law_rows) [] [] (He.ga M.K "_law_rows") fd := D 9 _ rfl
  have m__law_rows : M.mg "_law_rows" = some (.ref (He.ga M.K "_law_rows")) := g 9 _ rfl
  obtain ⟨w__law_table_places, z__law_table_places⟩ : ∃ fd, FunD M.K "_law_table_places" "_law_table_places" (defArgs s__law_table_places) (defBody s__law_table_places) (defScope s__law_table_places) [] [] (He.ga M.K "_law_table_places") fd := D 10 _ rfl
  have m__law_table_places : M.mg "_law_table_places" = some (.ref (He.ga M.K "_law_table_places")) := g 10 _ rfl
  obtain ⟨w__law_part, z__law_part⟩ : ∃ fd, FunD M.K "_law_part" "_law_part" (defArgs s__law_part) (defBody s__law_part) (defScope s__law_part) [] [] (He.ga M.K "_law_part") fd := D 11 _ rfl
  have m__law_part : M.mg "_law_part" = some (.ref (He.ga M.K "_law_part")) := g 11 _ rfl
  obtain ⟨w__law_code, z__law_code⟩ : ∃ fd, FunD M.K "_law_code" "_law_code" (defArgs s__law_code) (defBody s__law_code) (defScope s__law_code) [] [] (He.ga M.K "_law_code") fd := D 12 _ rfl
  have m__law_code : M.mg "_law_code" = some (.ref (He.ga M.K "_law_code")) := g 12 _ rfl
  obtain ⟨w__law_is_number, z__law_is_number⟩ : ∃ fd, FunD M.K "_law_is_number" "_law_is_number" (defArgs s__law_is_number) (defBody s__law_is_number) (defScope s__law_is_number) [] [] (He.ga M.K "_law_is_number") fd := D 13 _ rfl
  have m__law_is_number : M.mg "_law_is_number" = some (.ref (He.ga M.K "_law_is_number")) := g 13 _ rfl
  obtain ⟨w__law_is_slot, z__law_is_slot⟩ : ∃ fd, FunD M.K "_law_is_slot" "_law_is_slot" (defArgs s__law_is_slot) (defBody s__law_is_slot) (defScope s__law_is_slot) [] [] (He.ga M.K "_law_is_slot") fd := D 14 _ rfl
  have m__law_is_slot : M.mg "_law_is_slot" = some (.ref (He.ga M.K "_law_is_slot")) := g 14 _ rfl
  obtain ⟨w__law_is_name, z__law_is_name⟩ : ∃ fd, FunD M.K "_law_is_name" "_law_is_name" (defArgs s__law_is_name) (defBody s__law_is_name) (defScope s__law_is_name) [] [] (He.ga M.K "_law_is_name") fd := D 15 _ rfl
  have m__law_is_name : M.mg "_law_is_name" = some (.ref (He.ga M.K "_law_is_name")) := g 15 _ rfl
  obtain ⟨w__law_is_place, z__law_is_place⟩ : ∃ fd, FunD M.K "_law_is_place" "_law_is_place" (defArgs s__law_is_place) (defBody s__law_is_place) (defScope s__law_is_place) [] [] (He.ga M.K "_law_is_place") fd := D 16 _ rfl
  have m__law_is_place : M.mg "_law_is_place" = some (.ref (He.ga M.K "_law_is_place")) := g 16 _ rfl
  obtain ⟨w__law_is_op, z__law_is_op⟩ : ∃ fd, FunD M.K "_law_is_op" "_law_is_op" (defArgs s__law_is_op) (defBody s__law_is_op) (defScope s__law_is_op) [] [] (He.ga M.K "_law_is_op") fd := D 17 _ rfl
  have m__law_is_op : M.mg "_law_is_op" = some (.ref (He.ga M.K "_law_is_op")) := g 17 _ rfl
  obtain ⟨w__law_is_whole, z__law_is_whole⟩ : ∃ fd, FunD M.K "_law_is_whole" "_law_is_whole" (defArgs s__law_is_whole) (defBody s__law_is_whole) (defScope s__law_is_whole) [] [] (He.ga M.K "_law_is_whole") fd := D 18 _ rfl
  have m__law_is_whole : M.mg "_law_is_whole" = some (.ref (He.ga M.K "_law_is_whole")) := g 18 _ rfl
  obtain ⟨w__law_is_part, z__law_is_part⟩ : ∃ fd, FunD M.K "_law_is_part" "_law_is_part" (defArgs s__law_is_part) (defBody s__law_is_part) (defScope s__law_is_part) [] [] (He.ga M.K "_law_is_part") fd := D 19 _ rfl
  have m__law_is_part : M.mg "_law_is_part" = some (.ref (He.ga M.K "_law_is_part")) := g 19 _ rfl
  obtain ⟨w__law_is_code, z__law_is_code⟩ : ∃ fd, FunD M.K "_law_is_code" "_law_is_code" (defArgs s__law_is_code) (defBody s__law_is_code) (defScope s__law_is_code) [] [] (He.ga M.K "_law_is_code") fd := D 20 _ rfl
  have m__law_is_code : M.mg "_law_is_code" = some (.ref (He.ga M.K "_law_is_code")) := g 20 _ rfl
  obtain ⟨w__law_bent, z__law_bent⟩ : ∃ fd, FunD M.K "_law_bent" "_law_bent" (defArgs s__law_bent) (defBody s__law_bent) (defScope s__law_bent) [] [] (He.ga M.K "_law_bent") fd := D 21 _ rfl
  have m__law_bent : M.mg "_law_bent" = some (.ref (He.ga M.K "_law_bent")) := g 21 _ rfl
  obtain ⟨w__law_by_hand, z__law_by_hand⟩ : ∃ fd, FunD M.K "_law_by_hand" "_law_by_hand" (defArgs s__law_by_hand) (defBody s__law_by_hand) (defScope s__law_by_hand) [] [] (He.ga M.K "_law_by_hand") fd := D 22 _ rfl
  have m__law_by_hand : M.mg "_law_by_hand" = some (.ref (He.ga M.K "_law_by_hand")) := g 22 _ rfl
  have dii := dc_of (st := s_is_integer) z_is_integer m_is_integer (fun _ _ _ _ _ _ us hl => match us, hl with | [_], _ => rfl) (fun F => ok_isint F b)
  have diu := dc_of (st := s_is_number) z_is_number m_is_number (fun _ _ _ _ _ _ us hl => match us, hl with | [_], _ => rfl) (fun F => ok_isnum F b dii)
  have din := dc_of (st := s_is_name) z_is_name m_is_name (fun _ _ _ _ _ _ us hl => match us, hl with | [_], _ => rfl) (fun F => ok_isname F b b2 g46)
  have dip := dc_of (st := s__is_place) z__is_place m__is_place (fun _ _ _ _ _ _ us hl => match us, hl with | [_], _ => rfl) (fun F => ok_isplace F b din diu)
  have dpt := dc_of (st := s__is_part) z__is_part m__is_part (fun _ _ _ _ _ _ us hl => match us, hl with | [_, _], _ => rfl) (fun F => ok_ispart F b g46 dii din diu dip)
  have dis := dc_of (st := s__is_instruction) z__is_instruction m__is_instruction (fun _ _ _ _ _ _ us hl => match us, hl with | [_], _ => rfl) (fun F => ok_isins F b b2 gp dpt)
  have dic := dc_of (st := s_is_code) z_is_code m_is_code (fun _ _ _ _ _ _ us hl => match us, hl with | [_], _ => rfl) (fun F => ok_iscode F b b2 dis)
  have dsr := dc_of (st := s__law_source) z__law_source m__law_source (fun _ _ _ _ _ _ us hl => match us, hl with | [_], _ => rfl) (fun F => ok_src F b)
  have dn := dc_of (st := s__law_next) z__law_next m__law_next (fun _ _ _ _ _ _ us hl => match us, hl with | [_, _], _ => rfl) (fun F => ok_next F b)
  have dro := dc_of (st := s__law_rows) z__law_rows m__law_rows (fun _ _ _ _ _ _ us hl => match us, hl with | [_], _ => rfl) (fun F => ok_rows F b dn)
  have dtp := dc_of (st := s__law_table_places) z__law_table_places m__law_table_places (fun _ _ _ _ _ _ us hl => match us, hl with | [_], _ => rfl) (fun F => ok_tab F b)
  have dpa := dc_of (st := s__law_part) z__law_part m__law_part (fun _ _ _ _ _ _ us hl => match us, hl with | [_, _, _, _], _ => rfl) (fun F => ok_part F b dn dtp)
  have dco := dc_of (st := s__law_code) z__law_code m__law_code (fun _ _ _ _ _ _ us hl => match us, hl with | [_, _, _], _ => rfl) (fun F => ok_code F b dn dpa)
  have dlu := dc_of (st := s__law_is_number) z__law_is_number m__law_is_number (fun _ _ _ _ _ _ us hl => match us, hl with | [_], _ => rfl) (fun F => ok_lnum F b)
  have dls := dc_of (st := s__law_is_slot) z__law_is_slot m__law_is_slot (fun _ _ _ _ _ _ us hl => match us, hl with | [_], _ => rfl) (fun F => ok_lslot F b dlu)
  have dlm := dc_of (st := s__law_is_name) z__law_is_name m__law_is_name (fun _ _ _ _ _ _ us hl => match us, hl with | [_], _ => rfl) (fun F => ok_lname F b)
  have dlp := dc_of (st := s__law_is_place) z__law_is_place m__law_is_place (fun _ _ _ _ _ _ us hl => match us, hl with | [_], _ => rfl) (fun F => ok_lplace F b dlm dlu)
  have dlo := dc_of (st := s__law_is_op) z__law_is_op m__law_is_op (fun _ _ _ _ _ _ us hl => match us, hl with | [_], _ => rfl) (fun F => ok_lop F b)
  have dlw := dc_of (st := s__law_is_whole) z__law_is_whole m__law_is_whole (fun _ _ _ _ _ _ us hl => match us, hl with | [_], _ => rfl) (fun F => ok_lwhole F b)
  obtain ⟨fS, mS, vS⟩ := fnv_of (m := 3) dls (by decide)
  obtain ⟨fW, mW, vW⟩ := fnv_of (m := 3) dlw (by decide)
  obtain ⟨fP, mP, vP⟩ := fnv_of (m := 3) dlp (by decide)
  obtain ⟨fN, mN, vN⟩ := fnv_of (m := 3) dlu (by decide)
  obtain ⟨fM, mM, vM⟩ := fnv_of (m := 3) dlm (by decide)
  obtain ⟨fO, mO, vO⟩ := fnv_of (m := 3) dlo (by decide)
  have gf : Fns M fS fW fP fN fM fO := ⟨⟨mS, vS⟩, ⟨mW, vW⟩, ⟨mP, vP⟩, ⟨mN, vN⟩, ⟨mM, vM⟩, ⟨mO, vO⟩⟩
  have dlpt := dc_of (st := s__law_is_part) z__law_is_part m__law_is_part (fun _ _ _ _ _ _ us hl => match us, hl with | [_], _ => rfl) (fun F => ok_lpart F b gf)
  have dlc := dc_of (st := s__law_is_code) z__law_is_code m__law_is_code (fun _ _ _ _ _ _ us hl => match us, hl with | [_], _ => rfl) (fun F => ok_lcode F b dlpt)
  have dbe : ∀ n, n ≤ 40 → dcBent M n := fun n => Nat.rec (motive := fun n => n ≤ 40 → dcBent M n) (fun h => dc_of (st := s__law_bent) z__law_bent m__law_bent (fun _ _ _ _ _ _ us hl => match us, hl with | [_, _], _ => rfl) (fun F => ok_bent 0 h F b dn (fun j e => by omega))) (fun n ih h => dc_of (st := s__law_bent) z__law_bent m__law_bent (fun _ _ _ _ _ _ us hl => match us, hl with | [_, _], _ => rfl) (fun F => ok_bent (n + 1) h F b dn (fun j e => match j, Nat.succ.inj e with | _, rfl => ih (by omega)))) n
  have dha := dc_of (st := s__law_by_hand) z__law_by_hand m__law_by_hand (fun _ _ _ _ _ _ us hl => match us, hl with | [], _ => rfl) (fun F => ok_hand F b)
  have kic : DcK M "is_code" ["thing"] ["thing"] (fun zs => zs) 6 (spF (rC isCode) M.K) := ⟨_, _, fun ws => ws, ok_iscode (fun_of z_is_code) b b2 dis, m_is_code, z_is_code.kp, fun s ws l => match ws, l with | [_], _ => kw_ofG z_is_code (fun _ _ _ _ _ _ => rfl) s, fun zs ws r _ => r⟩
  exact ok_law (fun_of zl) b b2 dsr dha dn dro dco (dbe 3 (by decide)) dic dlc kic
end K

namespace K
open PySem PySem.Spec PyProof.Rows L2 G
theorem words_ok {K : PySem.W.Frag} {a : Addr} {ws : List Str} (h : wordsAt K a ws = true) (H : Hp) : SqT K H a (ws.map V.str) := by
  unfold wordsAt at h
  split at h
  · rename_i t od its n osl q
    obtain ⟨h1, h2⟩ := He.ba h
    obtain ⟨h3, h4⟩ := He.ba h2
    exact .inr ⟨_, its, n, q, congrArg Value.type (of_decide_eq_true h1), rfl, of_decide_eq_true h3, He.relAll_ok h4⟩
  · cases h
theorem part_ok {K : PySem.W.Frag} {q : Str × List Str} (h : partB K q = true) : ∃ b, PySem.W.nsIn K (He.ga K "PARTS") q.1 = some (some (.ref b)) ∧ ∀ H, SqT K H b (q.2.map V.str) := by
  unfold partB at h
  split at h
  · rename_i b e
    exact ⟨b, e, words_ok h⟩
  · cases h
theorem form_in {z : Str} {ws : List Str} (h : formK z = some ws) : (z, ws) ∈ partsL := by
  unfold formK at h
  repeat' split at h
  all_goals first
    | (cases h; subst_vars; decide)
    | cases h
theorem form_out {z : Str} (h : formK z = none) : z ∉ partKeys := by
  intro hz
  have hk : ∀ w ∈ partKeys, (formK w).isSome = true := by decide +kernel
  have := hk z hz
  rw [h] at this
  cases this
/-- a text that is no key of a table of texts -/
theorem ns_out {K : PySem.W.Frag} {P : Params} {a : Addr} {ks : List Str} {z : Str} (h : He.dicW K a = some (He.keysIn P ks)) (hz : z ∉ ks) : PySem.W.nsIn K a z = some none := by
  unfold He.dicW at h
  split at h
  · rename_i t es n sl q
    split at h
    · have hk : es.toList.map He.keyOf = He.keysIn P ks := Option.some.inj h
      have key : ∀ e ∈ es.toList, ∃ k t, k ∈ ks ∧ e.key = .str k t := fun e he => by
        have h1 : He.keyOf e ∈ He.keysIn P ks := by rw [← hk]; exact List.mem_map.mpr ⟨e, he, rfl⟩
        obtain ⟨k, hk1, hk2⟩ := List.mem_map.mp h1
        unfold He.keyOf at hk2
        split at hk2
        · rename_i x t e1
          obtain ⟨rfl, _⟩ := Prod.mk.inj (Option.some.inj hk2)
          exact ⟨_, t, hk1, e1⟩
        · cases hk2
      unfold PySem.W.nsIn
      rw [q]
      have f1 : es.toList.find? (·.key.isStr z) = none := List.find?_eq_none.mpr fun e he hs => by
        obtain ⟨k, t, hk1, e1⟩ := key e he
        rw [e1] at hs
        have : k = z := by simpa [Value.isStr] using hs
        exact hz (this ▸ hk1)
      have f2 : es.toList.any (·.refKey) = false := List.any_eq_false.mpr fun e he => by
        obtain ⟨k, t, _, e1⟩ := key e he
        simp [DictEntry.refKey, e1]
      show (match es.toList.find? (·.key.isStr z) with
        | some e => some (some e.val)
        | none => if es.toList.any (·.refKey) then none else some none) = some none
      rw [f1, f2]
      rfl
    · cases h
  · cases h
theorem facts {P : Program} {w : World} {F : PySem.W.Frag} {h : Heap} {mg : Str → Option Value} {f : Addr} (X : F.In h) (N : h.Ns mainGlobals mg) (hf : mg ("law" : Str) = some (.ref f)) (c : He.SaysX fas fns [partsTab] [] ruleB w h F) :
    ∃ fd : FuncData, (∀ (s : Shared) (v : Value), BindsTo s fd ⟨[v], []⟩ [("_law_script", v)]) ∧ ∀ base : Heap, F.In base → base.Ns mainGlobals mg → FnQ P w F mg base CX0 7 f fd ["_law_script"] (spLaw F) := by
  have cd : He.SaysD fas fns F := congrArg (fun z : He.AlT => z.1) c.t
  have ct : [He.dicW F (He.ga F "PARTS")] = [some (He.keysIn w.params partKeys)] := congrArg (fun z : He.AlT => z.2) c.t
  have ct := (List.cons.inj ct).1
  have glo : ∀ (i : Nat) (x : Str), fas[i]? = some (.glo x) → mg x = some (.ref (He.ga F x)) := fun i x hx => He.glo_ok X N (cd.fact i hx)
  have fre : ∀ (i : Nat) (x : Str), fas[i]? = some (.free x) → mg x = none := fun i x hx => He.free_ok X N (cd.fact i hx)
  obtain ⟨fd, zl⟩ : ∃ fd, FunD F "law" "law" (defArgs s_law) (defBody s_law) (defScope s_law) [] [] (He.ga F "law") fd := cd.def_ 23 rfl
  have e := hf.symm.trans (glo 23 _ rfl)
  cases e
  obtain ⟨t1, t2⟩ := He.ba c.more
  obtain ⟨es, n, kd⟩ := He.dicW_ok ct
  have gp : Parts (⟨P, w, F, mg, h⟩ : Md) := ⟨_, es, n, glo 41 _ rfl, kd, fun z => by
    cases hz : formK z with
    | none => exact ns_out ct (form_out hz)
    | some ws => exact part_ok (List.all_eq_true.mp t2 _ (form_in hz))⟩
  obtain ⟨k1, e1⟩ := He.str_ok (x := "LETTERS") (z := letters) X N (cd.fact 42 rfl)
  obtain ⟨k2, e2⟩ := He.int_ok (x := "LONGEST_NAME") (i := 8) X N (cd.fact 43 rfl)
  obtain ⟨k3, e3⟩ := He.int_ok (x := "SLOTS") (i := 32) X N (cd.fact 44 rfl)
  refine ⟨fd, fun s v => FunD.bindsA (ps := ["_law_script"]) zl (fun _ _ _ _ _ _ us hl => match us, hl with | [_], _ => rfl) s [v] rfl, fun base _ _ => ?_⟩
  exact whole (M := ⟨P, w, F, mg, base⟩) ⟨fre 24 _ rfl, fre 25 _ rfl, fre 26 _ rfl, fre 27 _ rfl, fre 28 _ rfl, fre 29 _ rfl, fre 30 _ rfl, fre 31 _ rfl, fre 32 _ rfl, fre 33 _ rfl, fre 34 _ rfl, fre 35 _ rfl, fre 36 _ rfl⟩ ⟨fre 37 _ rfl, fre 38 _ rfl, fre 39 _ rfl⟩
    ⟨⟨_, e1, k1, rfl⟩, ⟨_, e2, k2, rfl⟩, ⟨_, e3, k3, rfl⟩, ⟨_, glo 40 _ rfl, fun H => He.tupB_ok t1 H⟩⟩ ⟨gp.ex⟩ (fun i d hd => cd.def_ i hd) glo zl
end K
open PySem PySem.W PySem.Calls PyProof.Rows
set_option maxHeartbeats 0 in
theorem PySem.Challenge.cw_orderless_k46_code_by_kind_holds : PySem.Challenge.rw_orderless_k46_code_by_kind.Holds := by
  w_on; o_law
  refine HandSHeadRun.head_any (r := K.Rw) (q := view K.Rw.prog [K.lawAt]) (H := K.ownHook) (ob := K.obT) (M := 9000) (loose := K.loose) (d := HandSHeadRun.topDef K.Rw.prog K.lawAt) (kwd := []) K.obT_eq
    (by kernel_rfl) (fun s => by kernel_rfl) K.topRun (by kernel_rfl) (by kernel_rfl) (by kernel_rfl) (by rfl) (by first | assumption | decide +kernel) (by decide +kernel) ⟨rfl, rfl, rfl, rfl, rfl, by decide +kernel⟩ ?hw ?hc
  case hw => w_witness2
  case hc =>
    refine G.walk_begun (l := PySem.Challenge.rw_orderless_k46_code_by_kind) (n := 63) (k := 7) (x := "_law_script") rfl (by decide) (by kernel_rfl) ⟨rfl, by decide, by decide⟩ ?F
    intro w mg fa h Y N hmg0
    obtain ⟨F, FX, c⟩ := Y
    have nm : (HandSHeadRun.topDef K.Rw.prog K.lawAt).name = ("law" : PySem.Str) := by kernel_rfl
    rw [nm] at hmg0
    obtain ⟨fd, hb, ok⟩ := K.facts (P := PySem.Challenge.rw_orderless_k46_code_by_kind.prog) (w := w) FX N hmg0 c
    exact ⟨F, fd, K.spLaw F, FX, hb, fun H a ns few is => ⟨a, ns, rfl, is, fun _ => rfl⟩, ok⟩

