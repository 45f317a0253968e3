import PyProof.Rows.All
import Wide.All
import OpenK.AllK
import Wide.FinOn
import HandS.ForMost
import HandS.More
import HandS.IsInst
import HandS.Defaults
import HandS.Wide
import HandS.Flow
import HandS.Walk
import HandS.Evl
import HandS.FStr
import HandS.Star
import HandS.StrMore
import HandS.TupAny
import HandS.MakeKw
import HandS.MakeKwOnly
import HandS.Style
import HandS.RaiseMore
import KE.LtData
import KE.IntTextLaws
import KE.IntTextText
import KE.KIntText
import KE.KUnpackStar
import HandS.IterVal
import HandS.Replace
import PySem.Challenge.RW_spinemarks_k44_behind_a_head
set_option Elab.async false
set_option linter.all false
set_option maxRecDepth 100000
set_option maxHeartbeats 4000000
set_option pp.maxSteps 400
set_option pp.deepTerms false


namespace My
open PySem PySem.Spec PyProof.Rows L2 Evl
def top (i : Nat) : Stmt := PySem.Challenge.pw_spinemarks_k44_behind_a_head.main.body.getD i (.Pass ⟨0, 0, 0, 0⟩)
abbrev s_is_number : Stmt := top 15
theorem sc_is_number : FnScope ["thing"] ["thing"] (defScope s_is_number) := ⟨rfl, rfl, rfl, by decide +kernel, rfl, by decide +kernel, by decide +kernel⟩
abbrev s_is_whole : Stmt := top 16
theorem sc_is_whole : FnScope ["thing", "low", "high"] ["thing", "low", "high"] (defScope s_is_whole) := ⟨rfl, rfl, rfl, by decide +kernel, rfl, by decide +kernel, by decide +kernel⟩
abbrev s_is_figures : Stmt := top 17
theorem sc_is_figures : FnScope ["text"] ["text"] (defScope s_is_figures) := ⟨rfl, rfl, rfl, by decide +kernel, rfl, by decide +kernel, by decide +kernel⟩
abbrev s_is_letters : Stmt := top 18
theorem sc_is_letters : FnScope ["thing", "most"] ["thing", "most"] (defScope s_is_letters) := ⟨rfl, rfl, rfl, by decide +kernel, rfl, by decide +kernel, by decide +kernel⟩
abbrev s_is_points : Stmt := top 19
theorem sc_is_points : FnScope ["thing"] ["thing"] (defScope s_is_points) := ⟨rfl, rfl, rfl, by decide +kernel, rfl, by decide +kernel, by decide +kernel⟩
abbrev s_is_maker : Stmt := top 20
theorem sc_is_maker : FnScope ["thing"] ["thing"] (defScope s_is_maker) := ⟨rfl, rfl, rfl, by decide +kernel, rfl, by decide +kernel, by decide +kernel⟩
abbrev s_is_ended : Stmt := top 21
theorem sc_is_ended : FnScope ["text"] ["text"] (defScope s_is_ended) := ⟨rfl, rfl, rfl, by decide +kernel, rfl, by decide +kernel, by decide +kernel⟩
abbrev s_Mark_init : Stmt := inClass (top 23) 0
theorem sc_Mark_init : FnScope ["self", "letters", "number", "points", "makers", "year", "copy", "kept"] ["self", "letters", "number", "points", "makers", "year", "copy"] (defScope s_Mark_init) := ⟨rfl, rfl, rfl, by decide +kernel, rfl, by decide +kernel, by decide +kernel⟩
abbrev s_Mark_eq : Stmt := inClass (top 23) 1
theorem sc_Mark_eq : FnScope ["self", "other"] ["self", "other"] (defScope s_Mark_eq) := ⟨rfl, rfl, rfl, by decide +kernel, rfl, by decide +kernel, by decide +kernel⟩
abbrev s_Mark_str : Stmt := inClass (top 23) 2
theorem sc_Mark_str : FnScope ["self"] ["self"] (defScope s_Mark_str) := ⟨rfl, rfl, rfl, by decide +kernel, rfl, by decide +kernel, by decide +kernel⟩
abbrev s_Mark_repr : Stmt := inClass (top 23) 3
theorem sc_Mark_repr : FnScope ["self"] ["self"] (defScope s_Mark_repr) := ⟨rfl, rfl, rfl, by decide +kernel, rfl, by decide +kernel, by decide +kernel⟩
abbrev s_Mark_len : Stmt := inClass (top 23) 4
theorem sc_Mark_len : FnScope ["self"] ["self"] (defScope s_Mark_len) := ⟨rfl, rfl, rfl, by decide +kernel, rfl, by decide +kernel, by decide +kernel⟩
abbrev s_Mark_letters : Stmt := inClass (top 23) 5
theorem sc_Mark_letters : FnScope ["self"] ["self"] (defScope s_Mark_letters) := ⟨rfl, rfl, rfl, by decide +kernel, rfl, by decide +kernel, by decide +kernel⟩
abbrev s_Mark_number : Stmt := inClass (top 23) 6
theorem sc_Mark_number : FnScope ["self"] ["self"] (defScope s_Mark_number) := ⟨rfl, rfl, rfl, by decide +kernel, rfl, by decide +kernel, by decide +kernel⟩
abbrev s_Mark_points : Stmt := inClass (top 23) 7
theorem sc_Mark_points : FnScope ["self"] ["self"] (defScope s_Mark_points) := ⟨rfl, rfl, rfl, by decide +kernel, rfl, by decide +kernel, by decide +kernel⟩
abbrev s_Mark_makers : Stmt := inClass (top 23) 8
theorem sc_Mark_makers : FnScope ["self"] ["self"] (defScope s_Mark_makers) := ⟨rfl, rfl, rfl, by decide +kernel, rfl, by decide +kernel, by decide +kernel⟩
abbrev s_Mark_year : Stmt := inClass (top 23) 9
theorem sc_Mark_year : FnScope ["self"] ["self"] (defScope s_Mark_year) := ⟨rfl, rfl, rfl, by decide +kernel, rfl, by decide +kernel, by decide +kernel⟩
abbrev s_Mark_copy_number : Stmt := inClass (top 23) 10
theorem sc_Mark_copy_number : FnScope ["self"] ["self"] (defScope s_Mark_copy_number) := ⟨rfl, rfl, rfl, by decide +kernel, rfl, by decide +kernel, by decide +kernel⟩
abbrev s_Mark_parts : Stmt := inClass (top 23) 11
theorem sc_Mark_parts : FnScope ["self"] ["self"] (defScope s_Mark_parts) := ⟨rfl, rfl, rfl, by decide +kernel, rfl, by decide +kernel, by decide +kernel⟩
abbrev s_Mark_key : Stmt := inClass (top 23) 12
theorem sc_Mark_key : FnScope ["self", "letters", "number", "points", "makers", "year", "copy"] ["self"] (defScope s_Mark_key) := ⟨rfl, rfl, rfl, by decide +kernel, rfl, by decide +kernel, by decide +kernel⟩
abbrev s_Mark_ahead : Stmt := inClass (top 23) 13
theorem sc_Mark_ahead : FnScope ["self", "other"] ["self", "other"] (defScope s_Mark_ahead) := ⟨rfl, rfl, rfl, by decide +kernel, rfl, by decide +kernel, by decide +kernel⟩
abbrev s_Mark_head : Stmt := inClass (top 23) 14
theorem sc_Mark_head : FnScope ["self", "letters", "number", "points", "_"] ["self"] (defScope s_Mark_head) := ⟨rfl, rfl, rfl, by decide +kernel, rfl, by decide +kernel, by decide +kernel⟩
abbrev s_Mark_book : Stmt := inClass (top 23) 15
theorem sc_Mark_book : FnScope ["self"] ["self"] (defScope s_Mark_book) := ⟨rfl, rfl, rfl, by decide +kernel, rfl, by decide +kernel, by decide +kernel⟩
abbrev s_Mark_with_year : Stmt := inClass (top 23) 16
theorem sc_Mark_with_year : FnScope ["self", "year"] ["self", "year"] (defScope s_Mark_with_year) := ⟨rfl, rfl, rfl, by decide +kernel, rfl, by decide +kernel, by decide +kernel⟩
abbrev s_Mark_with_copy : Stmt := inClass (top 23) 17
theorem sc_Mark_with_copy : FnScope ["self", "copy"] ["self", "copy"] (defScope s_Mark_with_copy) := ⟨rfl, rfl, rfl, by decide +kernel, rfl, by decide +kernel, by decide +kernel⟩
abbrev s_Mark_same_book : Stmt := inClass (top 23) 18
theorem sc_Mark_same_book : FnScope ["self", "other"] ["self", "other"] (defScope s_Mark_same_book) := ⟨rfl, rfl, rfl, by decide +kernel, rfl, by decide +kernel, by decide +kernel⟩
abbrev s_mark_of_key : Stmt := top 24
theorem sc_mark_of_key : FnScope ["key", "letters", "number", "points", "makers", "year", "copy"] ["key"] (defScope s_mark_of_key) := ⟨rfl, rfl, rfl, by decide +kernel, rfl, by decide +kernel, by decide +kernel⟩
abbrev s_kept_makers : Stmt := top 25
theorem sc_kept_makers : FnScope ["makers", "maker"] ["makers"] (defScope s_kept_makers) := ⟨rfl, rfl, rfl, by decide +kernel, rfl, by decide +kernel, by decide +kernel⟩
abbrev s_text_of : Stmt := top 26
theorem sc_text_of : FnScope ["parts", "letters", "number", "points", "makers", "year", "copy", "head", "words"] ["parts"] (defScope s_text_of) := ⟨rfl, rfl, rfl, by decide +kernel, rfl, by decide +kernel, by decide +kernel⟩
abbrev s_ending : Stmt := top 34
theorem sc_ending : FnScope ["state", "place", "many"] ["state"] (defScope s_ending) := ⟨rfl, rfl, rfl, by decide +kernel, rfl, by decide +kernel, by decide +kernel⟩
abbrev s_behind_letters : Stmt := top 35
theorem sc_behind_letters : FnScope ["many", "sign"] ["many", "sign"] (defScope s_behind_letters) := ⟨rfl, rfl, rfl, by decide +kernel, rfl, by decide +kernel, by decide +kernel⟩
abbrev s_behind_number : Stmt := top 36
theorem sc_behind_number : FnScope ["many", "sign"] ["many", "sign"] (defScope s_behind_number) := ⟨rfl, rfl, rfl, by decide +kernel, rfl, by decide +kernel, by decide +kernel⟩
abbrev s_behind_point : Stmt := top 37
theorem sc_behind_point : FnScope ["_", "sign"] ["_", "sign"] (defScope s_behind_point) := ⟨rfl, rfl, rfl, by decide +kernel, rfl, by decide +kernel, by decide +kernel⟩
abbrev s_behind_points : Stmt := top 38
theorem sc_behind_points : FnScope ["many", "sign"] ["many", "sign"] (defScope s_behind_points) := ⟨rfl, rfl, rfl, by decide +kernel, rfl, by decide +kernel, by decide +kernel⟩
abbrev s_behind_blank : Stmt := top 39
theorem sc_behind_blank : FnScope ["many", "sign"] ["many", "sign"] (defScope s_behind_blank) := ⟨rfl, rfl, rfl, by decide +kernel, rfl, by decide +kernel, by decide +kernel⟩
abbrev s_behind_c : Stmt := top 40
theorem sc_behind_c : FnScope ["many", "sign"] ["many", "sign"] (defScope s_behind_c) := ⟨rfl, rfl, rfl, by decide +kernel, rfl, by decide +kernel, by decide +kernel⟩
abbrev s_behind_letter : Stmt := top 41
theorem sc_behind_letter : FnScope ["many", "sign"] ["many", "sign"] (defScope s_behind_letter) := ⟨rfl, rfl, rfl, by decide +kernel, rfl, by decide +kernel, by decide +kernel⟩
abbrev s_behind_maker : Stmt := top 42
theorem sc_behind_maker : FnScope ["many", "sign"] ["many", "sign"] (defScope s_behind_maker) := ⟨rfl, rfl, rfl, by decide +kernel, rfl, by decide +kernel, by decide +kernel⟩
abbrev s_behind_year : Stmt := top 43
theorem sc_behind_year : FnScope ["many", "sign"] ["many", "sign"] (defScope s_behind_year) := ⟨rfl, rfl, rfl, by decide +kernel, rfl, by decide +kernel, by decide +kernel⟩
abbrev s_behind_copy : Stmt := top 44
theorem sc_behind_copy : FnScope ["many", "sign"] ["many", "sign"] (defScope s_behind_copy) := ⟨rfl, rfl, rfl, by decide +kernel, rfl, by decide +kernel, by decide +kernel⟩
abbrev s_behind_copied : Stmt := top 45
theorem sc_behind_copied : FnScope ["_", "sign"] ["_", "sign"] (defScope s_behind_copied) := ⟨rfl, rfl, rfl, by decide +kernel, rfl, by decide +kernel, by decide +kernel⟩
abbrev s_is_first : Stmt := top 46
theorem sc_is_first : FnScope ["sign"] ["sign"] (defScope s_is_first) := ⟨rfl, rfl, rfl, by decide +kernel, rfl, by decide +kernel, by decide +kernel⟩
abbrev s_mark_and_signs : Stmt := top 50
theorem sc_mark_and_signs : FnScope ["text", "many", "state"] ["text"] (defScope s_mark_and_signs) := ⟨rfl, rfl, rfl, by decide +kernel, rfl, by decide +kernel, by decide +kernel⟩
abbrev s_key_written : Stmt := top 51
theorem sc_key_written : FnScope ["text", "head", "words", "_", "points", "letters", "makers", "year", "copy", "word"] ["text"] (defScope s_key_written) := ⟨rfl, rfl, rfl, by decide +kernel, rfl, by decide +kernel, by decide +kernel⟩
abbrev s_walked : Stmt := top 52
theorem sc_walked : FnScope ["text", "has_runs", "place", "many", "at", "action", "following"] ["text"] (defScope s_walked) := ⟨rfl, rfl, rfl, by decide +kernel, rfl, by decide +kernel, by decide +kernel⟩
abbrev s_last_figure : Stmt := top 53
theorem sc_last_figure : FnScope ["text", "at", "rest"] ["text", "at"] (defScope s_last_figure) := ⟨rfl, rfl, rfl, by decide +kernel, rfl, by decide +kernel, by decide +kernel⟩
abbrev s_head_of : Stmt := top 56
theorem sc_head_of : FnScope ["text", "mark", "_"] ["text"] (defScope s_head_of) := ⟨rfl, rfl, rfl, by decide +kernel, rfl, by decide +kernel, by decide +kernel⟩
abbrev s_behind_head : Stmt := top 57
theorem sc_behind_head : FnScope ["text", "head", "points", "letters"] ["text"] (defScope s_behind_head) := ⟨rfl, rfl, rfl, by decide +kernel, rfl, by decide +kernel, by decide +kernel⟩
abbrev s_letters_behind : Stmt := top 58
theorem sc_letters_behind : FnScope ["letters", "begun"] ["letters"] (defScope s_letters_behind) := ⟨rfl, rfl, rfl, by decide +kernel, rfl, by decide +kernel, by decide +kernel⟩
abbrev s_l_cell : Stmt := top 60
theorem sc_l_cell : FnScope ["_law_script", "_law_k"] ["_law_script", "_law_k"] (defScope s_l_cell) := ⟨rfl, rfl, rfl, by decide +kernel, rfl, by decide +kernel, by decide +kernel⟩
abbrev s_l_box : Stmt := top 61
theorem sc_l_box : FnScope ["_law_cell_here"] ["_law_cell_here"] (defScope s_l_box) := ⟨rfl, rfl, rfl, by decide +kernel, rfl, by decide +kernel, by decide +kernel⟩
abbrev s_l_take : Stmt := top 62
theorem sc_l_take : FnScope ["_law_box_here", "_law_many", "_law_digit", "_law_turn", "_law_number"] ["_law_box_here", "_law_many"] (defScope s_l_take) := ⟨rfl, rfl, rfl, by decide +kernel, rfl, by decide +kernel, by decide +kernel⟩
abbrev s_l_letters : Stmt := top 63
theorem sc_l_letters : FnScope ["_law_box_here", "_law_some", "_law_letters_here", "_law_k"] ["_law_box_here"] (defScope s_l_letters) := ⟨rfl, rfl, rfl, by decide +kernel, rfl, by decide +kernel, by decide +kernel⟩
abbrev s_l_figures : Stmt := top 64
theorem sc_l_figures : FnScope ["_law_box_here", "_law_many", "_law_row", "_law_k"] ["_law_box_here", "_law_many"] (defScope s_l_figures) := ⟨rfl, rfl, rfl, by decide +kernel, rfl, by decide +kernel, by decide +kernel⟩
abbrev s_l_head : Stmt := top 65
theorem sc_l_head : FnScope ["_law_box_here", "_law_most", "_law_number", "_law_many"] ["_law_box_here", "_law_most"] (defScope s_l_head) := ⟨rfl, rfl, rfl, by decide +kernel, rfl, by decide +kernel, by decide +kernel⟩
abbrev s_l_text : Stmt := top 66
theorem sc_l_text : FnScope ["_law_head_here"] ["_law_head_here"] (defScope s_l_text) := ⟨rfl, rfl, rfl, by decide +kernel, rfl, by decide +kernel, by decide +kernel⟩
abbrev s_l_next_letters : Stmt := top 67
theorem sc_l_next_letters : FnScope ["_law_letters_here", "_law_some"] ["_law_letters_here"] (defScope s_l_next_letters) := ⟨rfl, rfl, rfl, by decide +kernel, rfl, by decide +kernel, by decide +kernel⟩
abbrev s_l_behind : Stmt := top 68
theorem sc_l_behind : FnScope ["_law_head_here", "_law_letters_here", "_law_number", "_law_points", "_law_grown"] ["_law_head_here"] (defScope s_l_behind) := ⟨rfl, rfl, rfl, by decide +kernel, rfl, by decide +kernel, by decide +kernel⟩
abbrev s_l_near : Stmt := top 69
theorem sc_l_near : FnScope ["_law_box_here", "_law_head_here", "_law_most", "_law_letters_here", "_law_number", "_law_points", "_law_way", "_law_at", "_law_more"] ["_law_box_here", "_law_head_here", "_law_most"] (defScope s_l_near) := ⟨rfl, rfl, rfl, by decide +kernel, rfl, by decide +kernel, by decide +kernel⟩
abbrev s_l_right : Stmt := top 70
theorem sc_l_right : FnScope ["_law_head_here", "_law_line", "_law_due", "_law_told"] ["_law_head_here"] (defScope s_l_right) := ⟨rfl, rfl, rfl, by decide +kernel, rfl, by decide +kernel, by decide +kernel⟩
abbrev s_law : Stmt := top 71
theorem sc_law : FnScope ["_law_script", "_law_k", "_law_box_here", "_law_head_here", "_law_turn"] ["_law_script"] (defScope s_law) := ⟨rfl, rfl, rfl, by decide +kernel, rfl, by decide +kernel, by decide +kernel⟩
/-- where the defs and classes stand -/
structure Adr where
  (a_is_number a_is_whole a_is_figures a_is_letters a_is_points a_is_maker a_is_ended a_Mark_init a_Mark_eq a_Mark_str a_Mark_repr a_Mark_len a_Mark_letters a_Mark_number a_Mark_points a_Mark_makers a_Mark_year a_Mark_copy_number a_Mark_parts a_Mark_key a_Mark_ahead a_Mark_head a_Mark_book a_Mark_with_year a_Mark_with_copy a_Mark_same_book a_mark_of_key a_kept_makers a_text_of a_ending a_behind_letters a_behind_number a_behind_point a_behind_points a_behind_blank a_behind_c a_behind_letter a_behind_maker a_behind_year a_behind_copy a_behind_copied a_is_first a_mark_and_signs a_key_written a_walked a_last_figure a_head_of a_behind_head a_letters_behind a_l_cell a_l_box a_l_take a_l_letters a_l_figures a_l_head a_l_text a_l_next_letters a_l_behind a_l_near a_l_right a_law : Addr)
  (d_is_number d_is_whole d_is_figures d_is_letters d_is_points d_is_maker d_is_ended d_Mark_init d_Mark_eq d_Mark_str d_Mark_repr d_Mark_len d_Mark_letters d_Mark_number d_Mark_points d_Mark_makers d_Mark_year d_Mark_copy_number d_Mark_parts d_Mark_key d_Mark_ahead d_Mark_head d_Mark_book d_Mark_with_year d_Mark_with_copy d_Mark_same_book d_mark_of_key d_kept_makers d_text_of d_ending d_behind_letters d_behind_number d_behind_point d_behind_points d_behind_blank d_behind_c d_behind_letter d_behind_maker d_behind_year d_behind_copy d_behind_copied d_is_first d_mark_and_signs d_key_written d_walked d_last_figure d_head_of d_behind_head d_letters_behind d_l_cell d_l_box d_l_take d_l_letters d_l_figures d_l_head d_l_text d_l_next_letters d_l_behind d_l_near d_l_right d_law : FuncData)
  (C_Mark : Addr)
  (k_START k_COPY_ENDS k_NO_MORE k_NO_MORE_0 : Addr)
  (k_ENDLESS k_STEPS : Addr)
  (wd : World)
/-- what the top has written -/
structure Txt (K : PySem.W.Frag) (mg : Str → Option Value) (Z : Adr) : Prop where
  F_is_number : Fun K "is_number" "is_number" s_is_number Z.a_is_number Z.d_is_number
  g_is_number : mg "is_number" = some (.ref Z.a_is_number)
  b_is_number : Binds K Z.d_is_number ["thing"] []
  F_is_whole : FunD K "is_whole" "is_whole" (defArgs s_is_whole) (defBody s_is_whole) (defScope s_is_whole) [.non] [] Z.a_is_whole Z.d_is_whole
  g_is_whole : mg "is_whole" = some (.ref Z.a_is_whole)
  b_is_whole : Binds K Z.d_is_whole ["thing", "low", "high"] []
  b_is_whole_2 : ∃ ds, Vals [.non] ds ∧ Binds K Z.d_is_whole ["thing", "low", "high"] ds
  F_is_figures : Fun K "is_figures" "is_figures" s_is_figures Z.a_is_figures Z.d_is_figures
  g_is_figures : mg "is_figures" = some (.ref Z.a_is_figures)
  b_is_figures : Binds K Z.d_is_figures ["text"] []
  F_is_letters : Fun K "is_letters" "is_letters" s_is_letters Z.a_is_letters Z.d_is_letters
  g_is_letters : mg "is_letters" = some (.ref Z.a_is_letters)
  b_is_letters : Binds K Z.d_is_letters ["thing", "most"] []
  F_is_points : Fun K "is_points" "is_points" s_is_points Z.a_is_points Z.d_is_points
  g_is_points : mg "is_points" = some (.ref Z.a_is_points)
  b_is_points : Binds K Z.d_is_points ["thing"] []
  F_is_maker : Fun K "is_maker" "is_maker" s_is_maker Z.a_is_maker Z.d_is_maker
  g_is_maker : mg "is_maker" = some (.ref Z.a_is_maker)
  b_is_maker : Binds K Z.d_is_maker ["thing"] []
  F_is_ended : Fun K "_is_ended" "_is_ended" s_is_ended Z.a_is_ended Z.d_is_ended
  g_is_ended : mg "_is_ended" = some (.ref Z.a_is_ended)
  b_is_ended : Binds K Z.d_is_ended ["text"] []
  F_Mark_init : FunD K "__init__" "Mark.__init__" (defArgs s_Mark_init) (defBody s_Mark_init) (defScope s_Mark_init) [.str Str.empty, .non, .non, .non] [] Z.a_Mark_init Z.d_Mark_init
  b_Mark_init : Binds K Z.d_Mark_init ["self", "letters", "number", "points", "makers", "year", "copy"] []
  b_Mark_init_3 : ∃ ds, Vals [.str Str.empty, .non, .non, .non] ds ∧ Binds K Z.d_Mark_init ["self", "letters", "number", "points", "makers", "year", "copy"] ds
  b_Mark_init_4 : ∃ ds, Vals [.non, .non, .non] ds ∧ Binds K Z.d_Mark_init ["self", "letters", "number", "points", "makers", "year", "copy"] ds
  F_Mark_eq : Fun K "__eq__" "Mark.__eq__" s_Mark_eq Z.a_Mark_eq Z.d_Mark_eq
  m_Mark_eq : Meth K Z.C_Mark "__eq__" Z.a_Mark_eq
  b_Mark_eq : Binds K Z.d_Mark_eq ["self", "other"] []
  F_Mark_str : Fun K "__str__" "Mark.__str__" s_Mark_str Z.a_Mark_str Z.d_Mark_str
  m_Mark_str : Meth K Z.C_Mark "__str__" Z.a_Mark_str
  b_Mark_str : Binds K Z.d_Mark_str ["self"] []
  F_Mark_repr : Fun K "__repr__" "Mark.__repr__" s_Mark_repr Z.a_Mark_repr Z.d_Mark_repr
  m_Mark_repr : Meth K Z.C_Mark "__repr__" Z.a_Mark_repr
  b_Mark_repr : Binds K Z.d_Mark_repr ["self"] []
  F_Mark_len : Fun K "__len__" "Mark.__len__" s_Mark_len Z.a_Mark_len Z.d_Mark_len
  m_Mark_len : Meth K Z.C_Mark "__len__" Z.a_Mark_len
  b_Mark_len : Binds K Z.d_Mark_len ["self"] []
  F_Mark_letters : Fun K "letters" "Mark.letters" s_Mark_letters Z.a_Mark_letters Z.d_Mark_letters
  m_Mark_letters : Meth K Z.C_Mark "letters" Z.a_Mark_letters
  b_Mark_letters : Binds K Z.d_Mark_letters ["self"] []
  F_Mark_number : Fun K "number" "Mark.number" s_Mark_number Z.a_Mark_number Z.d_Mark_number
  m_Mark_number : Meth K Z.C_Mark "number" Z.a_Mark_number
  b_Mark_number : Binds K Z.d_Mark_number ["self"] []
  F_Mark_points : Fun K "points" "Mark.points" s_Mark_points Z.a_Mark_points Z.d_Mark_points
  m_Mark_points : Meth K Z.C_Mark "points" Z.a_Mark_points
  b_Mark_points : Binds K Z.d_Mark_points ["self"] []
  F_Mark_makers : Fun K "makers" "Mark.makers" s_Mark_makers Z.a_Mark_makers Z.d_Mark_makers
  m_Mark_makers : Meth K Z.C_Mark "makers" Z.a_Mark_makers
  b_Mark_makers : Binds K Z.d_Mark_makers ["self"] []
  F_Mark_year : Fun K "year" "Mark.year" s_Mark_year Z.a_Mark_year Z.d_Mark_year
  m_Mark_year : Meth K Z.C_Mark "year" Z.a_Mark_year
  b_Mark_year : Binds K Z.d_Mark_year ["self"] []
  F_Mark_copy_number : Fun K "copy_number" "Mark.copy_number" s_Mark_copy_number Z.a_Mark_copy_number Z.d_Mark_copy_number
  m_Mark_copy_number : Meth K Z.C_Mark "copy_number" Z.a_Mark_copy_number
  b_Mark_copy_number : Binds K Z.d_Mark_copy_number ["self"] []
  F_Mark_parts : Fun K "parts" "Mark.parts" s_Mark_parts Z.a_Mark_parts Z.d_Mark_parts
  m_Mark_parts : Meth K Z.C_Mark "parts" Z.a_Mark_parts
  b_Mark_parts : Binds K Z.d_Mark_parts ["self"] []
  F_Mark_key : Fun K "key" "Mark.key" s_Mark_key Z.a_Mark_key Z.d_Mark_key
  m_Mark_key : Meth K Z.C_Mark "key" Z.a_Mark_key
  b_Mark_key : Binds K Z.d_Mark_key ["self"] []
  F_Mark_ahead : Fun K "ahead" "Mark.ahead" s_Mark_ahead Z.a_Mark_ahead Z.d_Mark_ahead
  m_Mark_ahead : Meth K Z.C_Mark "ahead" Z.a_Mark_ahead
  b_Mark_ahead : Binds K Z.d_Mark_ahead ["self", "other"] []
  F_Mark_head : Fun K "head" "Mark.head" s_Mark_head Z.a_Mark_head Z.d_Mark_head
  m_Mark_head : Meth K Z.C_Mark "head" Z.a_Mark_head
  b_Mark_head : Binds K Z.d_Mark_head ["self"] []
  F_Mark_book : Fun K "book" "Mark.book" s_Mark_book Z.a_Mark_book Z.d_Mark_book
  m_Mark_book : Meth K Z.C_Mark "book" Z.a_Mark_book
  b_Mark_book : Binds K Z.d_Mark_book ["self"] []
  F_Mark_with_year : FunD K "with_year" "Mark.with_year" (defArgs s_Mark_with_year) (defBody s_Mark_with_year) (defScope s_Mark_with_year) [.non] [] Z.a_Mark_with_year Z.d_Mark_with_year
  m_Mark_with_year : Meth K Z.C_Mark "with_year" Z.a_Mark_with_year
  b_Mark_with_year : Binds K Z.d_Mark_with_year ["self", "year"] []
  F_Mark_with_copy : FunD K "with_copy" "Mark.with_copy" (defArgs s_Mark_with_copy) (defBody s_Mark_with_copy) (defScope s_Mark_with_copy) [.non] [] Z.a_Mark_with_copy Z.d_Mark_with_copy
  m_Mark_with_copy : Meth K Z.C_Mark "with_copy" Z.a_Mark_with_copy
  b_Mark_with_copy : Binds K Z.d_Mark_with_copy ["self", "copy"] []
  F_Mark_same_book : Fun K "same_book" "Mark.same_book" s_Mark_same_book Z.a_Mark_same_book Z.d_Mark_same_book
  m_Mark_same_book : Meth K Z.C_Mark "same_book" Z.a_Mark_same_book
  b_Mark_same_book : Binds K Z.d_Mark_same_book ["self", "other"] []
  F_mark_of_key : Fun K "mark_of_key" "mark_of_key" s_mark_of_key Z.a_mark_of_key Z.d_mark_of_key
  g_mark_of_key : mg "mark_of_key" = some (.ref Z.a_mark_of_key)
  b_mark_of_key : Binds K Z.d_mark_of_key ["key"] []
  F_kept_makers : Fun K "_kept_makers" "_kept_makers" s_kept_makers Z.a_kept_makers Z.d_kept_makers
  g_kept_makers : mg "_kept_makers" = some (.ref Z.a_kept_makers)
  b_kept_makers : Binds K Z.d_kept_makers ["makers"] []
  F_text_of : Fun K "_text_of" "_text_of" s_text_of Z.a_text_of Z.d_text_of
  g_text_of : mg "_text_of" = some (.ref Z.a_text_of)
  b_text_of : Binds K Z.d_text_of ["parts"] []
  F_ending : Fun K "ending" "ending" s_ending Z.a_ending Z.d_ending
  g_ending : mg "ending" = some (.ref Z.a_ending)
  b_ending : Binds K Z.d_ending ["state"] []
  F_behind_letters : Fun K "_behind_letters" "_behind_letters" s_behind_letters Z.a_behind_letters Z.d_behind_letters
  g_behind_letters : mg "_behind_letters" = some (.ref Z.a_behind_letters)
  b_behind_letters : Binds K Z.d_behind_letters ["many", "sign"] []
  F_behind_number : Fun K "_behind_number" "_behind_number" s_behind_number Z.a_behind_number Z.d_behind_number
  g_behind_number : mg "_behind_number" = some (.ref Z.a_behind_number)
  b_behind_number : Binds K Z.d_behind_number ["many", "sign"] []
  F_behind_point : Fun K "_behind_point" "_behind_point" s_behind_point Z.a_behind_point Z.d_behind_point
  g_behind_point : mg "_behind_point" = some (.ref Z.a_behind_point)
  b_behind_point : Binds K Z.d_behind_point ["_", "sign"] []
  F_behind_points : Fun K "_behind_points" "_behind_points" s_behind_points Z.a_behind_points Z.d_behind_points
  g_behind_points : mg "_behind_points" = some (.ref Z.a_behind_points)
  b_behind_points : Binds K Z.d_behind_points ["many", "sign"] []
  F_behind_blank : Fun K "_behind_blank" "_behind_blank" s_behind_blank Z.a_behind_blank Z.d_behind_blank
  g_behind_blank : mg "_behind_blank" = some (.ref Z.a_behind_blank)
  b_behind_blank : Binds K Z.d_behind_blank ["many", "sign"] []
  F_behind_c : Fun K "_behind_c" "_behind_c" s_behind_c Z.a_behind_c Z.d_behind_c
  g_behind_c : mg "_behind_c" = some (.ref Z.a_behind_c)
  b_behind_c : Binds K Z.d_behind_c ["many", "sign"] []
  F_behind_letter : Fun K "_behind_letter" "_behind_letter" s_behind_letter Z.a_behind_letter Z.d_behind_letter
  g_behind_letter : mg "_behind_letter" = some (.ref Z.a_behind_letter)
  b_behind_letter : Binds K Z.d_behind_letter ["many", "sign"] []
  F_behind_maker : Fun K "_behind_maker" "_behind_maker" s_behind_maker Z.a_behind_maker Z.d_behind_maker
  g_behind_maker : mg "_behind_maker" = some (.ref Z.a_behind_maker)
  b_behind_maker : Binds K Z.d_behind_maker ["many", "sign"] []
  F_behind_year : Fun K "_behind_year" "_behind_year" s_behind_year Z.a_behind_year Z.d_behind_year
  g_behind_year : mg "_behind_year" = some (.ref Z.a_behind_year)
  b_behind_year : Binds K Z.d_behind_year ["many", "sign"] []
  F_behind_copy : Fun K "_behind_copy" "_behind_copy" s_behind_copy Z.a_behind_copy Z.d_behind_copy
  g_behind_copy : mg "_behind_copy" = some (.ref Z.a_behind_copy)
  b_behind_copy : Binds K Z.d_behind_copy ["many", "sign"] []
  F_behind_copied : Fun K "_behind_copied" "_behind_copied" s_behind_copied Z.a_behind_copied Z.d_behind_copied
  g_behind_copied : mg "_behind_copied" = some (.ref Z.a_behind_copied)
  b_behind_copied : Binds K Z.d_behind_copied ["_", "sign"] []
  F_is_first : Fun K "_is_first" "_is_first" s_is_first Z.a_is_first Z.d_is_first
  g_is_first : mg "_is_first" = some (.ref Z.a_is_first)
  b_is_first : Binds K Z.d_is_first ["sign"] []
  F_mark_and_signs : Fun K "mark_and_signs" "mark_and_signs" s_mark_and_signs Z.a_mark_and_signs Z.d_mark_and_signs
  g_mark_and_signs : mg "mark_and_signs" = some (.ref Z.a_mark_and_signs)
  b_mark_and_signs : Binds K Z.d_mark_and_signs ["text"] []
  F_key_written : Fun K "key_written" "key_written" s_key_written Z.a_key_written Z.d_key_written
  g_key_written : mg "key_written" = some (.ref Z.a_key_written)
  b_key_written : Binds K Z.d_key_written ["text"] []
  F_walked : Fun K "_walked" "_walked" s_walked Z.a_walked Z.d_walked
  g_walked : mg "_walked" = some (.ref Z.a_walked)
  b_walked : Binds K Z.d_walked ["text"] []
  F_last_figure : Fun K "_last_figure" "_last_figure" s_last_figure Z.a_last_figure Z.d_last_figure
  g_last_figure : mg "_last_figure" = some (.ref Z.a_last_figure)
  b_last_figure : Binds K Z.d_last_figure ["text", "at"] []
  F_head_of : Fun K "head_of" "head_of" s_head_of Z.a_head_of Z.d_head_of
  g_head_of : mg "head_of" = some (.ref Z.a_head_of)
  b_head_of : Binds K Z.d_head_of ["text"] []
  F_behind_head : Fun K "behind_head" "behind_head" s_behind_head Z.a_behind_head Z.d_behind_head
  g_behind_head : mg "behind_head" = some (.ref Z.a_behind_head)
  b_behind_head : Binds K Z.d_behind_head ["text"] []
  F_letters_behind : Fun K "_letters_behind" "_letters_behind" s_letters_behind Z.a_letters_behind Z.d_letters_behind
  g_letters_behind : mg "_letters_behind" = some (.ref Z.a_letters_behind)
  b_letters_behind : Binds K Z.d_letters_behind ["letters"] []
  F_l_cell : Fun K "_law_cell" "_law_cell" s_l_cell Z.a_l_cell Z.d_l_cell
  g_l_cell : mg "_law_cell" = some (.ref Z.a_l_cell)
  b_l_cell : Binds K Z.d_l_cell ["_law_script", "_law_k"] []
  F_l_box : Fun K "_law_box" "_law_box" s_l_box Z.a_l_box Z.d_l_box
  g_l_box : mg "_law_box" = some (.ref Z.a_l_box)
  b_l_box : Binds K Z.d_l_box ["_law_cell_here"] []
  F_l_take : Fun K "_law_take" "_law_take" s_l_take Z.a_l_take Z.d_l_take
  g_l_take : mg "_law_take" = some (.ref Z.a_l_take)
  b_l_take : Binds K Z.d_l_take ["_law_box_here", "_law_many"] []
  F_l_letters : Fun K "_law_letters" "_law_letters" s_l_letters Z.a_l_letters Z.d_l_letters
  g_l_letters : mg "_law_letters" = some (.ref Z.a_l_letters)
  b_l_letters : Binds K Z.d_l_letters ["_law_box_here"] []
  F_l_figures : Fun K "_law_figures" "_law_figures" s_l_figures Z.a_l_figures Z.d_l_figures
  g_l_figures : mg "_law_figures" = some (.ref Z.a_l_figures)
  b_l_figures : Binds K Z.d_l_figures ["_law_box_here", "_law_many"] []
  F_l_head : Fun K "_law_head" "_law_head" s_l_head Z.a_l_head Z.d_l_head
  g_l_head : mg "_law_head" = some (.ref Z.a_l_head)
  b_l_head : Binds K Z.d_l_head ["_law_box_here", "_law_most"] []
  F_l_text : Fun K "_law_text" "_law_text" s_l_text Z.a_l_text Z.d_l_text
  g_l_text : mg "_law_text" = some (.ref Z.a_l_text)
  b_l_text : Binds K Z.d_l_text ["_law_head_here"] []
  F_l_next_letters : Fun K "_law_next_letters" "_law_next_letters" s_l_next_letters Z.a_l_next_letters Z.d_l_next_letters
  g_l_next_letters : mg "_law_next_letters" = some (.ref Z.a_l_next_letters)
  b_l_next_letters : Binds K Z.d_l_next_letters ["_law_letters_here"] []
  F_l_behind : Fun K "_law_behind" "_law_behind" s_l_behind Z.a_l_behind Z.d_l_behind
  g_l_behind : mg "_law_behind" = some (.ref Z.a_l_behind)
  b_l_behind : Binds K Z.d_l_behind ["_law_head_here"] []
  F_l_near : Fun K "_law_near" "_law_near" s_l_near Z.a_l_near Z.d_l_near
  g_l_near : mg "_law_near" = some (.ref Z.a_l_near)
  b_l_near : Binds K Z.d_l_near ["_law_box_here", "_law_head_here", "_law_most"] []
  F_l_right : Fun K "_law_right" "_law_right" s_l_right Z.a_l_right Z.d_l_right
  g_l_right : mg "_law_right" = some (.ref Z.a_l_right)
  b_l_right : Binds K Z.d_l_right ["_law_head_here"] []
  F_law : Fun K "law" "law" s_law Z.a_law Z.d_law
  g_law : mg "law" = some (.ref Z.a_law)
  b_law : Binds K Z.d_law ["_law_script"] []
  g_Mark : mg "Mark" = some (.ref Z.C_Mark)
  cl_Mark : Cls K Z.C_Mark
  M_Mark : Mk K Z.C_Mark Z.a_Mark_init
  t1_Mark : PySem.W.findIn K (.ref Z.C_Mark) "__class__" = some (some (.builtin "object.__class__"))
  t4_Mark : PySem.W.mroIn K Z.C_Mark (.type "object") = some true
  t2_Mark : PySem.W.specialIn K (.builtin "object.__class__") "__get__" = some (some (.builtin "getset_descriptor.__get__"))
  t3_Mark : PySem.W.takesIn K (.builtin "object.__class__") = some true
  ne_Mark : PySem.W.findIn K (.ref Z.C_Mark) "__ne__" = some (some (.builtin "object.__ne__"))
  ki_Mark : ((PySem.W.clsIn K Z.C_Mark).isSome && PySem.W.typeIn K (.ref Z.C_Mark) == some (.type "type")) = true
  na_Mark_parts : NoAttr K Z.C_Mark "_parts"
  na_Mark_text : NoAttr K Z.C_Mark "_text"
  n_len : mg "len" = none
  n_isinstance : mg "isinstance" = none
  n_range : mg "range" = none
  n_max : mg "max" = none
  n_min : mg "min" = none
  n_int : mg "int" = none
  n_bool : mg "bool" = none
  n_str : mg "str" = none
  n_list : mg "list" = none
  n_tuple : mg "tuple" = none
  c_SMALL : ∃ t, mg "SMALL" = some (.str "abcdefghijklmnopqrstuvwxyz" t)
  c_FIGURES : ∃ t, mg "FIGURES" = some (.str "0123456789" t)
  c_START : mg "START" = some (.ref Z.k_START)
  t_START : ∀ H : Hp, SqT K H Z.k_START [.str "letters", .int (0)]
  c_MOST_LETTERS : ∃ t, mg "MOST_LETTERS" = some (.int (3) t)
  c_MOST_MAKERS : ∃ t, mg "MOST_MAKERS" = some (.int (3) t)
  c_BEHIND_YEAR : ∃ t, mg "BEHIND_YEAR" = some (.int (4) t)
  c_COPY_ENDS : mg "COPY_ENDS" = some (.ref Z.k_COPY_ENDS)
  t_COPY_ENDS : ∀ H : Hp, SqT K H Z.k_COPY_ENDS [.str "2", .str "0"]
  c_ENDLESS : mg "ENDLESS" = some (.ref Z.k_ENDLESS)
  kd_ENDLESS : ∃ es n, KDict K Z.wd Z.k_ENDLESS es n
  kd_ENDLESS_point : KDct K Z.wd Z.k_ENDLESS "point" (.bl true)
  kd_ENDLESS_points : KDct K Z.wd Z.k_ENDLESS "points" (.bl true)
  kd_ENDLESS_letter : KDct K Z.wd Z.k_ENDLESS "letter" (.bl true)
  kd_ENDLESS_maker : KDct K Z.wd Z.k_ENDLESS "maker" (.bl true)
  kd_ENDLESS_copied : KDct K Z.wd Z.k_ENDLESS "copied" (.bl true)
  kn_ENDLESS_letters : PySem.W.nsIn K Z.k_ENDLESS "letters" = some none
  kn_ENDLESS_number : PySem.W.nsIn K Z.k_ENDLESS "number" = some none
  kn_ENDLESS_blank : PySem.W.nsIn K Z.k_ENDLESS "blank" = some none
  kn_ENDLESS_c : PySem.W.nsIn K Z.k_ENDLESS "c" = some none
  kn_ENDLESS_year : PySem.W.nsIn K Z.k_ENDLESS "year" = some none
  kn_ENDLESS_copy : PySem.W.nsIn K Z.k_ENDLESS "copy" = some none
  c_STEPS : mg "STEPS" = some (.ref Z.k_STEPS)
  kd_STEPS : ∃ es n, KDict K Z.wd Z.k_STEPS es n
  kd_STEPS_letters : KDct K Z.wd Z.k_STEPS "letters" (.ref Z.a_behind_letters)
  kd_STEPS_number : KDct K Z.wd Z.k_STEPS "number" (.ref Z.a_behind_number)
  kd_STEPS_point : KDct K Z.wd Z.k_STEPS "point" (.ref Z.a_behind_point)
  kd_STEPS_points : KDct K Z.wd Z.k_STEPS "points" (.ref Z.a_behind_points)
  kd_STEPS_blank : KDct K Z.wd Z.k_STEPS "blank" (.ref Z.a_behind_blank)
  kd_STEPS_c : KDct K Z.wd Z.k_STEPS "c" (.ref Z.a_behind_c)
  kd_STEPS_letter : KDct K Z.wd Z.k_STEPS "letter" (.ref Z.a_behind_letter)
  kd_STEPS_maker : KDct K Z.wd Z.k_STEPS "maker" (.ref Z.a_behind_maker)
  kd_STEPS_year : KDct K Z.wd Z.k_STEPS "year" (.ref Z.a_behind_year)
  kd_STEPS_copy : KDct K Z.wd Z.k_STEPS "copy" (.ref Z.a_behind_copy)
  kd_STEPS_copied : KDct K Z.wd Z.k_STEPS "copied" (.ref Z.a_behind_copied)
  c_MOST_WITHOUT_RUNS : ∃ t, mg "MOST_WITHOUT_RUNS" = some (.int (40) t)
  c_NO_MORE : mg "NO_MORE" = some (.ref Z.k_NO_MORE)
  t_NO_MORE : ∀ H : Hp, SqT K H Z.k_NO_MORE [.ref Z.k_NO_MORE_0, .non, .non]
  t_NO_MORE_0 : ∀ H : Hp, SqT K H Z.k_NO_MORE_0 []
theorem vals_dt : ∀ {vs : List V} {us : List Value} (n : Nat), Vals vs us → Vals ((vs.drop n).take 1) ((us.drop n).take 1)
  | _, _, n, .nil => by cases n <;> exact .nil
  | _, _, 0, .cons h r => .cons h .nil
  | _, _, n + 1, .cons h r => vals_dt n r
/-- what makes a list that may change -/
def tMut (t : TE) : TE := t
theorem peM {X : Cx} {e : Expr} {te : TE} (h : PE X e te) : PE X e (tMut te) := h
/-! rules by name -/
def qAddS : R2 := fun x y H Q => ∃ i j, x = .str i ∧ y = .str j ∧ i.length + j.length ≤ sizeLine ∧ Q (.str (i ++ j)) H
theorem op_addS {X : Cx} : OpR X (binaryOp .Add) qAddS := op_add_str
def qLenS : List V → Hp → VK → Prop := fun xs H Q => ∃ z, xs = [.str z] ∧ z.length ≤ sizeLine ∧ Q (.int z.length) H
theorem call_lenS {X : Cx} : CallR X (.builtin "len") qLenS := call_len_str
def qStrI : List V → Hp → VK → Prop := fun xs H Q => ∃ i : Int, xs = [.int i] ∧ i.natAbs.log2 < 1920 ∧ Q (.str (toString i)) H
theorem call_strI {X : Cx} : CallR X (.type "str") qStrI := call_str_int
def qStrS : List V → Hp → VK → Prop := fun xs H Q => ∃ a, xs = [.str a] ∧ Q (.str a) H
theorem call_strS {X : Cx} : CallR X (.type "str") qStrS := SkE.call_str_str
def qInt1 : List V → Hp → VK → Prop := fun xs H Q => (∃ i, xs = [.int i] ∧ Q (.int i) H) ∨ ∃ k, xs = [.bl k] ∧ Q (.int (if k then 1 else 0)) H
theorem call_intq {X : Cx} : CallR X (.type "int") qInt1 := call_int1
def qIntS : List V → Hp → VK → Prop := fun xs H Q => ∃ a n, xs = [.str a] ∧ PySem.intText? a = some n ∧ a.length ≤ 640 ∧ Q (.int n) H
theorem call_intS {X : Cx} : CallR X (.type "int") qIntS := call_int_str
def qMax2 : List V → Hp → VK → Prop := fun xs H Q => ∃ i j, xs = [.int i, .int j] ∧ Q (.int (if j > i then j else i)) H
theorem call_maxq {X : Cx} (hc : X.calm = true) : CallR X (.builtin "max") qMax2 := call_max2 hc
def qMin2 : List V → Hp → VK → Prop := fun xs H Q => ∃ i j, xs = [.int i, .int j] ∧ Q (.int (if j < i then j else i)) H
theorem call_minq {X : Cx} (hc : X.calm = true) : CallR X (.builtin "min") qMin2 := call_min2 hc
def qLtS : R2 := fun x y H Q => ∃ i j, x = .str i ∧ y = .str j ∧ Q (.bl (decide (i.cps.toList < j.cps.toList))) H
theorem op_ltS {X : Cx} : OpR X (compareOp .Lt) qLtS := op_lt_str
def qInS : R2 := fun x y H Q => ∃ (c : Nat) (z : Str), x = .str ⟨#[c]⟩ ∧ y = .str z ∧ Q (.bl (decide (c ∈ z.cps.toList))) H
theorem op_inq {X : Cx} : OpR X (compareOp .In) qInS := op_in_sign
def qNotInS : R2 := fun x y H Q => ∃ (c : Nat) (z : Str), x = .str ⟨#[c]⟩ ∧ y = .str z ∧ Q (.bl (!decide (c ∈ z.cps.toList))) H
theorem op_notInq {X : Cx} : OpR X (compareOp .NotIn) qNotInS := op_notIn_sign
def qIsN : R2 := fun x y H Q => y = .non ∧ Q (.bl (decide (x = .non))) H
theorem op_isNq {X : Cx} : OpR X (compareOp .Is) qIsN := op_isN
def qNotN : R2 := fun x y H Q => y = .non ∧ Q (.bl (!decide (x = .non))) H
theorem op_notNq {X : Cx} : OpR X (compareOp .IsNot) qNotN := op_notN
def tJoinS (ts : List TE) : TE := fun σ H Q => tJs ts Str.empty σ H fun out H1 => Q (.str out) H1
theorem pe_joinedq {X : Cx} {v1 v2 : Expr} {rest : List Expr} {ts : List TE} {pos : Pos} (h : PJ X (v1 :: v2 :: rest) ts) : PE X (.JoinedStr (v1 :: v2 :: rest) pos) (tJoinS ts) := pe_joined h
def tTru (K : PySem.W.Frag) (ta : TE) : TT := fun σ H Q => ta σ H fun x H' => ∃ k, TruV K x H' k ∧ Q k H'
theorem pt_truthq {X : Cx} {a : Expr} {ta : TE} (ha : PE X a ta) (he : ∀ whole, isTrue a X.env whole = (do let v ← whole; standAt a.pos; holding [v] (truthy v))) : PT X a (tTru X.K ta) := pt_truth ha he
/-! rules with the written part told by name (for what stands within a comprehension) -/
section
variable (K : PySem.W.Frag) {X : Cx}
theorem ixL (hK : X.K = K := by rfl) : IxR X (rIxL K) := by subst hK; exact ix_list
theorem ixT (hK : X.K = K := by rfl) : IxR X (rIxT K) := by subst hK; exact ix_tup
theorem slL (hK : X.K = K := by rfl) : SlR X (rSlL K) := by subst hK; exact sl_list
theorem lenQ (hK : X.K = K := by rfl) : CallR X (.builtin "len") (rLenS K) := by subst hK; exact call_len_seq
theorem sumK (hc : X.calm = true) (hK : X.K = K := by rfl) : CallR X (.builtin "sum") (rSum K) := by subst hK; exact cr_sum hc
theorem isiK (hK : X.K = K := by rfl) : CallR X (.builtin "isinstance") (rIsi K) := by subst hK; exact call_isi
theorem isiTK (hK : X.K = K := by rfl) : CallR X (.builtin "isinstance") (rIsiT K) := by subst hK; exact call_isiT
theorem listK (hK : X.K = K := by rfl) : CallR X (.type "list") (rListS K) := by subst hK; exact call_list_of
def rTupOf (K : PySem.W.Frag) : List V → Hp → VK → Prop := fun xs H Q => ∃ p ys, xs = [.ref p] ∧ ((SqL K H p ys ∧ ∀ l, H l = none → Q (.ref l) (upd H l (.tup ys))) ∨ (SqT K H p ys ∧ Q (.ref p) H))
theorem tupK (hK : X.K = K := by rfl) : CallR X (.type "tuple") (rTupOf K) := by subst hK; exact call_tuple_of
theorem inQ (hK : X.K = K := by rfl) : OpR X (compareOp .In) (rIn K false) := by subst hK; exact op_in_seq
theorem notInQ (hK : X.K = K := by rfl) : OpR X (compareOp .NotIn) (rIn K true) := by subst hK; exact op_notIn_seq
theorem eqDK (hu : X.A.units + 64 < cLine) (hK : X.K = K := by rfl) : OpR X (compareOp .Eq) (rEqD K) := by subst hK; exact op_eqD hu
theorem neDK (hu : X.A.units + 64 < cLine) (hK : X.K = K := by rfl) : OpR X (compareOp .NotEq) (rNeD K) := by subst hK; exact op_neD hu
theorem fldK {e : Expr} {f : Str} {pos : Pos} {ta : TE} (he : PE X e ta) (hb : attributeBase e f X.env (eval e X.env) = eval e X.env) (hK : X.K = K := by rfl) : PE X (.Attribute e f pos) (tFld K ta f) := by subst hK; exact pe_fld he hb
theorem bmK {o e : Expr} {es : List Expr} {to : TE} {t : TA} {name : Str} {apos cpos : Pos} {T id : String} {r : V → List V → Hp → VK → Prop} (pa : PlainAttrs T) (slot : Slot T name id) (hty : typeOf (.builtin id) = pure (.type "method_descriptor")) (hm : MtR X id r) (ho : PE X o to) (ha : PA X (e :: es) t)
    (hK : X.K = K := by rfl) (hbase : attributeBase o name X.env (eval o X.env) = eval o X.env := by rfl)
    (hfew : ((backTo cpos (starEach (e :: es) X.env)).all (fun x => !x.1) && (backToKw cpos (keywordEach [] X.env)).all (fun x => x.1.isSome)
      && decide ((e :: es).length + ([] : List Keyword).length + (if ([] : List Keyword).isEmpty then 0 else 1) < 30)) = true := by rfl)
    (hline : (apos.endLine == cpos.line) = true := by rfl) (hs : starEach (e :: es) X.env = (false, eval e X.env) :: starEach es X.env := by rfl) (hplain : (backTo cpos (starEach es X.env)).any (·.1) = false := by rfl) :
    PE X (.Call (.Attribute o name apos) (e :: es) [] cpos) (tBM K T r to t) := by subst hK; exact pe_bm pa slot hty hm ho ha hbase hfew hline hs hplain
def rJoin (K : PySem.W.Frag) : V → List V → Hp → VK → Prop := fun x xs H Q => ∃ a p, ∃ ys : List Str, x = .str a ∧ xs = [.ref p] ∧ (SqL K H p (ys.map V.str) ∨ SqT K H p (ys.map V.str)) ∧
      (ys.map (·.length)).sum + ys.length * a.length ≤ 16777216 ∧ Q (.str (Txt.join a ys)) H
theorem joinK {o e : Expr} {to te : TE} {apos pos : Pos} (ho : PE X o to) (he : PE X e te) (hK : X.K = K := by rfl) (hs : starEach [e] X.env = [(false, eval e X.env)] := by rfl) (hbase : attributeBase o "join" X.env (eval o X.env) = eval o X.env := by rfl) (hline : (apos.endLine == pos.line) = true := by rfl) :
    PE X (.Call (.Attribute o "join" apos) [e] [] pos) (tM1 (rJoin K) to te) := by subst hK; exact pe_join ho he hs hbase hline
end
/-! ### words of mine, over HandS and Evl -/
section
variable {K : PySem.W.Frag} {σ : L2.St} {H H' : Hp} {ta tb te tv : TE} {t u : TT} {x y z v : V} {D : Ends} {tz tu : TS}
abbrev ii (xs : List Int) : List V := xs.map V.int
theorem ip_mulI {X : Cx} : PIp X .Mult (fun x y H Q => ∃ i j, x = .int i ∧ y = .int j ∧ CMul i j ∧ Q (.int (i * j)) H) := iop_mul
theorem et_yes : EvT tYes σ H true := fun H1 _ _ q => q H1 (Ex.refl H1)
theorem ev_sumN {ns : List Int} (h : EvL ta σ H (ii ns)) : Ev (tCB (rSum K) (tCons ta tNil)) σ H (.int ns.sum) := fun H1 e Q q =>
  h H1 e _ fun p H2 _ e2 h2 => ⟨p, ns, rfl, sq_of h2, q H2 e2⟩
theorem ev_sum {p : Addr} {ns : List Int} (h : Ev ta σ H (.ref p)) (hS : SqL K H p (ii ns)) : Ev (tCB (rSum K) (tCons ta tNil)) σ H (.int ns.sum) := fun H1 e Q q =>
  h H1 e _ fun H2 e2 => ⟨p, ns, rfl, ex_l (e.trans e2) hS, q H2 e2⟩
theorem given_all {n : Nat} {f : Nat → V} : given n (fun _ => true) f = (List.range n).map f := by
  unfold given
  rw [List.filter_eq_self.mpr (fun _ _ => rfl)]
/-- self.f = e -/
theorem q_fld {a C dx : Addr} {fs : List (Str × V)} {f : Str} (hv : Ev tv σ H v) (ha : Ev ta σ H (.ref a)) (ho : H a = some (.ins C dx fs)) (hc : Cls K C) (hn : NoAttr K C f) (hl : fs.length < 1000)
    (k : ∀ H1, Ex H H1 → tz D σ (upd H1 a (.ins C dx (putF f v fs)))) : tSeq (sFld K ta tv f) tz D σ H :=
  hv H (Ex.refl H) _ fun H1 e1 => ha H1 e1 _ fun H2 e2 => ⟨a, C, dx, fs, rfl, e2 _ _ (e1 _ _ ho), hc, hn, hl, k H2 (e1.trans e2)⟩
theorem q_fldL {a C dx : Addr} {fs : List (Str × V)} {f : Str} {xs : List V} (hv : EvL tv σ H xs) (ha : Ev ta σ H (.ref a)) (ho : H a = some (.ins C dx fs)) (hc : Cls K C) (hn : NoAttr K C f) (hl : fs.length < 1000)
    (k : ∀ p H1, H p = none → Ex H H1 → H1 p = some (.lst xs) → tz D σ (upd H1 a (.ins C dx (putF f (.ref p) fs)))) : tSeq (sFld K ta tv f) tz D σ H :=
  hv H (Ex.refl H) _ fun p H1 hp e1 h1 => ha H1 e1 _ fun H2 e2 => ⟨a, C, dx, fs, rfl, e2 _ _ (e1 _ _ ho), hc, hn, hl, k p H2 hp (e1.trans e2) (e2 _ _ h1)⟩
theorem s_fld {a C dx : Addr} {fs : List (Str × V)} {f : Str} (hv : Ev tv σ H v) (ha : Ev ta σ H (.ref a)) (ho : H a = some (.ins C dx fs)) (hc : Cls K C) (hn : NoAttr K C f) (hl : fs.length < 1000)
    (k : ∀ H1, Ex H H1 → D.nx σ (upd H1 a (.ins C dx (putF f v fs)))) : sFld K ta tv f D σ H :=
  hv H (Ex.refl H) _ fun H1 e1 => ha H1 e1 _ fun H2 e2 => ⟨a, C, dx, fs, rfl, e2 _ _ (e1 _ _ ho), hc, hn, hl, k H2 (e1.trans e2)⟩
theorem ev_fld {a C dx : Addr} {fs : List (Str × V)} {f : Str} (ha : Ev ta σ H (.ref a)) (ho : H a = some (.ins C dx fs)) (hc : Cls K C) (hn : NoAttr K C f) (hl : fs.lookup f = some v) : Ev (tFld K ta f) σ H v :=
  fun H1 e Q q => ha H1 e _ fun H2 e2 => ⟨a, C, dx, fs, v, rfl, e2 _ _ (e _ _ ho), hc, hn, hl, q H2 e2⟩
/-- a value of one of the kinds that is an int, a truth or none of both -/
def isI : V → Bool | .int _ => true | .bl _ => true | _ => false
def isB : V → Bool | .bl _ => true | _ => false
def KnI (K : PySem.W.Frag) (H : Hp) (x : V) : Prop := ∃ t, TyX K H x t ∧ PySem.W.kitOne K t (.type "bool") = some (isB x) ∧ PySem.W.kitOne K t (.type "int") = some (isI x)
theorem kni_int {i : Int} : KnI K H (.int i) := ⟨_, .base (.int i), kit_ty (r := false) (by decide +kernel), kit_ty (r := true) (by decide +kernel)⟩
theorem kni_bl {b : Bool} : KnI K H (.bl b) := ⟨_, .base (.bl b), kit_ty (r := true) (by decide +kernel), kit_ty (r := true) (by decide +kernel)⟩
theorem kni_non : KnI K H .non := ⟨_, .base .non, kit_ty (r := false) (by decide +kernel), kit_ty (r := false) (by decide +kernel)⟩
theorem kni_str {s : Str} : KnI K H (.str s) := ⟨_, .base (.str s), kit_ty (r := false) (by decide +kernel), kit_ty (r := false) (by decide +kernel)⟩
def oi : Option Int → V | none => .non | some i => .int i
def whole (x : V) (lo : Int) (hi : Option Int) : Bool := match x with
  | .int i => decide (lo ≤ i) && (match hi with | none => true | some h => decide (i ≤ h))
  | _ => false
theorem cut_take (xs : List V) (n : Nat) : cutV xs none (some (n : Int)) = xs.take n := by
  unfold cutV
  rw [HT.sIx_none, HT.sIx_nat]
  show (xs.drop 0).take (min n xs.length - 0) = xs.take n
  rw [List.drop_zero, Nat.sub_zero]
  by_cases h : n ≤ xs.length
  · rw [Nat.min_eq_left h]
  · rw [Nat.min_eq_right (by omega), List.take_length, List.take_of_length_le (by omega)]
theorem ii_get {xs : List Int} {j : Nat} (h : j < xs.length) : (ii xs)[j]? = some (.int (xs.getD j 0)) := by
  rw [List.getElem?_map, List.getElem?_eq_getElem h, List.getD_eq_getElem?_getD, List.getElem?_eq_getElem h]
  rfl
theorem ii_len (xs : List Int) : (ii xs).length = xs.length := List.length_map ..
theorem ii_of {xs : List Int} {j : Nat} {y : V} (h : (ii xs)[j]? = some y) : ∃ z, xs[j]? = some z ∧ y = .int z := by
  rw [List.getElem?_map] at h
  cases e : xs[j]? with
  | none => rw [e] at h; cases h
  | some z => rw [e] at h; exact ⟨z, rfl, (Option.some.inj h).symm⟩
end
/-! what is known and never changes (kb), beside what may change -/
theorem grow {kb H H1 : Hp} {p : Addr} {o : HO} (e : Ex kb H) (hp : H p = none) (e1 : Ex H H1) (h1 : H1 p = some o) : Ex (upd kb p o) H1 := fun b u q => by
  by_cases hb : b = p
  · subst hb
    rw [upd_same] at q
    cases q
    exact h1
  · rw [upd_ne hb] at q
    exact e1 b u (e b u q)
theorem kb_new {kb H : Hp} {p : Addr} {o : HO} (e : Ex kb H) (hp : H p = none) : Ex kb (upd kb p o) := Ex.new (fresh_back e hp)
theorem kb_none {kb H : Hp} {p x : Addr} {o u : HO} (hx : kb x = none) (h : H x = some u) (hp : H p = none) : upd kb p o x = none := by
  rw [upd_ne (ne_of_none h hp)]
  exact hx
theorem rep_flat {α : Type} (n : Nat) (x : α) : (List.replicate n [x]).flatten = List.replicate n x := by
  induction n with
  | zero => rfl
  | succ n ih => rw [List.replicate_succ, List.flatten_cons, ih]; rfl

theorem ii_map {n : Nat} {f : Nat → Int} : ii ((List.range n).map f) = (List.range n).map (fun l => V.int (f l)) := List.map_map ..
/-- kb: what is known and stays; mt: what may change, as it stands -/
structure ST (kb H : Hp) (mt : List (Addr × HO)) : Prop where
  e : Ex kb H
  m : ∀ p ∈ mt, kb p.1 = none ∧ H p.1 = some p.2
  d : mt.Pairwise fun p q => p.1 ≠ q.1
section
variable {kb H H1 : Hp} {mt : List (Addr × HO)} {p a b c : Addr} {o o1 o2 o3 u : HO}
theorem ST.ext (s : ST kb H mt) (e : Ex H H1) : ST kb H1 mt := ⟨s.e.trans e, fun p hp => ⟨(s.m p hp).1, e _ _ (s.m p hp).2⟩, s.d⟩
theorem ST.new (s : ST kb H mt) (hp : H p = none) (e : Ex H H1) (h1 : H1 p = some o) : ST (upd kb p o) H1 mt :=
  ⟨grow s.e hp e h1, fun q hq => ⟨kb_none (s.m q hq).1 (s.m q hq).2 hp, e _ _ (s.m q hq).2⟩, s.d⟩
theorem ST.kb_ex (s : ST kb H mt) (hp : H p = none) : Ex kb (upd kb p o) := kb_new s.e hp
theorem ST.newM (s : ST kb H mt) (hp : H p = none) (e : Ex H H1) (h1 : H1 p = some o) : ST kb H1 ((p, o) :: mt) :=
  ⟨s.e.trans e, fun q hq => by
    rcases List.mem_cons.mp hq with rfl | hq
    · exact ⟨fresh_back s.e hp, h1⟩
    · exact ⟨(s.m q hq).1, e _ _ (s.m q hq).2⟩, List.pairwise_cons.mpr ⟨fun q hq => (ne_of_none (s.m q hq).2 hp).symm, s.d⟩⟩
theorem ST.set (s : ST kb H ((a, o) :: mt)) : ST kb (upd H a u) ((a, u) :: mt) :=
  ⟨Ex.mut s.e (s.m _ List.mem_cons_self).1, fun q hq => by
    rcases List.mem_cons.mp hq with rfl | hq
    · exact ⟨(s.m (a, o) List.mem_cons_self).1, upd_same⟩
    · exact ⟨(s.m q (List.mem_cons_of_mem _ hq)).1, by rw [upd_ne ((List.pairwise_cons.mp s.d).1 q hq).symm]; exact (s.m q (List.mem_cons_of_mem _ hq)).2⟩, by
    have z := List.pairwise_cons.mp s.d
    exact List.pairwise_cons.mpr ⟨z.1, z.2⟩⟩
theorem ST.perm {mt' : List (Addr × HO)} (s : ST kb H mt) (h : mt.Perm mt') : ST kb H mt' := ⟨s.e, fun p hp => s.m p (h.mem_iff.mpr hp), s.d.perm h fun z => z.symm⟩
theorem ST.set2 {x : Addr × HO} (s : ST kb H (x :: (a, o) :: mt)) : ST kb (upd H a u) (x :: (a, u) :: mt) := ((s.perm (List.Perm.swap ..)).set).perm (List.Perm.swap ..)
theorem ST.set3 {x y : Addr × HO} (s : ST kb H (x :: y :: (a, o) :: mt)) : ST kb (upd H a u) (x :: y :: (a, u) :: mt) :=
  ((s.perm ((List.Perm.cons x (List.Perm.swap ..)).trans (List.Perm.swap ..))).set).perm ((List.Perm.swap ..).trans (List.Perm.cons x (List.Perm.swap ..)))
theorem ST.at1 (s : ST kb H ((a, o) :: mt)) : H a = some o := (s.m (a, o) List.mem_cons_self).2
theorem ST.at2 {x : Addr × HO} (s : ST kb H (x :: (a, o) :: mt)) : H a = some o := (s.m (a, o) (List.mem_cons_of_mem _ List.mem_cons_self)).2
theorem ST.at3 {x y : Addr × HO} (s : ST kb H (x :: y :: (a, o) :: mt)) : H a = some o := (s.m (a, o) (List.mem_cons_of_mem _ (List.mem_cons_of_mem _ List.mem_cons_self))).2
theorem ST.l {K : PySem.W.Frag} {xs : List V} (s : ST kb H mt) (h : kb a = some (.lst xs)) : SqL K H a xs := sq_of (s.e _ _ h)
/-- a mutable thing is laid down: it stays as it is from here on -/
theorem ST.fix (s : ST kb H ((a, o) :: mt)) : ST (upd kb a o) H mt :=
  ⟨fun b w q => by
    by_cases hb : b = a
    · subst hb; rw [upd_same] at q; cases q; exact s.at1
    · rw [upd_ne hb] at q; exact s.e b w q, fun q hq => ⟨by
      rw [upd_ne ((List.pairwise_cons.mp s.d).1 q hq).symm]
      exact (s.m q (List.mem_cons_of_mem _ hq)).1, (s.m q (List.mem_cons_of_mem _ hq)).2⟩, (List.pairwise_cons.mp s.d).2⟩
end
section
variable {K : PySem.W.Frag} {σ : L2.St} {H H' : Hp} {ta tb te tv : TE} {v : V} {D : Ends} {tz : TS}
theorem st_fldv {a C dx : Addr} {fs fs' : List (Str × V)} {f : Str} {kb : Hp} {mt : List (Addr × HO)} (s : ST kb H ((a, .ins C dx fs) :: mt)) (hv : Ev tv σ H v) (ha : Ev ta σ H (.ref a)) (hc : Cls K C) (hn : NoAttr K C f) (hl : fs.length < 1000) (hf : putF f v fs = fs')
    (k : ∀ H1, ST kb H1 ((a, .ins C dx fs') :: mt) → tz D σ H1) : tSeq (sFld K ta tv f) tz D σ H := by
  subst hf
  exact q_fld hv ha s.at1 hc hn hl fun H1 e1 => k _ (s.ext e1).set
theorem st_fldl {a C dx : Addr} {fs : List (Str × V)} {f : Str} {xs : List V} {kb : Hp} {mt : List (Addr × HO)} (s : ST kb H ((a, .ins C dx fs) :: mt)) (hv : EvL tv σ H xs) (ha : Ev ta σ H (.ref a)) (hc : Cls K C) (hn : NoAttr K C f) (hl : fs.length < 1000)
    (k : ∀ p H1, Ex kb (upd kb p (.lst xs)) → ST (upd kb p (.lst xs)) H1 ((a, .ins C dx (putF f (.ref p) fs)) :: mt) → tz D σ H1) : tSeq (sFld K ta tv f) tz D σ H :=
  q_fldL hv ha s.at1 hc hn hl fun p H1 hp e1 h1 => k p _ (s.kb_ex hp) (s.new hp e1 h1).set
theorem st_fldm {a C dx : Addr} {fs : List (Str × V)} {f : Str} {xs : List V} {kb : Hp} {mt : List (Addr × HO)} (s : ST kb H ((a, .ins C dx fs) :: mt)) (hv : EvL tv σ H xs) (ha : Ev ta σ H (.ref a)) (hc : Cls K C) (hn : NoAttr K C f) (hl : fs.length < 1000)
    (k : ∀ p H1, ST kb H1 ((p, .lst xs) :: (a, .ins C dx (putF f (.ref p) fs)) :: mt) → tz D σ H1) : tSeq (sFld K ta tv f) tz D σ H :=
  q_fldL hv ha s.at1 hc hn hl fun p H1 hp e1 h1 => k p _ (s.newM hp e1 h1).set2
/-- xs.insert(0, a new list) -/
def rIns : V → List V → Hp → VK → Prop := fun x vs H Q => ∃ (l : Addr) (xs : List V) (i : Int) (y : V), x = .ref l ∧ vs = [.int i, y] ∧ H l = some (.lst xs) ∧ xs.length < sizeLine ∧ 0 ≤ i ∧ i < 2 ^ 63 ∧ Q .non (upd H l (.lst (xs.take i.toNat ++ [y] ++ xs.drop i.toNat)))
theorem q_ins0L {l : Addr} {xs ys : List V} (hl : H l = some (.lst xs)) (ha : Ev ta σ H (.ref l)) (h : EvL te σ H ys) (hz : xs.length < 100000) (k : ∀ p H1, H p = none → Ex H H1 → H1 p = some (.lst ys) → tz D σ (upd H1 l (.lst (.ref p :: xs)))) :
    tSeq (tDrop (tBM K "list" rIns ta (tCons (tC (.int 0)) (tCons te tNil)))) tz D σ H := ha H (Ex.refl H) _ fun H1 e1 =>
  ⟨Or.inl ⟨rfl, xs, sq_of (e1 l _ hl)⟩, h H1 e1 _ fun p H2 hp e2 h2 => ⟨l, xs, 0, .ref p, rfl, rfl, e2 l _ (e1 l _ hl), sz_lt hz, Int.le_refl 0, by decide, k p H2 (fresh_back e1 hp) (e1.trans e2) h2⟩⟩
end
theorem lk_head {f : Str} {v : V} {fs : List (Str × V)} : List.lookup f ((f, v) :: fs) = some v := by simp [List.lookup]
theorem lk_tail {f g : Str} {v : V} {fs : List (Str × V)} (h : (f == g) = false) : List.lookup f ((g, v) :: fs) = List.lookup f fs := by simp [List.lookup, h]
section
variable {X : Cx} {x : Str} {pos : Pos}
theorem pe_gi {i : Int} (hg : Gl X x) (h : ∃ t, X.mg x = some (.int i t)) (hd : (x == ("__debug__" : Str)) = false := by decide) : PE X (.Name x pos) (tC (.int i)) := by
  obtain ⟨t, h⟩ := h
  exact pe_glob hg h ⟨t, rfl⟩ (hd := hd)
theorem pe_gs {i : Str} (hg : Gl X x) (h : ∃ t, X.mg x = some (.str i t)) (hd : (x == ("__debug__" : Str)) = false := by decide) : PE X (.Name x pos) (tC (.str i)) := by
  obtain ⟨t, h⟩ := h
  exact pe_glob hg h ⟨t, rfl⟩ (hd := hd)
end
section
variable {K : PySem.W.Frag} {σ : L2.St} {H H' : Hp} {ta tb te tv : TE} {v : V} {D : Ends} {tz : TS} {tr : TA} {xs ys vs dvs : List V}
theorem s_ins0L {l : Addr} {xs ys : List V} (hl : H l = some (.lst xs)) (ha : Ev ta σ H (.ref l)) (h : EvL te σ H ys) (hz : xs.length < 100000) (k : ∀ p H1, H p = none → Ex H H1 → H1 p = some (.lst ys) → D.nx σ (upd H1 l (.lst (.ref p :: xs)))) :
    tDrop (tBM K "list" rIns ta (tCons (tC (.int 0)) (tCons te tNil))) D σ H := ha H (Ex.refl H) _ fun H1 e1 =>
  ⟨Or.inl ⟨rfl, xs, sq_of (e1 l _ hl)⟩, h H1 e1 _ fun p H2 hp e2 h2 => ⟨l, xs, 0, .ref p, rfl, rfl, e2 l _ (e1 l _ hl), sz_lt hz, Int.le_refl 0, by decide, k p H2 (fresh_back e1 hp) (e1.trans e2) h2⟩⟩
/-- [z] * n, a list and a list -/
theorem el_rep {z : V} {n : Nat} (ha : Ev ta σ H z) (hb : Ev tb σ H (.int (n : Int))) (hn : n ≤ 100000) : EvL (tOp rRep (tLst (tCons ta tNil)) tb) σ H (List.replicate n z) := fun H1 e Q q =>
  el_lst (ea_cons ha ea_nil) (by show 1 ≤ 100000; decide) H1 e _ fun p H2 hp e2 h2 => hb H2 (e.trans e2) _ fun H3 e3 =>
    ⟨p, (n : Int), [z], rfl, rfl, e3 _ _ h2, by omega, by omega, by show 1 * _ ≤ _; rw [Nat.one_mul, Int.toNat_natCast]; exact sz_of hn, fun r hr => by
      rw [Int.toNat_natCast, rep_flat]
      exact q r _ (fresh_back (e2.trans e3) hr) ((e2.trans e3).trans (Ex.new hr)) upd_same⟩
theorem el_cat (ha : EvL ta σ H xs) (hb : ∀ H1, Ex H H1 → EvL tb σ H1 ys) (hz : xs.length + ys.length ≤ 100000) : EvL (tOp rCat ta tb) σ H (xs ++ ys) := fun H1 e Q q =>
  ha H1 e _ fun p H2 hp e2 h2 => hb H2 (e.trans e2) H2 (Ex.refl H2) _ fun r H3 hr e3 h3 => ⟨p, r, xs, ys, rfl, rfl, e3 _ _ h2, h3, sz_of hz, fun t ht =>
    q t _ (fresh_back (e2.trans e3) ht) ((e2.trans e3).trans (Ex.new ht)) upd_same⟩
theorem el_cat1 {a : Addr} (ha : Ev ta σ H (.ref a)) (hA : H a = some (.lst xs)) (hb : EvL tb σ H ys) (hz : xs.length + ys.length ≤ 100000) : EvL (tOp rCat ta tb) σ H (xs ++ ys) := fun H1 e Q q =>
  ha H1 e _ fun H2 e2 => hb H2 (e.trans e2) _ fun r H3 hr e3 h3 => ⟨a, r, xs, ys, rfl, rfl, ((e.trans e2).trans e3) _ _ hA, h3, sz_of hz, fun t ht =>
    q t _ (fresh_back (e2.trans e3) ht) ((e2.trans e3).trans (Ex.new ht)) upd_same⟩
theorem el_slN {tl th : TO} {lo hi : Option Int} (h : EvL te σ H xs) (h1 : EvO tl σ H lo) (h2 : EvO th σ H hi) : EvL (tSl (rSlL K) te tl th) σ H (cutV xs lo hi) := fun H1 e _ q =>
  h H1 e _ fun a H2 ha e2 hx => h1 H2 (e.trans e2) _ fun H3 e3 => h2 H3 ((e.trans e2).trans e3) _ fun H4 e4 =>
    ⟨a, xs, rfl, sq_of (e4 _ _ (e3 _ _ hx)), fun p hp => q p _ (fresh_back ((e2.trans e3).trans e4) hp) (((e2.trans e3).trans e4).trans (Ex.new hp)) upd_same⟩
/-- a call whose first argument is a new list -/
theorem el_callL {sp : Sp} {E : XK} (h : EvL te σ H xs) (hr : EvA tr σ H vs) (hs : ∀ p H1, Ex H H1 → H1 p = some (.lst xs) → SpL sp (.ref p :: vs ++ dvs) H1 ys) : EvL (tCall sp dvs E (tCons te tr)) σ H ys := fun H1 e Q q =>
  h H1 e _ fun p H2 hp e2 h2 => hr H2 (e.trans e2) _ fun H3 e3 => hs p H3 ((e.trans e2).trans e3) (e3 _ _ h2) H3 (Ex.refl H3) Q (fun r H4 hr e4 h4 => q r H4 (fresh_back (e2.trans e3) hr) ((e2.trans e3).trans e4) h4) E
theorem el_callLL {sp : Sp} {E : XK} {zs : List V} (h : EvL te σ H xs) (hb : ∀ H1, Ex H H1 → EvL tb σ H1 zs) (hr : EvA tr σ H vs) (hs : ∀ p r H1, Ex H H1 → H1 p = some (.lst xs) → H1 r = some (.lst zs) → SpL sp (.ref p :: .ref r :: vs ++ dvs) H1 ys) : EvL (tCall sp dvs E (tCons te (tCons tb tr))) σ H ys := fun H1 e Q q =>
  h H1 e _ fun p H2 hp e2 h2 => hb H2 (e.trans e2) H2 (Ex.refl H2) _ fun r H3 hr' e3 h3 => hr H3 ((e.trans e2).trans e3) _ fun H4 e4 => hs p r H4 (((e.trans e2).trans e3).trans e4) (e4 _ _ (e3 _ _ h2)) (e4 _ _ h3) H4 (Ex.refl H4) Q
    (fun t H5 ht e5 h5 => q t H5 (fresh_back ((e2.trans e3).trans e4) ht) (((e2.trans e3).trans e4).trans e5) h5) E
end

/-! ### further rules of mine -/
section
variable {X : Cx}
theorem PI.or {tg e : Expr} {w1 w2 : TI} (h1 : PI X tg e w1) (h2 : PI X tg e w2) : PI X tg e (fun σ H R => w1 σ H R ∨ w2 σ H R) :=
  ⟨fun pins s σ H R I h => h.elim (fun h => h1.run pins s σ H R I h) (fun h => h2.run pins s σ H R I h)⟩
/-- a < b of data that are alike -/
def rLtD (K : PySem.W.Frag) : R2 := fun x y H Q => ∃ d e, Dp K H x d ∧ Dp K H y e ∧ PySem.W.alike d e = true ∧ d ≠ .none ∧ d.depth ≤ 60 ∧ Q (.bl (PySem.W.dataLt d e)) H
theorem op_ltD (K : PySem.W.Frag) (hu : X.A.units + 64 < cLine) (hK : X.K = K := by rfl) : OpR X (compareOp .Lt) (rLtD K) := by
  subst hK
  intro pins s σ H x y v u Q I rx ry h
  obtain ⟨d, e, hd, he, ha, hn, hdp, q⟩ := h
  obtain ⟨as, r1⟩ := Dp.reads I d x v hd rx
  obtain ⟨bs, r2⟩ := Dp.reads I e y u he ry
  show wpAny _ _ (richCompare .Lt v u) _ _ _
  exact PySem.W.rcLt_alike d e X.A s v u as bs r1 r2 ha hn (by omega) _ _ _ _ ⟨.bl _, H, I, rfl, q⟩
/-- a == b by the own __eq__ of the class of both -/
def rEqOwn (C : Addr) (sp : Sp) (E : XK) : R2 := fun x y H Q => ∃ a b dx dy fs gs, x = .ref a ∧ y = .ref b ∧ H a = some (.ins C dx fs) ∧ H b = some (.ins C dy gs) ∧ sp [.ref a, .ref b] H (fun v H' => (∃ k, v = .bl k) ∧ Q v H') E
theorem op_eqOwn {CX : CXT} {C f : Addr} {fd : FuncData} {ps : List Str} {sp : Sp} {E : XK} {n : Nat} (F : FnOk X.prog X.w X.K X.mg X.base CX n f fd ps sp) (hr : Room n X.A) (M : Meth X.K C "__eq__" f) (hb : Binds X.K fd ps []) (hx : Passes CX X E) :
    OpR X (compareOp .Eq) (rEqOwn C sp E) := by
  intro pins s σ H x y v u Q I rx ry h
  obtain ⟨a, b, dx, dy, fs, gs, rfl, rfl, ha, hb', hsp⟩ := h
  cases rx
  cases ry
  obtain ⟨mA, J, _⟩ := ins_get I.hok ha
  obtain ⟨mB, J', _⟩ := ins_get I.hok hb'
  obtain ⟨od, J, _⟩ := J.look
  obtain ⟨od', J', _⟩ := J'.look
  obtain ⟨m, hF⟩ := I.fr
  show wpAny _ _ (richCompare .Eq _ _) _ _ _
  refine PySem.W.cmp_K (op := .Eq) (tb := .ref C) hr.units0 hF I.ok.mod.kin J J'.type (by simp [PySem.W.notFirst]) M.at_ M.fn ?_
  have hl := F.len _ _ _ _ hsp
  have r2 : Vals [V.ref a, V.ref b] [Value.ref a, Value.ref b] := .cons rfl (.cons rfl .nil)
  refine wpAny_call (codeAny_mono (F.run X.A X.stack s H ⟨[.ref a, .ref b], []⟩ [.ref a, .ref b] [.ref a, .ref b] _ E hr I.env0 (by
    have := hb s [.ref a, .ref b] I.kIn (by simpa using hl)
    simpa using this) r2 hsp) fun r s' hq => ?_)
  cases r with
  | error e => exact hx pins σ H s e s' I hq
  | ok fl =>
    cases fl with
    | ret w =>
      obtain ⟨z, H', I', rz, ⟨k, ez⟩, q⟩ := I.after hq
      subst ez
      cases rz
      exact ⟨.bl k, H', I', rfl, q⟩
    | next => exact False.elim hq
    | brk => exact False.elim hq
    | cont => exact False.elim hq
theorem kit_self {K : PySem.W.Frag} {C : Addr} : PySem.W.kitOne K (.ref C) (.ref C) = some true := by
  unfold PySem.W.kitOne
  rw [if_pos (by simp)]
theorem tup0 {pos : Pos} {c : Nat} : PE X (.Tuple [] c pos) (tTup tNil) := pe_tup pa_nil
end
section
variable (K : PySem.W.Frag) {X : Cx}
def rAllK (K : PySem.W.Frag) : List V → Hp → VK → Prop := rAll K
theorem allK (hc : X.calm = true) (hK : X.K = K := by rfl) : CallR X (.builtin "all") (rAll K) := by subst hK; exact cr_all hc
end
section
variable {K : PySem.W.Frag} {σ : L2.St} {H H' : Hp} {ta tb te tv : TE} {t u : TT} {x y z v : V} {D : Ends} {tz tu : TS}
/-- a value that is a text or none -/
def isS : V → Bool | .str _ => true | _ => false
def KnS (K : PySem.W.Frag) (H : Hp) (x : V) : Prop := ∃ t, TyX K H x t ∧ PySem.W.kitOne K t (.type "str") = some (isS x)
theorem kns_str {s : Str} : KnS K H (.str s) := ⟨_, .base (.str s), kit_ty (r := true) (by decide +kernel)⟩
theorem kns_int {i : Int} : KnS K H (.int i) := ⟨_, .base (.int i), kit_ty (r := false) (by decide +kernel)⟩
theorem ev_isi {c : V} {tt u : Value} {b : Bool} (ha : Ev ta σ H x) (hb : Ev tb σ H c) (k : ClsV c u) (ht : ∀ H1, Ex H H1 → TyX K H1 x tt) (e : PySem.W.kitOne K tt u = some b) : Ev (tCB (rIsi K) (tCons ta (tCons tb tNil))) σ H (.bl b) :=
  fun H1 e1 Q q => ha H1 e1 _ fun H2 e2 => hb H2 (e1.trans e2) _ fun H3 e3 => ⟨x, c, tt, u, b, rfl, k, ht H3 ((e1.trans e2).trans e3), e, q H3 (e2.trans e3)⟩
theorem tyx_ex {tt : Value} (h : TyX K H x tt) (e : Ex H H') : TyX K H' x tt := by
  cases h with
  | base b =>
    cases b with
    | non => exact .base .non
    | bl x => exact .base (.bl x)
    | int i => exact .base (.int i)
    | str x => exact .base (.str x)
    | flt x => exact .base (.flt x)
    | lst h => exact .base (.lst (e _ _ h))
    | frz h => exact .base (.frz (e _ _ h))
    | tup h => exact .base (.tup (e _ _ h))
    | dK h => exact .base (.dK (e _ _ h))
    | dT h => exact .base (.dT (e _ _ h))
    | ins h a b c d f => exact .base (.ins (e _ _ h) a b c d f)
  | byt b => exact .byt b
  | set h => exact .set (e _ _ h)
  | kList h c => exact .kList h c
  | kTuple h c => exact .kTuple h c
  | kDict h c => exact .kDict h c
  | fTuple h => exact .fTuple (e _ _ h)
  | fDict h => exact .fDict (e _ _ h)
theorem kns_ex (h : KnS K H x) (e : Ex H H') : KnS K H' x := let ⟨t, h1, h2⟩ := h; ⟨t, tyx_ex h1 e, h2⟩
theorem kni_ex (h : KnI K H x) (e : Ex H H') : KnI K H' x := let ⟨t, h1, h2⟩ := h; ⟨t, tyx_ex h1 e, h2⟩
theorem ev_chain {r r' : R2} {k : Bool} {w : V} {tc : TE} {b2 : Bool} (ha : Ev ta σ H x) (hb : Ev tb σ H y) (hr : RV r x y H (.bl k)) (hc : k = true → Ev tc σ H w) (hr' : k = true → RV r' y w H (.bl b2)) : Ev (tChain r r' ta tb tc) σ H (.bl (k && b2)) := fun H1 e Q q =>
  ha H1 e _ fun H2 e2 => hb H2 (e.trans e2) _ fun H3 e3 => hr H3 ((e.trans e2).trans e3) _ fun H4 e4 => ⟨k, rfl, by
    cases k with
    | true =>
      rw [if_pos rfl]
      exact hc rfl H4 (((e.trans e2).trans e3).trans e4) _ fun H5 e5 => hr' rfl H5 ((((e.trans e2).trans e3).trans e4).trans e5) Q fun H6 e6 => q H6 ((((e2.trans e3).trans e4).trans e5).trans e6)
    | false =>
      rw [if_neg Bool.false_ne_true]
      exact q H4 ((e2.trans e3).trans e4)⟩
theorem ev_lenS {s : Str} (ha : Ev ta σ H (.str s)) (hz : s.length ≤ 100000) : Ev (tCB (fun xs H Q => ∃ z, xs = [.str z] ∧ z.length ≤ sizeLine ∧ Q (.int z.length) H) (tCons ta tNil)) σ H (.int (s.length : Int)) := fun H1 e Q q =>
  ha H1 e _ fun H2 e2 => ⟨s, rfl, sz_of hz, q H2 e2⟩
theorem ev_m1 {r : V → List V → Hp → VK → Prop} {s : Str} {w : V} (ha : Ev ta σ H (.str s)) (hb : Ev tb σ H y) (hr : ∀ H1, Ex H H1 → ∀ Q : VK, (∀ H2, Ex H1 H2 → Q w H2) → r (.str s) [y] H1 Q) : Ev (tM1 r ta tb) σ H w := fun H1 e Q q =>
  ha H1 e _ fun H2 e2 => ⟨⟨s, rfl⟩, hb H2 (e.trans e2) _ fun H3 e3 => hr H3 ((e.trans e2).trans e3) Q fun H4 e4 => q H4 ((e2.trans e3).trans e4)⟩
theorem ev_slS {tl th : TO} {s : Str} {lo hi : Option Int} (h : Ev te σ H (.str s)) (h1 : EvO tl σ H lo) (h2 : EvO th σ H hi) (hz : s.length ≤ 100000) : Ev (tSl rSlS te tl th) σ H (.str (cutS s lo hi)) := fun H1 e _ q =>
  h H1 e _ fun H2 e2 => h1 H2 (e.trans e2) _ fun H3 e3 => h2 H3 ((e.trans e2).trans e3) _ fun H4 e4 => ⟨s, rfl, sz_of hz, q H4 ((e2.trans e3).trans e4)⟩
theorem rv_neS {a b : Str} : RV rNe (.str a) (.str b) H (.bl (!decide (a = b))) := fun H1 _ _ q => ⟨rfl, by
  have : decide (V.str a = V.str b) = decide (a = b) := by
    by_cases h : a = b
    · rw [h, decide_eq_true rfl, decide_eq_true rfl]
    · rw [decide_eq_false h, decide_eq_false (fun z => h (V.str.inj z))]
  rw [this]
  exact q H1 (Ex.refl H1)⟩
theorem rv_eqS {a b : Str} : RV rEq (.str a) (.str b) H (.bl (decide (a = b))) := fun H1 _ _ q => ⟨rfl, by
  have : decide (V.str a = V.str b) = decide (a = b) := by
    by_cases h : a = b
    · rw [h, decide_eq_true rfl, decide_eq_true rfl]
    · rw [decide_eq_false h, decide_eq_false (fun z => h (V.str.inj z))]
  rw [this]
  exact q H1 (Ex.refl H1)⟩
end
section
variable {X : Cx} {CX : CXT} {k : Nat} {f C : Addr} {fd : FuncData} {ps : List Str} {sp : Sp} {E : XK} {x : Str} {p pos : Pos} {e : Expr} {es : List Expr} {t : TA} {dvs : List V} {te : TE}
theorem pe_callD (F : FnOk X.prog X.w X.K X.mg X.base CX k f fd ps sp) (hr : Room k X.A) (hg : Gl X x) (hm : X.mg x = some (.ref f)) (hk : PySem.W.keepIn X.K (.ref f) = true) (hbd : ∃ ds, Vals dvs ds ∧ Binds X.K fd ps ds) (hx : Passes CX X E)
    (ha : PA X (e :: es) t) (hdb : (x == ("__debug__" : Str)) = false := by decide) (he : starEach (e :: es) X.env = (false, eval e X.env) :: starEach es X.env := by rfl) (hpl : (backTo pos (starEach es X.env)).any (·.1) = false := by rfl) :
    PE X (.Call (.Name x p) (e :: es) [] pos) (tCall sp dvs E t) := by
  obtain ⟨ds, hd, hb⟩ := hbd
  exact pe_call F hr hg hm hk hb hd hx ha hdb he hpl
theorem pe_makeD (M : Mk X.K C f) (F : FnOk X.prog X.w X.K X.mg X.base CX k f fd ps sp) (hr : Room (k + 1) X.A) (hg : Gl X x) (hm : X.mg x = some (.ref C)) (hbd : ∃ ds, Vals dvs ds ∧ Binds X.K fd ps ds) (hx : Passes CX X E)
    (ha : PA X (e :: es) t) (hdb : (x == ("__debug__" : Str)) = false := by decide) (he : starEach (e :: es) X.env = (false, eval e X.env) :: starEach es X.env := by rfl) (hpl : (backTo pos (starEach es X.env)).any (·.1) = false := by rfl) :
    PE X (.Call (.Name x p) (e :: es) [] pos) (tMake C sp dvs E t) := by
  obtain ⟨ds, hd, hb⟩ := hbd
  exact pe_make M F hr hg hm hb hd hx ha hdb he hpl
theorem starK (K : PySem.W.Frag) (he : PE X e te) (hr : PA X es t) (hK : X.K = K := by rfl) (hs : starEach (.Starred e p :: es) X.env = (true, eval e X.env) :: starEach es X.env := by rfl) : PA X (.Starred e p :: es) (StX.tStar K te t) := by
  subst hK
  exact StX.pa_star he hr hs
end
section
variable {K : PySem.W.Frag} {σ : L2.St} {H H' : Hp} {ta tb te tv : TE} {t u : TT} {x y z v : V} {D : Ends} {tz tu : TS} {tr : TA}
theorem ea_star {a : Addr} {xs vs : List V} (h : Ev te σ H (.ref a)) (hx : SqT K H a xs) (hr : EvA tr σ H vs) : EvA (StX.tStar K te tr) σ H (xs ++ vs) := fun H1 e _ q =>
  h H1 e _ fun H2 e2 => ⟨a, xs, rfl, .inl (ex_t (e.trans e2) hx), hr H2 (e.trans e2) _ fun H3 e3 => q H3 (e2.trans e3)⟩
theorem et_truth {b : Bool} (h : Ev te σ H x) (ht : ∀ H1, Ex H H1 → TruV K x H1 b) : EvT (fun σ H Q => te σ H fun x H' => ∃ k, TruV K x H' k ∧ Q k H') σ H b := fun H1 e _ q =>
  h H1 e _ fun H2 e2 => ⟨b, ht H2 (e.trans e2), q H2 e2⟩
theorem ev_orT {b : Bool} (h : Ev ta σ H x) (ht : ∀ H1, Ex H H1 → TruV K x H1 b) (hb : b = false → Ev tb σ H y) (hv : v = if b = true then x else y) : Ev (tOrT K ta tb) σ H v := fun H1 e Q q =>
  h H1 e _ fun H2 e2 => ⟨b, ht H2 (e.trans e2), by
    subst hv
    cases b with
    | true =>
      rw [if_pos rfl]
      exact q H2 e2
    | false =>
      rw [if_neg Bool.false_ne_true]
      exact hb rfl H2 (e.trans e2) Q fun H3 e3 => q H3 (e2.trans e3)⟩
/-- the parts of an f-string, by their texts -/
inductive EvJ (σ : L2.St) (H : Hp) : List TE → List Str → Prop where
  | nil : EvJ σ H [] []
  | cons {t : TE} {ts : List TE} {s : Str} {ss : List Str} (h : Ev t σ H (.str s)) (r : EvJ σ H ts ss) : EvJ σ H (t :: ts) (s :: ss)
theorem ev_tJs {ts : List TE} {ss : List Str} (h : EvJ σ H ts ss) : ∀ (acc : Str) (H1 : Hp), Ex H H1 → acc.length + (ss.map (·.length)).sum ≤ 100000 → ∀ Q : Str → Hp → Prop, (∀ H2, Ex H1 H2 → Q (ss.foldl (· ++ ·) acc) H2) → tJs ts acc σ H1 Q := by
  induction h with
  | nil => intro acc H1 e hz Q q; exact q H1 (Ex.refl _)
  | @cons t ts s ss h r ih =>
    intro acc H1 e hz Q q
    have hl : (acc ++ s).length = acc.length + s.length := by
      show (acc.cps ++ s.cps).size = _
      rw [Array.size_append]
      rfl
    rw [List.map_cons, List.sum_cons] at hz
    exact h H1 e _ fun H2 e2 => ⟨s, rfl, sz_of (by omega), ih (acc ++ s) H2 (e.trans e2) (by omega) Q fun H3 e3 => q H3 (e2.trans e3)⟩
theorem ev_joined {ts : List TE} {ss : List Str} (h : EvJ σ H ts ss) (hz : (ss.map (·.length)).sum ≤ 90000) : Ev (fun σ H Q => tJs ts Str.empty σ H fun out H1 => Q (.str out) H1) σ H (.str (ss.foldl (· ++ ·) Str.empty)) := fun H1 e Q q =>
  ev_tJs h Str.empty H1 e (by show (#[] : Array Nat).size + _ ≤ _; simp only [List.size_toArray, List.length_nil]; omega) _ q
theorem ev_fmtS {s : Str} (h : Ev te σ H (.str s)) (hz : s.length ≤ 100000) : Ev (tFmt te) σ H (.str s) := fun H1 e Q q => h H1 e _ fun H2 e2 => .inl ⟨s, rfl, sz_of hz, q H2 e2⟩
theorem ev_fmtI {i : Int} (h : Ev te σ H (.int i)) (hz : i.natAbs.log2 < 1920) : Ev (tFmt te) σ H (.str (toString i)) := fun H1 e Q q => h H1 e _ fun H2 e2 => .inr ⟨i, rfl, hz, q H2 e2⟩
theorem ev_strI {i : Int} (h : Ev te σ H (.int i)) (hz : i.natAbs.log2 < 1920) : Ev (tCB (fun xs H Q => ∃ i : Int, xs = [.int i] ∧ i.natAbs.log2 < 1920 ∧ Q (.str (toString i)) H) (tCons te tNil)) σ H (.str (toString i)) := fun H1 e Q q =>
  h H1 e _ fun H2 e2 => ⟨i, rfl, hz, q H2 e2⟩
theorem int_len {a : Int} (h : a.natAbs.log2 < 1920) : (Str.ofString (toString a)).length ≤ 1921 := by
  have e := int_text_length_le (k := 1920) (by decide) h
  rw [PySem.ofString_length]
  omega
end
section
variable {K : PySem.W.Frag} {σ : L2.St} {H : Hp} {ta tv : TE} {D : Ends} {tz : TS}
theorem q_fldU {a C dx : Addr} {fs : List (Str × V)} {f : Str} {xs : List V} (hv : EvU tv σ H xs) (ha : Ev ta σ H (.ref a)) (ho : H a = some (.ins C dx fs)) (hc : Cls K C) (hn : NoAttr K C f) (hl : fs.length < 1000)
    (k : ∀ p H1, H p = none → Ex H H1 → H1 p = some (.tup xs) → tz D σ (upd H1 a (.ins C dx (putF f (.ref p) fs)))) : tSeq (sFld K ta tv f) tz D σ H :=
  hv H (Ex.refl H) _ fun p H1 hp e1 h1 => ha H1 e1 _ fun H2 e2 => ⟨a, C, dx, fs, rfl, e2 _ _ (e1 _ _ ho), hc, hn, hl, k p H2 hp (e1.trans e2) (e2 _ _ h1)⟩
end

/-! ### a def that is called where no repr runs -/
structure FnG (P : Program) (w : World) (K : PySem.W.Frag) (mg : Str → Option Value) (base : Heap) (k : Nat) (f : Addr) (fd : FuncData) (ps : List Str) (sp : Sp) : Prop where
  len : ∀ vs H Q E, sp vs H Q E → vs.length = ps.length
  run : ∀ (A : Around) (out : List Env) (t : Shared) (H : Hp) (ar : Args) (us : List Value) (vs : List V) (Q : VK) (E : XK), A.guards = some [] → Room k A → Env0 P w K mg base A out t H → BindsTo t fd ar (ps.zip us) → Vals vs us →
    sp vs H Q E → codeAny (model P w) A (.call (.ref f) ar) (CR CX0 out P w H t Q E) t
section
variable {P : Program} {w : World} {K : PySem.W.Frag} {mg : Str → Option Value} {base : Heap} {k : Nat} {f : Addr} {fd : FuncData} {x qual : Str} {st : Stmt} {N ps : List Str} {sp : Sp}
theorem okG (F : Fun K x qual st f fd) (S : FnScope N ps (defScope st)) (len : ∀ vs H Q E, sp vs H Q E → vs.length = ps.length)
    (body : ∀ (cv : Value) (A : Around) (out : List Env) (t : Shared) (H : Hp) (vs : List V) (Q : VK) (E : XK), A.guards = some [] → Room k (A.deeper (envOfC qual (defScope st) t.heap.objs.size f cv)) → sp vs H Q E →
      ∃ u, PSs (cxOf CX0 P w K mg base N qual (defScope st) f cv A out t H E).nox (defBody st) u ∧ u { nx := fun _ H' => Q .non H', rt := Q } (start N vs) H) : FnG P w K mg base (k + 1) f fd ps sp := by
  obtain ⟨oc, od, kV, doc, pm, an, ct, cv, osl, rfl, look, code⟩ := F.ex
  refine ⟨len, fun A out t H ar us vs Q E gd room en bd rel hsp => ?_⟩
  have many := len vs H Q E hsp
  have stay := fun b o (q : base.get? b = some o) => (en.bs b o q).1
  have written := en.mod.kin.keeps stay
  have kinds : ∀ y ∈ ps.zip us, (defScope st).names.lookup y.1 = some .local ∨ ((defScope st).names.lookup y.1 = some .cell ∧ ((cellsFrom (t.heap.objs.size + 1) (defScope st).names []).lookup y.1).isSome = true) := by
    rintro ⟨n, z⟩ hy
    cases S.par n (List.of_mem_zip hy).1 with
    | inl q => exact Or.inl q
    | inr q => exact Or.inr ⟨q, PySem.W.cellsFrom_some _ _ _ (Or.inl q)⟩
  apply codeAny_call_function room.depth (written _ _ look) rfl S.co S.gen rfl (PySem.W.codeRec_of written code) (bd _ _ _ _ ?_)
  apply wpAny_newFunctionEnv_cells S.kind kinds
  rintro _ rfl t1 inside
  refine ⟨(en.mod.nolimit.keeps stay).keeps inside.toInCall.keep, codeAny_func ?_⟩
  obtain ⟨u, hu, go⟩ := body _ A out t H vs Q E gd (room.deeper _) hsp
  have inv := inv_start (CX := CX0) (E := E) S room.hd en many rel inside
  refine wpAny_mono (hu.nox.run [] t1 (start N vs) H _ inv go) (fun fl t2 hs => ?_) fun e t2 hs => hs
  match fl, hs with
  | .ret z, ⟨v, σ', H', J, rv, q⟩ => exact ⟨v, H', J.os, J.bare, J.base, J.hok, rv, q⟩
  | .next, ⟨σ', H', J, q⟩ => exact ⟨V.non, H', J.os, J.bare, J.base, J.hok, rfl, q⟩
  | .brk, ⟨_, _, _, q⟩ => exact q.elim
  | .cont, ⟨_, _, _, q⟩ => exact q.elim
end
section
variable {X : Cx}
/-- repr(x) of what shows as data -/
def rRepr (K : PySem.W.Frag) : List V → Hp → VK → Prop := fun xs H Q => ∃ v d, xs = [v] ∧ Dp K H v d ∧ d.showable = true ∧ d.hasDict = false ∧ d.depth ≤ 60 ∧ d.shown.length ≤ 90000 ∧ Q (.str d.shown) H
end
section
variable {P : Program} {w : World} {K : PySem.W.Frag} {mg mb : Str → Option Value} {k : Nat} {fa a : Addr} {fd : FuncData} {x : Str} {sp : Sp} {t : Shared} {vs : List Value} {ns : List Int}
/-- the law's call, from its promise where no repr runs -/
theorem law_callG (kin : K.In t.heap) (nm : t.heap.Ns mainGlobals mg) (nb : t.heap.Ns builtinsNs mb) (bb : ∀ x : Str, x ≠ "__name__" → mb x = bootBuiltins x) (nl : t.heap.NoLimit) (gg : t.gens = #[])
    (at_ : t.heap.get? a = some { cls := .type "list", data := .seq vs.toArray }) (its : IntsAre vs ns) (few : ns.length ≤ sizeLine) (room : Room k callerA)
    (F : ∀ base : Heap, K.In base → base.Ns mainGlobals mg → FnG P w K mg base k fa fd [x] sp) (bd : ∀ (s : Shared) (u : Value), BindsTo s fd ⟨[u], []⟩ [(x, u)])
    (hsp : ∀ H : Hp, Only H → SqL K H a (ns.map V.int) → sp [.ref a] H (fun v _ => v = .bl true) fun _ _ _ => False) :
    codeAny (model P w) callerA (.call (.ref fa) ⟨[.ref a], []⟩) (fun r s' => r = .ok (.ret (.bool true)) ∧ OldK t.heap s'.heap ∧ s'.os = t.os ∧ AllBare s'.gens) t := by
  have rel := vals_ints its
  have size := its.length
  -- a heap H of which at most the script is known
  suffices go : ∀ H : Hp, Only H → SqL K H a (ns.map V.int) → HOk P w H t.heap → (∀ b, H b ≠ none → b = a ∧ K.lookup a = none) →
      codeAny (model P w) callerA (.call (.ref fa) ⟨[.ref a], []⟩) (fun r s' => r = .ok (.ret (.bool true)) ∧ OldK t.heap s'.heap ∧ s'.os = t.os ∧ AllBare s'.gens) t by
    cases own : K.lookup a with
    | some o =>
      obtain rfl := Option.some.inj ((kin a o own).symm.trans at_)
      refine go (fun _ => none) (fun _ => Or.inl rfl) (Or.inr ⟨_, vs.toArray, _, own, rfl, rfl, rfl, ?_, ?_⟩) (fun b u z => nomatch z) (fun b z => absurd rfl z)
      · rw [List.size_toArray, size]; exact few
      · simpa using rel
    | none =>
      let one : Hp := fun b => if b = a then some (.frz { cls := .type "list", data := .seq vs.toArray } (.lst (ns.map V.int))) else none
      have here : one a = some (.frz { cls := .type "list", data := .seq vs.toArray } (.lst (ns.map V.int))) := if_pos rfl
      have there : ∀ b, b ≠ a → one b = none := fun b h => if_neg h
      refine go one (fun b => ?_) (Or.inl (Or.inr ⟨_, here⟩)) (fun b u z => ?_) (fun b z => ⟨Classical.byContradiction fun h => z (there b h), own⟩)
      · by_cases h : b = a
        · subst h; exact Or.inr ⟨_, _, here⟩
        · exact Or.inl (there b h)
      · by_cases h : b = a
        · subst h
          cases here.symm.trans z
          exact ⟨at_, by rw [List.length_map]; exact few, vs, _, rel, at_⟩
        · rw [there b h] at z
          cases z
  intro H only hS hok mine
  have free : ∀ {b : Addr} {o : Obj}, t.heap.get? b = some o → (b = a → K.lookup a = none → False) → H b = none := fun {b o} q no => by
    cases e : H b with
    | none => rfl
    | some u =>
      obtain ⟨h1, h2⟩ := mine b (by rw [e]; simp)
      exact (no h1 h2).elim
  have inK : K.In (hidT t.heap H) := fun b o q => hidT_get (kin b o q) (free (kin b o q) fun h1 h2 => by rw [h1, h2] at q; cases q)
  have ns' : ∀ {b : Addr} {m : Str → Option Value}, t.heap.Ns b m → (hidT t.heap H).Ns b m := by
    rintro b m ⟨o, es, ep, q, d, r⟩
    refine ⟨o, es, ep, hidT_get q (free q fun h1 _ => ?_), d, r⟩
    subst h1
    cases at_.symm.trans q
    cases d
  have md : Mod K mg (hidT t.heap H) := by
    obtain ⟨mc, l1, l2⟩ := nl
    exact ⟨inK, ns' nm, ⟨mb, ns' nb, bb⟩, ⟨mc, ns' l1, l2⟩⟩
  have en : Env0 P w K mg (hidT t.heap H) callerA [] t H := ⟨rfl, md, fun b o q => of_hidT q, Nat.le_of_eq (hidT_size _ _), trivial, fun b z => absurd (show b ∈ ([] : List Addr) from z) List.not_mem_nil, hok, .of_eq gg⟩
  have run := (F _ inK (ns' nm)).run callerA [] t H ⟨[.ref a], []⟩ [.ref a] [.ref a] _ _ rfl room en (bd t (.ref a)) (.cons rfl .nil) (hsp H only hS)
  refine codeAny_mono run fun r s' h => ?_
  match r, h with
  | .error e, h => exact h.elim
  | .ok .next, h => exact h.elim
  | .ok .brk, h => exact h.elim
  | .ok .cont, h => exact h.elim
  | .ok (.ret u), ⟨v, H', os, bare, un, hok', rv, q⟩ =>
    obtain rfl : v = .bl true := q
    obtain rfl : u = Value.bool true := rv
    refine ⟨rfl, OldK.of_keep fun b o q => ?_, os, bare⟩
    rcases only b with z | ⟨ob, xs, z⟩
    · exact un.keep b o q z (fun z => absurd (show b ∈ ([] : List Addr) from z) List.not_mem_nil) (by simp)
    · have e1 := (hok b _ z).1
      have e2 := (hok' b _ (un.frzs b ob _ z)).1
      cases q.symm.trans e1
      exact e2
end
theorem walkG {l : PySem.W.OpenLaw} {n k : Nat} {q : Program} {loose : List Str} {XP : (Str → Option Value) → Heap → Prop} {YP : World → Heap → Prop} {d : DefRec} {K : Params → PySem.W.Frag} {sp : World → Sp} {x : Str}
    (hn : l.most = some n) (few : n ≤ sizeLine) (hd : d.params.defaults = []) (room : Room k callerA) (hY : ∀ (w : World) (h : Heap), YP w h → (K w.params).In h)
    (F : ∀ (w : World) (mg : Str → Option Value) (fa : Addr) (h : Heap), (K w.params).In h → h.Ns mainGlobals mg → mg d.name = some (.ref fa) →
      ∃ fd : FuncData, (∀ (s : Shared) (u : Value), BindsTo s fd ⟨[u], []⟩ [(x, u)]) ∧ ∀ base : Heap, (K w.params).In base → base.Ns mainGlobals mg → FnG l.prog w (K w.params) mg base k fa fd [x] (sp w))
    (hsp : ∀ (w : World) (H : Hp) (a : Addr) (ns : List Int), ns.length ≤ n → Only H → SqL (K w.params) H a (ns.map V.int) → sp w [.ref a] H (fun v _ => v = .bl true) fun _ _ _ => False) :
    PySem.W.WalkO q loose XP YP l.row.toRowW d [] (fun f vs => PySem.call f vs) := by
  refine Att.attach_call hn hd ?_
  intro w _ t mg mb fa _ _ _ _ a vs ns G Y _ _ _ named at_ its many gens
  obtain ⟨fd, bd, FF⟩ := F w mg fa _ (hY w _ Y) G.T.g named
  exact law_callG (hY w _ Y) G.T.g G.T.b G.T.builtins G.T.nolimit gens at_ its (Nat.le_trans many few) room FF bd fun H only hS => hsp w H a ns many only hS
section
variable {X : Cx}
theorem call_reprD (gd : X.A.guards = some []) (room : X.A.units + 64 < cLine) : CallR X (.builtin "repr") (fun xs H Q => ∃ a d, xs = [.ref a] ∧ Dp X.K H (.ref a) d ∧ d.showable = true ∧ d.hasDict = false ∧ d.depth ≤ 60 ∧ d.shown.length ≤ 100000 ∧ Q (.str d.shown) H) := by
  intro pins s σ H xs us Q I r h
  obtain ⟨a, d, rfl, hd, hs, nd, dp, sz, q⟩ := h
  obtain ⟨u, rfl, ru⟩ := vals1 r
  obtain rfl : u = Value.ref a := ru
  obtain ⟨as, rd⟩ := Dp.reads I d (.ref a) (.ref a) hd rfl
  exact repr_of_reads' rd hs (fun h => by rw [nd] at h; cases h) gd (by omega) (fun b o h => h) (fun h' z tk kept => ⟨.str d.shown, H, I.kept kept, ⟨z, rfl⟩, q⟩) (sz_of sz)
end
section
variable {X : Cx} {CX : CXT} {k : Nat} {f : Addr} {fd : FuncData} {ps : List Str} {sp : Sp} {E : XK} {dvs : List V} {ds : List Value} {x : Str} {p pos : Pos} {e : Expr} {es : List Expr} {t : TA}
theorem run_fnG {pins : List (Addr × Obj)} {σ : L2.St} {H : Hp} {s : Shared} {Q : VK} {us : List Value} {vs : List V} (F : FnG X.prog X.w X.K X.mg X.base k f fd ps sp) (gd : X.A.guards = some []) (hr : Room k X.A) (hb : Binds X.K fd ps ds) (hd : Vals dvs ds) (hx : Passes CX0 X E)
    (I : Inv X pins σ H s) (r : Vals vs us) (h : sp (vs ++ dvs) H Q E) : wpAny (model X.prog X.w) X.A (call (.ref f) us) (EP X pins σ Q) X.xe s := by
  have r2 : Vals (vs ++ dvs) (us ++ ds) := r.append hd
  have hl : (us ++ ds).length = ps.length := by rw [← r2.length]; exact F.len _ _ _ _ h
  refine wpAny_call (codeAny_mono (F.run X.A X.stack s H ⟨us, []⟩ (us ++ ds) (vs ++ dvs) Q E gd hr I.env0 (hb s us I.kIn hl) r2 h) fun r s' hq => ?_)
  cases r with
  | error e => exact hx pins σ H s e s' I hq
  | ok fl =>
    cases fl with
    | ret u => exact I.after hq
    | next => exact False.elim hq
    | brk => exact False.elim hq
    | cont => exact False.elim hq
theorem pe_callG (F : FnG X.prog X.w X.K X.mg X.base k f fd ps sp) (gd : X.A.guards = some []) (hr : Room k X.A) (hg : Gl X x) (hm : X.mg x = some (.ref f)) (hk : PySem.W.keepIn X.K (.ref f) = true) (hb : Binds X.K fd ps ds) (hd : Vals dvs ds) (hx : Passes CX0 X E)
    (ha : PA X (e :: es) t) (hdb : (x == ("__debug__" : Str)) = false := by decide) (he : starEach (e :: es) X.env = (false, eval e X.env) :: starEach es X.env := by rfl) (hpl : (backTo pos (starEach es X.env)).any (·.1) = false := by rfl) :
    PE X (.Call (.Name x p) (e :: es) [] pos) (tCall sp dvs E t) := by
  refine ⟨fun pins s σ H Q I h => ?_⟩
  refine wpAny_Call_Name_kw (ld_glob I hg hm ?_ hdb)
  refine PySem.W.callWith_K (h₀ := X.base) I.ok.mod.kin hk (thn (ha.run pos pins s σ H _ I h) fun us s1 ⟨vs, H1, I1, r, q⟩ => ⟨I1.kIn, ?_⟩) he hpl
  exact run_fnG F gd hr hb hd hx I1 r q
end
section
variable {X : Cx}
def qRepr (K : PySem.W.Frag) : List V → Hp → VK → Prop := fun xs H Q => ∃ a d, xs = [.ref a] ∧ Dp K H (.ref a) d ∧ d.showable = true ∧ d.hasDict = false ∧ d.depth ≤ 60 ∧ d.shown.length ≤ sizeLine ∧ Q (.str d.shown) H
theorem reprK (K : PySem.W.Frag) (gd : X.A.guards = some []) (room : X.A.units + 64 < cLine) (hK : X.K = K := by rfl) : CallR X (.builtin "repr") (qRepr K) := by
  subst hK
  intro pins s σ H xs us Q I r h
  obtain ⟨a, d, rfl, hd, hs, nd, dp, sz, q⟩ := h
  obtain ⟨u, rfl, ru⟩ := vals1 r
  obtain rfl : u = Value.ref a := ru
  obtain ⟨as, rd⟩ := Dp.reads I d (.ref a) (.ref a) hd rfl
  exact repr_of_reads' rd hs (fun h => by rw [nd] at h; cases h) gd (by omega) (fun b o h => h) (fun h' z tk kept => ⟨.str d.shown, H, I.kept kept, ⟨z, rfl⟩, q⟩) sz
end

/-! ### texts, sign by sign -/
abbrev sg (s : Str) : List Nat := s.cps.toList
theorem str_ext {a b : Str} (h : sg a = sg b) : a = b := by
  cases a; cases b
  exact congrArg Str.mk (Array.ext' h)
theorem sg_app (a b : Str) : sg (a ++ b) = sg a ++ sg b := PySem.W.KAf.app_list a b
theorem sg_len (s : Str) : (sg s).length = s.length := Array.length_toList
theorem len_app (a b : Str) : (a ++ b).length = a.length + b.length := by
  rw [← sg_len, sg_app, List.length_append, sg_len, sg_len]
theorem ends0 (s : Str) (c : Nat) : Txt.endswith (s ++ ⟨#[c]⟩) "0" = decide (c = 48) := by
  have h0 : ("0" : Str).length = 1 := by decide +kernel
  rw [PySem.W.KAf.ends_right (by rw [h0]; show 1 ≤ 1; decide)]
  unfold Txt.endswith
  rw [StrLaws.subAt_eq, h0]
  show (decide (0 + 1 ≤ 1) && ([c].take 1 == ("0" : Str).cps.toList)) = _
  rw [show ("0" : Str).cps.toList = [48] by decide +kernel]
  by_cases h : c = 48
  · subst h; decide
  · rw [decide_eq_false h]
    simp [h]
theorem sg_cutTo (s : Str) (k : Nat) : sg (cutS s none (some (k : Int))) = (sg s).take k := by
  show (List.toArray _).toList = _
  rw [show HT.sIx s.length 0 none = 0 from rfl, HT.sIx_nat, List.drop_zero, Nat.sub_zero]
  have hl : s.cps.toList.length = s.length := Array.length_toList
  have hl2 : (sg s).length = s.length := Array.length_toList
  by_cases h : k ≤ s.length
  · rw [Nat.min_eq_left h]
  · rw [Nat.min_eq_right (by omega), List.take_of_length_le (by omega), List.take_of_length_le (by omega)]
theorem sg_cutFrom1 (s : Str) : sg (cutS s (some 1) none) = (sg s).drop 1 := by
  show (List.toArray _).toList = _
  rw [show HT.sIx s.length 0 (some 1) = min 1 s.length from HT.sIx_nat _ _ 1, show HT.sIx s.length s.length none = s.length from rfl]
  have hl : s.cps.toList.length = s.length := Array.length_toList
  have hl2 : (sg s).length = s.length := Array.length_toList
  by_cases h : 1 ≤ s.length
  · rw [Nat.min_eq_left h, List.take_of_length_le (by rw [List.length_drop]; omega)]
  · rw [Nat.min_eq_right (by omega), List.drop_of_length_le (by omega), List.drop_of_length_le (by omega)]
    simp
/-! ### the kinds of texts and numbers -/
def allIn (t s : Str) : Bool := t.cps.toList.all fun c => decide (c ∈ s.cps.toList)
abbrev sFIG : Str := "0123456789"
abbrev sABC : Str := "abcdefghijklmnopqrstuvwxyz"
def figuresOk (t : Str) : Bool := !decide (t = ("" : Str)) && allIn t sFIG
def lettersOk (s : Str) (most : Int) : Bool := decide (1 ≤ (s.length : Int)) && decide ((s.length : Int) ≤ most) && allIn s sABC
def endedOk (t : Str) : Bool := figuresOk t && !Txt.endswith t "0"
def pointsOk (t : Str) : Bool := decide (t = ("" : Str)) || endedOk t
def makerOk (t : Str) : Bool := lettersOk (cutS t none (some 1)) 1 && endedOk (cutS t (some 1) none)
section
variable {P : Program} {w : World} {K : PySem.W.Frag} {mg : Str → Option Value} {base : Heap} {Z : Adr}
def spNum (K : PySem.W.Frag) : Sp := fun vs H Q _ => ∃ x, vs = [x] ∧ KnI K H x ∧ RetV (.bl (isI x && !isB x)) H Q
theorem ok_is_number (T : Txt K mg Z) : FnOk P w K mg base CX0 1 Z.a_is_number Z.d_is_number ["thing"] (spNum K) := by
  refine T.F_is_number.ok sc_is_number (fun vs H Q E h => ?_) (fun cdv A outer s H vs Q E hr h => ?_)
  · obtain ⟨x, rfl, _⟩ := h; rfl
  · obtain ⟨x, rfl, ⟨t, ht, hb, hi'⟩, k⟩ := h
    refine ⟨_, (pss_one (ps_ret (pe_and (pe_callB (isiK K) (by rfl) T.n_isinstance (by decide +kernel) (pa_cons (pv 0) (pa_cons (pe_bltn (v := .ty "int") (by rfl) T.n_int (by decide +kernel) rfl) pa_nil))) (pe_one (pe_not (pe_callB (isiK K) (by rfl) T.n_isinstance (by decide +kernel) (pa_cons (pv 0) (pa_cons (pe_bltn (v := .ty "bool") (by rfl) T.n_bool (by decide +kernel) rfl) pa_nil)))))))), ?_⟩
    exact s_ret (ev_andV (ev_isi (ev_var rfl) ev_c (.ty _) (fun _ e => tyx_ex ht e) hi') fun _ => ev_notV (ev_isi (ev_var rfl) ev_c (.ty _) (fun _ e => tyx_ex ht e) hb)) k
theorem num_int {x : V} (h : (isI x && !isB x) = true) : ∃ i, x = .int i := by
  cases x <;> first | exact ⟨_, rfl⟩ | exact Bool.noConfusion h
theorem sp_num {x : V} {H : Hp} (hx : KnI K H x) : SpV (spNum K) [x] H (.bl (isI x && !isB x)) := fun H1 e Q q E => ⟨x, rfl, kni_ex hx e, q⟩
theorem rv_isN {x : V} {H : Hp} : RV (fun x y H Q => y = .non ∧ Q (.bl (decide (x = .non))) H) x .non H (.bl (decide (x = .non))) := fun H1 e Q q => ⟨rfl, q H1 (Ex.refl _)⟩
def spWhole (K : PySem.W.Frag) : Sp := fun vs H Q _ => ∃ x lo hi, vs = [x, .int lo, oi hi] ∧ KnI K H x ∧ RetV (.bl (whole x lo hi)) H Q
theorem ok_is_whole (T : Txt K mg Z) : FnOk P w K mg base CX0 2 Z.a_is_whole Z.d_is_whole ["thing", "low", "high"] (spWhole K) := by
  refine T.F_is_whole.ok sc_is_whole (fun vs H Q E h => ?_) (fun cdv A outer s H vs Q E hr h => ?_)
  · obtain ⟨x, lo, hi, rfl, _⟩ := h; rfl
  · obtain ⟨x, lo, hi, rfl, hx, k⟩ := h
    refine ⟨_, (pss_one (ps_ret (pe_and (pe_call (ok_is_number T) (hr.mono (by decide)) rfl T.g_is_number T.F_is_number.kp T.b_is_number .nil pass0 (pa_cons (pv 0) pa_nil)) (pe_and (pe_cmpR op_le (pv 1) (pv 0) (nomark _)) (pe_one (pe_or (pe_cmpR op_isNq (pv 2) pe_non (nomark _)) (pe_one (pe_cmpR op_le (pv 0) (pv 2) (nomark _))))))))), ?_⟩
    cases hn : (isI x && !isB x) with
    | false =>
      have : whole x lo hi = false := by cases x <;> first | rfl | cases hn
      rw [this] at k
      exact s_ret (v := .bl false) (ev_is (ev_andV (a := false) (b := true) (ev_is (ev_call (ea_cons (ev_var rfl) ea_nil) (sp_num hx)) (by rw [hn])) (fun z => nomatch z)) rfl) k
    | true =>
      obtain ⟨i, rfl⟩ := num_int hn
      cases hi with
      | none => exact s_ret (v := .bl (whole (.int i) lo none)) (ev_is (ev_andV (a := true) (ev_is (ev_call (ea_cons (ev_var rfl) ea_nil) (sp_num hx)) (by rw [hn])) (fun _ => ev_andV (ev_op (ev_var rfl) (ev_var rfl) rv_I0) fun _ => ev_orV (a := true) (b := true) (ev_op (ev_var rfl) ev_c rv_isN) (fun z => nomatch z))) rfl) k
      | some h => exact s_ret (v := .bl (whole (.int i) lo (some h))) (ev_is (ev_andV (a := true) (ev_is (ev_call (ea_cons (ev_var rfl) ea_nil) (sp_num hx)) (by rw [hn])) (fun _ => ev_andV (ev_op (ev_var rfl) (ev_var rfl) rv_I0) fun _ => ev_orV (a := false) (ev_op (ev_var rfl) ev_c rv_isN) (fun _ => ev_op (ev_var rfl) (ev_var rfl) rv_I0))) rfl) k
theorem sp_whole {x : V} {lo : Int} {hi : Option Int} {H : Hp} (hx : KnI K H x) : SpV (spWhole K) [x, .int lo, oi hi] H (.bl (whole x lo hi)) := fun H1 e Q q E => ⟨x, lo, hi, rfl, kni_ex hx e, q⟩
theorem asc_dig : ∀ c, c < 128 → Unicode.isDigit c = decide (c ∈ sg sFIG) := by decide +kernel
theorem asc_alp : ∀ c, c < 128 → (Unicode.isAlpha c && !(Unicode.isUpper c || Unicode.isTitle c)) = decide (c ∈ sg sABC) := by decide +kernel
theorem asc_low : ∀ c, c < 128 → c ∈ sg sABC → Unicode.isLower c = true := by decide +kernel
theorem asc_abc : ∀ c ∈ sg sABC, c < 128 := by decide +kernel
theorem asc_fig : ∀ c ∈ sg sFIG, c < 128 := by decide +kernel
theorem tx_all {t : Str} {p : Nat → Bool} : t.cps.all p = (sg t).all p := Array.all_toList.symm
theorem tx_any {t : Str} {p : Nat → Bool} : t.cps.any p = (sg t).any p := Array.any_toList.symm
theorem ne_empty {t : Str} : (t = ("" : Str)) ↔ t.length = 0 := by
  constructor
  · intro h; rw [h]; decide +kernel
  · intro h
    refine str_ext ?_
    rw [show sg ("" : Str) = [] by decide +kernel]
    exact List.eq_nil_of_length_eq_zero (by rw [sg_len]; exact h)
theorem fig_eq (t : Str) : (Txt.isascii t && Txt.isdigit t) = figuresOk t := by
  unfold Txt.isascii Txt.isdigit figuresOk allIn
  rw [tx_all, tx_all, Bool.eq_iff_iff]
  simp only [Bool.and_eq_true, List.all_eq_true, decide_eq_true_eq, Bool.not_eq_true', decide_eq_false_iff_not, ne_empty]
  constructor
  · rintro ⟨h1, h2, h3⟩
    exact ⟨by omega, fun c hc => by have := asc_dig c (h1 c hc); rw [h3 c hc] at this; exact of_decide_eq_true this.symm⟩
  · rintro ⟨h1, h2⟩
    exact ⟨fun c hc => asc_fig c (h2 c hc), by omega, fun c hc => by rw [asc_dig c (asc_fig c (h2 c hc))]; exact decide_eq_true (h2 c hc)⟩
theorem let_eq (t : Str) (most : Int) : (decide ((t.length : Int) ≤ most) && (Txt.isascii t && (Txt.isalpha t && Txt.islower t))) = lettersOk t most := by
  unfold Txt.isascii Txt.isalpha Txt.islower lettersOk allIn
  rw [tx_all, tx_all, tx_any, tx_any, Bool.eq_iff_iff]
  simp only [Bool.and_eq_true, List.all_eq_true, List.any_eq_true, decide_eq_true_eq, Bool.not_eq_true', List.any_eq_false]
  have key : ∀ c, c < 128 → Unicode.isAlpha c = true → (¬ (Unicode.isUpper c || Unicode.isTitle c) = true ↔ c ∈ sg sABC) := fun c h1 h2 => by
    have := asc_alp c h1
    rw [h2, Bool.true_and] at this
    constructor
    · intro h
      rw [Bool.not_eq_true] at h
      rw [h] at this
      exact of_decide_eq_true this.symm
    · intro h h'
      rw [h', decide_eq_true h] at this
      cases this
  have alp : ∀ c ∈ sg sABC, Unicode.isAlpha c = true := fun c hc => by
    have := asc_alp c (asc_abc c hc)
    rw [decide_eq_true hc, Bool.and_eq_true] at this
    exact this.1
  constructor
  · rintro ⟨h0, h1, ⟨h2, h3⟩, _, h5⟩
    exact ⟨⟨by omega, h0⟩, fun c hc => (key c (h1 c hc) (h3 c hc)).mp (h5 c hc)⟩
  · rintro ⟨⟨h1, h0⟩, h2⟩
    have hne : 0 < (sg t).length := by rw [sg_len]; omega
    have m0 := List.getElem_mem hne
    exact ⟨h0, fun c hc => asc_abc c (h2 c hc), ⟨by omega, fun c hc => alp c (h2 c hc)⟩, ⟨_, m0, asc_low _ (asc_abc _ (h2 _ m0)) (h2 _ m0)⟩, fun c hc => (key c (asc_abc c (h2 c hc)) (alp c (h2 c hc))).mpr (h2 c hc)⟩
theorem ev_m0 {σ : L2.St} {H : Hp} {ta : TE} {r : V → List V → Hp → VK → Prop} {s : Str} {z : V} (ha : Ev ta σ H (.str s)) (hr : ∀ H1, Ex H H1 → ∀ Q : VK, (∀ H2, Ex H1 H2 → Q z H2) → r (.str s) [] H1 Q) : Ev (tM0 r ta) σ H z := fun H1 e Q q =>
  ha H1 e _ fun H2 e2 => ⟨⟨s, rfl⟩, hr H2 (e.trans e2) Q fun H3 e3 => q H3 (e2.trans e3)⟩
def qTxt (g : Str → Bool) : V → List V → Hp → VK → Prop := fun x xs H Q => ∃ a, x = .str a ∧ xs = [] ∧ True ∧ Q (.bl (g a)) H
theorem mt_isasciiQ {X : Cx} : MtR X "str.isascii" (qTxt Txt.isascii) := mt_isascii
theorem mt_isdigitQ {X : Cx} : MtR X "str.isdigit" (qTxt Txt.isdigit) := mt_isdigit
theorem mt_isalphaQ {X : Cx} : MtR X "str.isalpha" (qTxt Txt.isalpha) := mt_isalpha
theorem mt_islowerQ {X : Cx} : MtR X "str.islower" (qTxt Txt.islower) := mt_islower
theorem ev_txt {σ : L2.St} {H : Hp} {ta : TE} {g : Str → Bool} {s : Str} (ha : Ev ta σ H (.str s)) : Ev (tM0 (qTxt g) ta) σ H (.bl (g s)) :=
  ev_m0 ha fun H1 e Q q => ⟨s, rfl, rfl, trivial, q H1 (Ex.refl _)⟩
def spFig : Sp := fun vs H Q _ => ∃ t, vs = [.str t] ∧ t.length ≤ 90000 ∧ RetV (.bl (figuresOk t)) H Q
theorem ok_is_figures (T : Txt K mg Z) : FnOk P w K mg base CX0 1 Z.a_is_figures Z.d_is_figures ["text"] spFig := by
  refine T.F_is_figures.ok sc_is_figures (fun vs H Q E h => ?_) (fun cdv A outer s H vs Q E hr h => ?_)
  · obtain ⟨t, rfl, _⟩ := h; rfl
  · obtain ⟨t, rfl, hz, k⟩ := h
    refine ⟨_, (pss_one (ps_ret (pe_and (pe_m0 PySem.F.slot_str_isascii PySem.F.type_str_isascii mt_isasciiQ (pv 0)) (pe_one (pe_m0 PySem.F.slot_str_isdigit PySem.F.type_str_isdigit mt_isdigitQ (pv 0)))))), ?_⟩
    exact s_ret (ev_is (ev_andV (ev_txt (g := Txt.isascii) (ev_var rfl)) (fun _ => ev_txt (g := Txt.isdigit) (ev_var rfl))) (by rw [fig_eq])) k
theorem sp_fig {t : Str} {H : Hp} (hz : t.length ≤ 90000) : SpV spFig [.str t] H (.bl (figuresOk t)) := fun H1 e Q q E => ⟨t, rfl, hz, q⟩
/-- what holds of texts alone -/
def onS (f : Str → Bool) : V → Bool | .str t => f t | _ => false
def SzV (x : V) : Prop := ∀ t, x = .str t → t.length ≤ 90000
theorem onS_no {f : Str → Bool} {x : V} (h : isS x = false) : onS f x = false := by cases x <;> first | rfl | cases h
theorem isS_str {x : V} (h : isS x = true) : ∃ t, x = .str t := by cases x <;> first | exact ⟨_, rfl⟩ | cases h
theorem sz_str {t : Str} (hz : t.length ≤ 90000) : SzV (.str t) := fun u e => by cases e; exact hz
/-- isinstance(x, str) and what holds of texts -/
theorem ev_onS {σ : L2.St} {H : Hp} {ta tb tc : TE} {f : Str → Bool} {x : V} (ha : Ev ta σ H x) (hb : Ev tb σ H (.ty "str")) (hx : KnS K H x) (hc : ∀ t, x = .str t → Ev tc σ H (.bl (f t))) : Ev (tAndV (tCB (rIsi K) (tCons ta (tCons tb tNil))) tc) σ H (.bl (onS f x)) := by
  obtain ⟨t, h1, h2⟩ := hx
  cases h : isS x with
  | false => exact ev_is (ev_andV (a := false) (b := true) (ev_isi ha hb (.ty _) (fun _ e => tyx_ex h1 e) (by rw [h2, h])) (fun z => nomatch z)) (by rw [onS_no h]; rfl)
  | true =>
    obtain ⟨u, rfl⟩ := isS_str h
    exact ev_is (ev_andV (a := true) (ev_isi ha hb (.ty _) (fun _ e => tyx_ex h1 e) h2) (fun _ => hc u rfl)) rfl
def spLetters (K : PySem.W.Frag) : Sp := fun vs H Q _ => ∃ x most, vs = [x, .int most] ∧ KnS K H x ∧ SzV x ∧ RetV (.bl (onS (fun t => lettersOk t most) x)) H Q
theorem ok_is_letters (T : Txt K mg Z) : FnOk P w K mg base CX0 1 Z.a_is_letters Z.d_is_letters ["thing", "most"] (spLetters K) := by
  refine T.F_is_letters.ok sc_is_letters (fun vs H Q E h => ?_) (fun cdv A outer s H vs Q E hr h => ?_)
  · obtain ⟨t, most, rfl, _⟩ := h; rfl
  · obtain ⟨x, most, rfl, hx, hz, k⟩ := h
    refine ⟨_, (pss_one (ps_ret (pe_and (pe_callB (isiK K) (by rfl) T.n_isinstance (by decide +kernel) (pa_cons (pv 0) (pa_cons (pe_bltn (v := .ty "str") (by rfl) T.n_str (by decide +kernel) rfl) pa_nil))) (pe_and (pe_cmpR op_le (pe_callB (call_lenS) (by rfl) T.n_len (by decide +kernel) (pa_cons (pv 0) pa_nil)) (pv 1) (nomark _)) (pe_and (pe_m0 PySem.F.slot_str_isascii PySem.F.type_str_isascii mt_isasciiQ (pv 0)) (pe_and (pe_m0 PySem.F.slot_str_isalpha PySem.F.type_str_isalpha mt_isalphaQ (pv 0)) (pe_one (pe_m0 PySem.F.slot_str_islower PySem.F.type_str_islower mt_islowerQ (pv 0))))))))), ?_⟩
    refine s_ret (ev_onS (f := fun t => lettersOk t most) (ev_var rfl) ev_c hx fun t e => ?_) k
    subst e
    have := hz _ rfl
    exact ev_is (ev_andV (ev_op (ev_lenS (ev_var rfl) (by omega)) (ev_var rfl) rv_I0) (fun _ => ev_andV (ev_txt (g := Txt.isascii) (ev_var rfl)) (fun _ => ev_andV (ev_txt (g := Txt.isalpha) (ev_var rfl)) (fun _ => ev_txt (g := Txt.islower) (ev_var rfl))))) (by rw [let_eq])
theorem sp_lettersV {x : V} {most : Int} {H : Hp} (hx : KnS K H x) (hz : SzV x) : SpV (spLetters K) [x, .int most] H (.bl (onS (fun t => lettersOk t most) x)) := fun H1 e Q q E => ⟨x, most, rfl, kns_ex hx e, hz, q⟩
theorem sp_letters {t : Str} {most : Int} {H : Hp} (hz : t.length ≤ 90000) : SpV (spLetters K) [.str t, .int most] H (.bl (lettersOk t most)) := sp_lettersV kns_str (sz_str hz)
theorem cutS_len (z : Str) (lo hi : Option Int) : (cutS z lo hi).length ≤ z.length := by
  show (List.toArray _).size ≤ z.cps.size
  rw [List.size_toArray, List.length_take, List.length_drop, Array.length_toList]
  omega
theorem fig_ne {t : Str} (h : figuresOk t = true) : 1 ≤ t.length := by
  unfold figuresOk at h
  rw [Bool.and_eq_true, Bool.not_eq_true', decide_eq_false_iff_not, ne_empty] at h
  omega
theorem last_of {t : Str} (h : 1 ≤ t.length) : ∃ c, atI (sg t) (-1) = some c ∧ (decide ((⟨#[c]⟩ : Str) = "0")) = Txt.endswith t "0" := by
  have hne : sg t ≠ [] := fun e => by rw [← sg_len, e] at h; simp at h
  have e := List.dropLast_concat_getLast hne
  refine ⟨(sg t).getLast hne, ?_, ?_⟩
  · unfold atI ixN
    rw [if_neg (by omega), if_pos (by rw [sg_len]; omega)]
    show (sg t)[_]? = _
    rw [List.getElem?_eq_getElem (by rw [sg_len]; omega), List.getLast_eq_getElem]
    congr 2
    rw [sg_len]; omega
  · have h2 : t = (⟨(sg t).dropLast.toArray⟩ : Str) ++ ⟨#[(sg t).getLast hne]⟩ := str_ext (by rw [sg_app]; exact e.symm)
    generalize (sg t).getLast hne = c at h2
    rw [h2, ends0]
    by_cases h : c = 48
    · subst h; decide +kernel
    · rw [decide_eq_false h, decide_eq_false]
      intro z
      have := congrArg sg z
      rw [show sg ("0" : Str) = [48] by decide +kernel] at this
      exact h (List.cons.inj this).1
theorem ev_ixS {σ : L2.St} {H : Hp} {ta tb : TE} {t : Str} {i : Int} {c : Nat} (ha : Ev ta σ H (.str t)) (hb : Ev tb σ H (.int i)) (hz : t.length ≤ 100000) (hc : atI (sg t) i = some c) : Ev (tOp rIxS ta tb) σ H (.str ⟨#[c]⟩) :=
  ev_op ha hb fun H1 e Q q => ⟨t, i, c, rfl, rfl, sz_of hz, hc, q H1 (Ex.refl _)⟩
def spEnded : Sp := fun vs H Q _ => ∃ t, vs = [.str t] ∧ t.length ≤ 90000 ∧ RetV (.bl (endedOk t)) H Q
theorem ok_is_ended (T : Txt K mg Z) : FnOk P w K mg base CX0 2 Z.a_is_ended Z.d_is_ended ["text"] spEnded := by
  refine T.F_is_ended.ok sc_is_ended (fun vs H Q E h => ?_) (fun cdv A outer s H vs Q E hr h => ?_)
  · obtain ⟨t, rfl, _⟩ := h; rfl
  · obtain ⟨t, rfl, hz, k⟩ := h
    refine ⟨_, (pss_one (ps_ret (pe_and (pe_call (ok_is_figures T) (hr.mono (by decide)) rfl T.g_is_figures T.F_is_figures.kp T.b_is_figures .nil pass0 (pa_cons (pv 0) pa_nil)) (pe_one (pe_cmpR op_ne (pe_ix ix_str (pv 0) (pe_un un_neg pe_int) (fun _ _ => rfl)) pe_str (nomark _)))))), ?_⟩
    cases hf : figuresOk t with
    | false =>
      have : endedOk t = false := by unfold endedOk; rw [hf]; rfl
      rw [this] at k
      exact s_ret (ev_is (ev_andV (a := false) (b := true) (ev_is (ev_call (ea_cons (ev_var rfl) ea_nil) (sp_fig hz)) (by rw [hf])) (fun z => nomatch z)) rfl) k
    | true =>
      obtain ⟨c, h1, h2⟩ := last_of (fig_ne hf)
      have : endedOk t = (true && !decide ((⟨#[c]⟩ : Str) = "0")) := by unfold endedOk; rw [hf, h2]
      rw [this] at k
      exact s_ret (ev_andV (a := true) (ev_is (ev_call (ea_cons (ev_var rfl) ea_nil) (sp_fig hz)) (by rw [hf])) fun _ => ev_op (ev_ixS (i := -1) (ev_var rfl) (ev_un (x := .int 1) ev_c (fun H1 e Q q => ⟨_, rfl, q H1 (Ex.refl _)⟩)) (by omega) h1) ev_c rv_neS) k
theorem sp_ended {t : Str} {H : Hp} (hz : t.length ≤ 90000) : SpV spEnded [.str t] H (.bl (endedOk t)) := fun H1 e Q q E => ⟨t, rfl, hz, q⟩
def spPoints (K : PySem.W.Frag) : Sp := fun vs H Q _ => ∃ x, vs = [x] ∧ KnS K H x ∧ SzV x ∧ RetV (.bl (onS pointsOk x)) H Q
theorem ok_is_points (T : Txt K mg Z) : FnOk P w K mg base CX0 3 Z.a_is_points Z.d_is_points ["thing"] (spPoints K) := by
  refine T.F_is_points.ok sc_is_points (fun vs H Q E h => ?_) (fun cdv A outer s H vs Q E hr h => ?_)
  · obtain ⟨t, rfl, _⟩ := h; rfl
  · obtain ⟨x, rfl, hx, hz, k⟩ := h
    refine ⟨_, (pss_one (ps_ret (pe_and (pe_callB (isiK K) (by rfl) T.n_isinstance (by decide +kernel) (pa_cons (pv 0) (pa_cons (pe_bltn (v := .ty "str") (by rfl) T.n_str (by decide +kernel) rfl) pa_nil))) (pe_one (pe_or (pe_cmpR op_eq (pv 0) pe_str (nomark _)) (pe_one (pe_call (ok_is_ended T) (hr.mono (by decide)) rfl T.g_is_ended T.F_is_ended.kp T.b_is_ended .nil pass0 (pa_cons (pv 0) pa_nil)))))))), ?_⟩
    refine s_ret (ev_onS (f := pointsOk) (ev_var rfl) ev_c hx fun t e => ?_) k
    subst e
    exact ev_orV (ev_op (ev_var rfl) ev_c rv_eqS) (fun _ => ev_call (ea_cons (ev_var rfl) ea_nil) (sp_ended (hz _ rfl)))
theorem sp_pointsV {x : V} {H : Hp} (hx : KnS K H x) (hz : SzV x) : SpV (spPoints K) [x] H (.bl (onS pointsOk x)) := fun H1 e Q q E => ⟨x, rfl, kns_ex hx e, hz, q⟩
theorem sp_points {t : Str} {H : Hp} (hz : t.length ≤ 90000) : SpV (spPoints K) [.str t] H (.bl (pointsOk t)) := sp_pointsV kns_str (sz_str hz)
theorem maker_eq1 {t : Str} (h : t.length ≤ 1) : makerOk t = false := by
  have e : (cutS t (some 1) none) = ("" : Str) := ne_empty.mpr (by rw [← sg_len, sg_cutFrom1, List.length_drop, sg_len]; omega)
  unfold makerOk
  rw [e, show endedOk ("" : Str) = false by decide +kernel, Bool.and_false]
theorem maker_eq2 {t : Str} {c : Nat} (h : (sg t)[0]? = some c) : makerOk t = (decide (c ∈ sg sABC) && endedOk (cutS t (some 1) none)) := by
  have e : sg (cutS t none (some 1)) = [c] := by
    rw [show (1 : Int) = ((1 : Nat) : Int) from rfl, sg_cutTo]
    cases hs : sg t with
    | nil => rw [hs] at h; cases h
    | cons a l => rw [hs] at h; cases h; rfl
  have e2 : cutS t none (some 1) = (⟨#[c]⟩ : Str) := str_ext e
  unfold makerOk
  congr 1
  rw [e2]
  unfold lettersOk allIn
  show (decide ((1 : Int) ≤ 1) && decide ((1 : Int) ≤ 1) && ([c].all fun c => decide (c ∈ sABC.cps.toList))) = _
  simp
def spMaker (K : PySem.W.Frag) : Sp := fun vs H Q _ => ∃ x, vs = [x] ∧ KnS K H x ∧ SzV x ∧ RetV (.bl (onS makerOk x)) H Q
theorem ok_is_maker (T : Txt K mg Z) : FnOk P w K mg base CX0 3 Z.a_is_maker Z.d_is_maker ["thing"] (spMaker K) := by
  refine T.F_is_maker.ok sc_is_maker (fun vs H Q E h => ?_) (fun cdv A outer s H vs Q E hr h => ?_)
  · obtain ⟨t, rfl, _⟩ := h; rfl
  · obtain ⟨x, rfl, hx, hz, k⟩ := h
    refine ⟨_, (pss_one (ps_ret (pe_and (pe_callB (isiK K) (by rfl) T.n_isinstance (by decide +kernel) (pa_cons (pv 0) (pa_cons (pe_bltn (v := .ty "str") (by rfl) T.n_str (by decide +kernel) rfl) pa_nil))) (pe_and (pe_cmpR op_gt (pe_callB (call_lenS) (by rfl) T.n_len (by decide +kernel) (pa_cons (pv 0) pa_nil)) pe_int (nomark _)) (pe_and (pe_cmpR op_inq (pe_ix ix_str (pv 0) pe_int (fun _ _ => rfl)) (pe_gs rfl T.c_SMALL) (by rfl)) (pe_one (pe_call (ok_is_ended T) (hr.mono (by decide)) rfl T.g_is_ended T.F_is_ended.kp T.b_is_ended .nil pass0 (pa_cons (pe_slice sl_str (pv 0) (po_some pe_int) po_none) pa_nil)))))))), ?_⟩
    refine s_ret (ev_onS (f := makerOk) (ev_var rfl) ev_c hx fun t e => ?_) k
    subst e
    have hz := hz _ rfl
    have l2 := cutS_len t (some 1) none
    by_cases hl : t.length ≤ 1
    · exact ev_is (ev_andV (a := false) (b := true) (ev_is (ev_op (ev_lenS (ev_var rfl) (by omega)) ev_c rv_I0) (by rw [decide_eq_false (by omega)])) (fun z => nomatch z)) (by rw [maker_eq1 hl]; rfl)
    · have hlt : 0 < (sg t).length := by rw [sg_len]; omega
      have h0 := List.getElem?_eq_getElem hlt
      have h1 : atI (sg t) 0 = some (sg t)[0] := by unfold atI ixN; rw [if_pos (Int.le_refl 0), if_pos (by omega)]; exact h0
      rw [maker_eq2 h0]
      refine ev_is (ev_andV (a := true) (ev_is (ev_op (ev_lenS (ev_var rfl) (by omega)) ev_c rv_I0) (by rw [decide_eq_true (by omega)])) (fun _ => ev_andV (ev_op (ev_ixS (ev_var rfl) ev_c (by omega) h1) ev_c (z := .bl (decide ((sg t)[0] ∈ sg sABC))) (fun H1 e Q q => ⟨_, _, rfl, rfl, q H1 (Ex.refl _)⟩)) (fun _ => ev_call (ea_cons (ev_slS (ev_var rfl) (eo_some ev_c) eo_none (by omega)) ea_nil) (sp_ended (by omega))))) rfl
theorem sp_makerV {x : V} {H : Hp} (hx : KnS K H x) (hz : SzV x) : SpV (spMaker K) [x] H (.bl (onS makerOk x)) := fun H1 e Q q E => ⟨x, rfl, kns_ex hx e, hz, q⟩
theorem sp_maker {t : Str} {H : Hp} (hz : t.length ≤ 90000) : SpV (spMaker K) [.str t] H (.bl (makerOk t)) := sp_makerV kns_str (sz_str hz)
end

/-! ### marks -/
structure MK where
  lt : Str
  num : Int
  pts : Str
  mks : List Str
  yr : Option Int
  cp : Option Int
structure MK.Ok (m : MK) : Prop where
  l : lettersOk m.lt 3 = true
  n : 1 ≤ m.num ∧ m.num ≤ 9999
  p : pointsOk m.pts = true
  pz : m.pts.length ≤ 1000
  k : m.mks.length ≤ 3
  ks : ∀ s ∈ m.mks, makerOk s = true ∧ s.length ≤ 1000
  y : ∀ y, m.yr = some y → 1000 ≤ y ∧ y ≤ 2999
  c : ∀ c, m.cp = some c → 2 ≤ c ∧ c.natAbs.log2 < 1920
def MK.head (m : MK) : Str := (if m.pts = ("" : Str) then [m.lt, (toString m.num : String)] else [m.lt, (toString m.num : String), ".", m.pts]).foldl (· ++ ·) Str.empty
def MK.words (m : MK) : List Str := (m.head :: m.mks) ++ (match m.yr with | none => [] | some y => [(toString y : String)]) ++ (match m.cp with | none => [] | some c => [([("c." : Str), ((toString c : String) : Str)]).foldl (· ++ ·) Str.empty])
def MK.text (m : MK) : Str := Txt.join " " m.words
def MK.tup (m : MK) (ma : Addr) : List V := [.str m.lt, .int m.num, .str m.pts, .ref ma, oi m.yr, oi m.cp]
theorem log2_small {a : Int} (h : 0 ≤ a ∧ a ≤ 9999) : a.natAbs.log2 < 1920 := by
  have h1 : a.natAbs < 2 ^ 14 := by omega
  exact Nat.lt_of_lt_of_le (PySem.Flt.log2_lt_of (by decide) h1) (by decide)
section
variable {P : Program} {w : World} {K : PySem.W.Frag} {mg : Str → Option Value} {base : Heap} {Z : Adr}
theorem letters_len {s : Str} {n : Int} (h : lettersOk s n = true) : (s.length : Int) ≤ n := by
  unfold lettersOk at h
  rw [Bool.and_eq_true, Bool.and_eq_true] at h
  exact of_decide_eq_true h.1.2
theorem fold_len (ss : List Str) : ∀ acc : Str, (ss.foldl (· ++ ·) acc).length = acc.length + (ss.map (·.length)).sum := by
  induction ss with
  | nil => intro acc; show acc.length = acc.length + 0; rw [Nat.add_zero]
  | cons s ss ih =>
    intro acc
    rw [List.foldl_cons, ih, List.map_cons, List.sum_cons]
    have hl : (acc ++ s).length = acc.length + s.length := by
      show (acc.cps ++ s.cps).size = _
      rw [Array.size_append]
      rfl
    rw [hl, Nat.add_assoc]
theorem head_len {m : MK} (ok : m.Ok) : m.head.length ≤ 5000 := by
  have h1 := letters_len ok.l
  have h2 := int_len (log2_small ⟨by have := ok.n; omega, ok.n.2⟩ : m.num.natAbs.log2 < 1920)
  have h3 := ok.pz
  have h0 : (Str.empty).length = 0 := rfl
  have hp : (("." : Str)).length = 1 := by decide +kernel
  unfold MK.head
  rw [fold_len, h0]
  by_cases e : m.pts = ("" : Str)
  · rw [if_pos e]
    simp only [List.map_cons, List.map_nil, List.sum_cons, List.sum_nil]
    omega
  · rw [if_neg e]
    simp only [List.map_cons, List.map_nil, List.sum_cons, List.sum_nil, hp]
    omega
def spTextOf (K : PySem.W.Frag) : Sp := fun vs H Q _ => ∃ (pa ma : Addr) (m : MK), vs = [.ref pa] ∧ SqT K H pa (m.tup ma) ∧ SqT K H ma (m.mks.map V.str) ∧ m.Ok ∧ RetV (.str m.text) H Q
theorem ok_text_of (T : Txt K mg Z) : FnOk P w K mg base CX0 1 Z.a_text_of Z.d_text_of ["parts"] (spTextOf K) := by
  refine T.F_text_of.ok sc_text_of (fun vs H Q E h => ?_) (fun cdv A outer s H vs Q E hr h => ?_)
  · obtain ⟨_, _, _, rfl, _⟩ := h; rfl
  · obtain ⟨pa, ma, m, rfl, hpa, hma, ok, k⟩ := h
    refine ⟨_, (pss_cons (ps_asg (pv 0) (pg_tup rfl (pgs_cons (pg_name (i := 1) sc_text_of.nd rfl (.inl rfl)) (pgs_cons (pg_name (i := 2) sc_text_of.nd rfl (.inl rfl)) (pgs_cons (pg_name (i := 3) sc_text_of.nd rfl (.inl rfl)) (pgs_cons (pg_name (i := 4) sc_text_of.nd rfl (.inl rfl)) (pgs_cons (pg_name (i := 5) sc_text_of.nd rfl (.inl rfl)) (pgs_cons (pg_name (i := 6) sc_text_of.nd rfl (.inl rfl)) pgs_nil))))))))
      (pss_cons (ps_set (i := 7) sc_text_of.nd rfl (.inl rfl) (pe_ifExp (pt_truthq (pv 3) (by intro _; rfl)) (pe_joinedq (.cons (pe_fmt (pv 1)) (.cons (pe_fmt (pv 2)) (.cons pe_str (.cons (pe_fmt (pv 3)) .nil))))) (pe_joinedq (.cons (pe_fmt (pv 1)) (.cons (pe_fmt (pv 2)) .nil)))))
      (pss_cons (ps_set (i := 8) sc_text_of.nd rfl (.inl rfl) (peM (pe_lst (pa_cons (pv 7) (starK K (pv 4) pa_nil)))))
      (pss_cons (ps_if (pt_cmpR op_notNq (pv 5) pe_non (nomark _)) (pss_one (ps_expr (bmK K PySem.F.plainAttrs_list PySem.F.slot_list_append PySem.F.type_list_append mt_append (pv 8) (pa_cons (pe_callTy (call_strI) (by rfl) T.n_str (by decide +kernel) (pa_cons (pv 5) pa_nil)) pa_nil)))) pss_nil)
      (pss_cons (ps_if (pt_cmpR op_notNq (pv 6) pe_non (nomark _)) (pss_one (ps_expr (bmK K PySem.F.plainAttrs_list PySem.F.slot_list_append PySem.F.type_list_append mt_append (pv 8) (pa_cons (pe_joinedq (.cons pe_str (.cons (pe_fmt (pv 6)) .nil))) pa_nil)))) pss_nil)
      (pss_one (ps_ret (joinK K pe_str (pv 8))))))))), ?_⟩
    refine ⟨_, rfl, pa, _, rfl, hpa, rfl, _, _, rfl, _, _, rfl, _, _, rfl, _, _, rfl, _, _, rfl, _, _, rfl, rfl, ?_⟩
    have h1 := letters_len ok.l
    have hn := (log2_small ⟨by have := ok.n; omega, ok.n.2⟩ : m.num.natAbs.log2 < 1920)
    have h2 := int_len hn
    have h3 := ok.pz
    have hp : (("." : Str)).length = 1 := by decide +kernel
    have hcl : (("c." : Str)).length = 2 := by decide +kernel
    have hhl := head_len ok
    have e0 : m.pts = ("" : Str) ↔ ((m.pts.length : Int) != 0) = false := by
      constructor
      · intro e; rw [e]; decide +kernel
      · intro e
        have hz : m.pts.cps.size = 0 := by
          have : (m.pts.length : Int) = 0 := by simpa using e
          have h' : (m.pts.cps.size : Int) = 0 := this
          omega
        have hq : m.pts.cps = #[] := Array.eq_empty_of_size_eq_zero hz
        have : m.pts = ⟨#[]⟩ := by cases hm : m.pts with | mk c => rw [hm] at hq; exact congrArg Str.mk hq
        rw [this]
        decide +kernel
    dsimp only
    refine q_asg (v := .str m.head) ?_ fun H1 e1 => ?_
    refine ev_if (b := ((m.pts.length : Int) != 0)) ?_ (fun hb => ?_) (fun hb => ?_)
    · refine et_truth (K := K) (x := .str m.pts) ?_ ?_
      · exact ev_var rfl
      · exact fun H1 _ => ⟨sz_of (by omega), rfl⟩
    · have hne : ¬ m.pts = ("" : Str) := fun e => by rw [e0.mp e] at hb; cases hb
      have hh : m.head = ([m.lt, (toString m.num : String), ".", m.pts] : List Str).foldl (· ++ ·) Str.empty := by unfold MK.head; rw [if_neg hne]
      rw [hh]
      refine ev_joined (.cons (ev_fmtS (ev_var rfl) (by omega)) (.cons (ev_fmtI (ev_var rfl) hn) (.cons ev_c (.cons (ev_fmtS (ev_var rfl) (by omega)) .nil)))) ?_
      simp only [List.map_cons, List.map_nil, List.sum_cons, List.sum_nil, hp]
      omega
    · have he : m.pts = ("" : Str) := e0.mpr hb
      have hh : m.head = ([m.lt, (toString m.num : String)] : List Str).foldl (· ++ ·) Str.empty := by unfold MK.head; rw [if_pos he]
      rw [hh]
      refine ev_joined (.cons (ev_fmtS (ev_var rfl) (by omega)) (.cons (ev_fmtI (ev_var rfl) hn) .nil)) ?_
      simp only [List.map_cons, List.map_nil, List.sum_cons, List.sum_nil]
      omega
    · have hk := ok.k
      refine q_asgL (xs := .str m.head :: (m.mks.map V.str ++ [])) (el_lst (ea_cons (ev_var rfl) (ea_star (ev_var rfl) (ex_t e1 hma) ea_nil)) (by simp only [List.length_cons, List.length_append, List.length_map, List.length_nil]; omega)) fun p H2 hp2 e2 h2 => ?_
      rw [List.append_nil] at h2
      -- the year
      have hwl : ∀ s ∈ (m.head :: m.mks), s.length ≤ 5000 := fun s hs => by
        rcases List.mem_cons.mp hs with rfl | hs
        · exact hhl
        · have := (ok.ks s hs).2; omega
      have key : ∀ (ws : List Str) (H3 : Hp) (D : Ends) (σ : L2.St), D.rt = Q → σ[8]? = some (some (.ref p)) → Ex H H3 → H3 p = some (.lst (ws.map V.str)) → ws.length ≤ 6 → (∀ s ∈ ws, s.length ≤ 5000) → ws = m.words → tRet (tM1 (rJoin K) (tC (.str " ")) (tVar 8)) D σ H3 := by
        intro ws H3 D σ hD hσ e3 h3 hl hs hw
        have hsum : (ws.map (·.length)).sum ≤ 6 * 5000 := by
          have : ∀ (l : List Str), (∀ s ∈ l, s.length ≤ 5000) → (l.map (·.length)).sum ≤ l.length * 5000 := fun l => by
            induction l with
            | nil => intro _; simp
            | cons a l ih =>
              intro h
              have h1 := h a List.mem_cons_self
              have h2 := ih fun s hs => h s (List.mem_cons_of_mem _ hs)
              rw [List.map_cons, List.sum_cons, List.length_cons]
              omega
          have q := this ws hs
          omega
        have hb : ((" " : Str)).length = 1 := by decide +kernel
        refine ⟨⟨_, rfl⟩, _, hσ, _, p, ws, rfl, rfl, .inl (sq_of h3), ?_, ?_⟩
        · rw [hb]; omega
        · show D.rt (.str (Txt.join " " ws)) H3
          rw [hD, hw]
          exact k H3 e3
      have step2 : ∀ (ws : List Str) (H3 : Hp), Ex H H3 → H3 p = some (.lst (ws.map V.str)) → ws.length ≤ 5 → (∀ s ∈ ws, s.length ≤ 5000) → ws ++ (match m.cp with | none => [] | some c => [([("c." : Str), ((toString c : String) : Str)]).foldl (· ++ ·) Str.empty]) = m.words →
          ∀ {tz : TS}, (∀ (ws : List Str) (H3 : Hp), Ex H H3 → H3 p = some (.lst (ws.map V.str)) → ws.length ≤ 6 → (∀ s ∈ ws, s.length ≤ 5000) → ws = m.words → tz { nx := fun _ H' => Q .non H', rt := Q } [some (.ref pa), some (.str m.lt), some (.int m.num), some (.str m.pts), some (.ref ma), some (oi m.yr), some (oi m.cp), some (.str m.head), some (.ref p)] H3) →
          tSeq (tIfS (tTest (tOp (fun x y H Q => y = .non ∧ Q (.bl (!decide (x = .non))) H) (tVar 6) (tC .non))) (tDrop (tBM K "list" rAppend (tVar 8) (tCons (fun σ H Q => tJs [tC (.str "c."), tFmt (tVar 6)] Str.empty σ H fun out H1 => Q (.str out) H1) tNil))) tNext) tz
            { nx := fun _ H' => Q .non H', rt := Q } [some (.ref pa), some (.str m.lt), some (.int m.num), some (.str m.pts), some (.ref ma), some (oi m.yr), some (oi m.cp), some (.str m.head), some (.ref p)] H3 := by
        intro ws H3 e3 h3 hl hs hw tz kk
        cases hc : m.cp with
        | none =>
          rw [hc] at hw
          refine q_when (b := false) (et_test (ev_op (ev_var rfl) ev_c fun H1 e Q q => ⟨rfl, q H1 (Ex.refl _)⟩)) (fun h => nomatch h) fun _ H4 e4 => ?_
          rw [← hc]
          exact kk ws H4 (e3.trans e4) (e4 _ _ h3) (by omega) hs (by rw [← hw]; simp)
        | some c =>
          rw [hc] at hw
          have hcn := (ok.c c hc).2
          have hcl2 := int_len hcn
          refine q_when (b := true) (et_test (ev_op (ev_var rfl) ev_c fun H1 e Q q => ⟨rfl, q H1 (Ex.refl _)⟩)) (fun _ H4 e4 => ?_) fun h => nomatch h
          refine s_app (e4 _ _ h3) (ev_var rfl) (ev_joined (.cons ev_c (.cons (ev_fmtI (ev_var rfl) hcn) .nil)) (by simp only [List.map_cons, List.map_nil, List.sum_cons, List.sum_nil, hcl]; omega)) (by rw [List.length_map]; omega) fun H5 e5 => ?_
          show tz _ _ _
          rw [← hc]
          refine kk (ws ++ [([("c." : Str), ((toString c : String) : Str)]).foldl (· ++ ·) Str.empty]) _ (Ex.mut ((e3.trans e4).trans e5) (fresh_back e1 hp2)) (by rw [upd_same, List.map_append]; rfl) (by rw [List.length_append]; simp only [List.length_cons, List.length_nil]; omega) (fun s hs' => ?_) hw
          rcases List.mem_append.mp hs' with h | h
          · exact hs s h
          · rw [List.mem_singleton.mp h, fold_len]
            simp only [List.map_cons, List.map_nil, List.sum_cons, List.sum_nil, hcl]
            have : (Str.empty).length = 0 := rfl
            omega
      have fin : ∀ (ws : List Str) (H3 : Hp), Ex H H3 → H3 p = some (.lst (ws.map V.str)) → ws.length ≤ 6 → (∀ s ∈ ws, s.length ≤ 5000) → ws = m.words → tRet (tM1 (rJoin K) (tC (.str " ")) (tVar 8)) { nx := fun _ H' => Q .non H', rt := Q } [some (.ref pa), some (.str m.lt), some (.int m.num), some (.str m.pts), some (.ref ma), some (oi m.yr), some (oi m.cp), some (.str m.head), some (.ref p)] H3 :=
        fun ws H3 e3 h3 hl hs hw => key ws H3 _ _ rfl rfl e3 h3 hl hs hw
      cases hy : m.yr with
      | none =>
        refine q_when (b := false) (et_test (ev_op (ev_var rfl) ev_c fun H1 e Q q => ⟨rfl, q H1 (Ex.refl _)⟩)) (fun h => nomatch h) fun _ H4 e4 => ?_
        rw [← hy]
        exact step2 (m.head :: m.mks) H4 ((e1.trans e2).trans e4) (e4 _ _ h2) (by rw [List.length_cons]; omega) hwl (by unfold MK.words; rw [hy, List.append_nil]) fin
      | some y =>
        have hyn := (log2_small ⟨by have := ok.y y hy; omega, by have := ok.y y hy; omega⟩ : y.natAbs.log2 < 1920)
        have hyl := int_len hyn
        refine q_when (b := true) (et_test (ev_op (ev_var rfl) ev_c fun H1 e Q q => ⟨rfl, q H1 (Ex.refl _)⟩)) (fun _ H4 e4 => ?_) fun h => nomatch h
        refine s_app (xs := (m.head :: m.mks).map V.str) (e4 _ _ h2) (ev_var rfl) (ev_strI (ev_var rfl) hyn) (by rw [List.length_map, List.length_cons]; omega) fun H5 e5 => ?_
        show tSeq _ _ _ _ _
        rw [← hy]
        refine step2 ((m.head :: m.mks) ++ [((toString y : String) : Str)]) _ (Ex.mut (((e1.trans e2).trans e4).trans e5) (fresh_back e1 hp2)) (by rw [upd_same, List.map_append]; rfl) (by rw [List.length_append]; simp only [List.length_cons, List.length_nil]; omega) (fun s hs' => ?_) (by unfold MK.words; rw [hy]) fin
        rcases List.mem_append.mp hs' with h | h
        · exact hwl s h
        · rw [List.mem_singleton.mp h]; omega
/-- the makers as they are handed in: none, a list or a tuple of texts -/
def MkIn (H : Hp) (mk : V) (ks : List Str) : Prop := (mk = .non ∧ ks = []) ∨ ∃ a, mk = .ref a ∧ (H a = some (.lst (ks.map V.str)) ∨ H a = some (.tup (ks.map V.str)))
theorem MkIn.ex {H H' : Hp} {mk : V} {ks : List Str} (h : MkIn H mk ks) (e : Ex H H') : MkIn H' mk ks := by
  rcases h with h | ⟨a, h1, h2 | h2⟩
  · exact .inl h
  · exact .inr ⟨a, h1, .inl (e _ _ h2)⟩
  · exact .inr ⟨a, h1, .inr (e _ _ h2)⟩
def spKept : Sp := fun vs H Q _ => ∃ (mk : V) (ks : List Str), vs = [mk] ∧ MkIn H mk ks ∧ ks.length ≤ 3 ∧ (∀ s ∈ ks, makerOk s = true ∧ s.length ≤ 1000) ∧ ∀ p H2, Ex H H2 → H2 p = some (.tup (ks.map V.str)) → Q (.ref p) H2
theorem kit_lt {t : String} (h : t = "list" ∨ t = "tuple") : PySem.W.kitAny K (.type t) [.type "list", .type "tuple"] = some true := by
  rcases h with rfl | rfl
  · exact kitAny_cons (kit_ty (r := true) (by decide +kernel)) (fun h => nomatch h) (fun _ => rfl)
  · exact kitAny_cons (kit_ty (r := false) (by decide +kernel)) (fun _ => kitAny_cons (kit_ty (r := true) (by decide +kernel)) (fun h => nomatch h) (fun _ => rfl)) (fun h => nomatch h)
theorem ok_kept_makers (T : Txt K mg Z) : FnOk P w K mg base CX0 5 Z.a_kept_makers Z.d_kept_makers ["makers"] spKept := by
  refine T.F_kept_makers.ok sc_kept_makers (fun vs H Q E h => ?_) (fun cdv A outer s H vs Q E hr h => ?_)
  · obtain ⟨_, _, rfl, _⟩ := h; rfl
  · obtain ⟨mk, ks, rfl, hm, hl, hk, k⟩ := h
    refine ⟨_, (pss_cons (ps_if (pt_cmpR op_isNq (pv 0) pe_non (nomark _)) (pss_one (ps_ret tup0)) pss_nil)
      (pss_cons (ps_if (PW.pt (pw_or (pt_not (pt_val (pe_callB (isiTK K) (by rfl) T.n_isinstance (by decide +kernel) (pa_cons (pv 0) (pa_cons (pe_tup (pa_cons (pe_bltn (v := .ty "list") (by rfl) T.n_list (by decide +kernel) rfl) (pa_cons (pe_bltn (v := .ty "tuple") (by rfl) T.n_tuple (by decide +kernel) rfl) pa_nil))) pa_nil))))) (pw_or1 (pt_cmpR op_gt (pe_callB (lenQ K) (by rfl) T.n_len (by decide +kernel) (pa_cons (pv 0) pa_nil)) pe_int (nomark _))))) (pss_one ps_never) pss_nil)
      (pss_cons (ps_for PassesOwn.never rfl (PI.or (pi_list (pv 0)) (pi_tup (pv 0))) (pg_name (i := 1) sc_kept_makers.nd rfl (.inl rfl)) (pss_one (ps_if (pt_not (pt_val (pe_call (ok_is_maker T) (hr.mono (by decide)) rfl T.g_is_maker T.F_is_maker.kp T.b_is_maker .nil pass0 (pa_cons (pv 1) pa_nil)))) (pss_one ps_never) pss_nil)))
      (pss_one (ps_ret (pe_callTy (tupK K) (by rfl) T.n_tuple (by decide +kernel) (pa_cons (pv 0) pa_nil))))))), ?_⟩
    rcases hm with ⟨rfl, rfl⟩ | ⟨a, rfl, hm⟩
    · refine q_when (b := true) (et_test (ev_op (ev_var rfl) ev_c fun H1 e Q q => ⟨rfl, q H1 (Ex.refl _)⟩)) (fun _ H1 e1 => ?_) fun h => nomatch h
      exact ⟨Nat.zero_le _, fun p hp => k p _ (e1.trans (Ex.new hp)) upd_same⟩
    · refine q_when (b := false) (et_test (ev_op (ev_var rfl) ev_c fun H1 e Q q => ⟨rfl, q H1 (Ex.refl _)⟩)) (fun h => nomatch h) fun _ H1 e1 => ?_
      have hm1 : H1 a = some (.lst (ks.map V.str)) ∨ H1 a = some (.tup (ks.map V.str)) := hm.imp (e1 _ _) (e1 _ _)
      -- isinstance, len
      have go : ∀ H2, Ex H H2 → (H2 a = some (.lst (ks.map V.str)) ∨ H2 a = some (.tup (ks.map V.str))) → ∀ {tz : TS} {D : Ends}, (∀ H3, Ex H H3 → (H3 a = some (.lst (ks.map V.str)) ∨ H3 a = some (.tup (ks.map V.str))) → tz D [some (.ref a), none] H3) →
          tSeq (tIfS (tOr (tNot (tB (tCB (rIsiT K) (tCons (tVar 0) (tCons (tTup (tCons (tC (.ty "list")) (tCons (tC (.ty "tuple")) tNil))) tNil))))) (tTest (tOp (rI0 fun i j => .bl (decide (j < i))) (tCB (rLenS K) (tCons (tVar 0) tNil)) (tC (.int 3))))) tNever tNext) tz D [some (.ref a), none] H2 := by
        intro H2 e2 h2 tz D kk
        refine ⟨_, rfl, by show 2 ≤ sizeLine; decide, fun p hp => ?_⟩
        have e3 : Ex H (upd H2 p (.tup [.ty "list", .ty "tuple"])) := e2.trans (Ex.new hp)
        have h3 : upd H2 p (.tup [.ty "list", .ty "tuple"]) a = some (.lst (ks.map V.str)) ∨ upd H2 p (.tup [.ty "list", .ty "tuple"]) a = some (.tup (ks.map V.str)) :=
          h2.imp (fun h => by rw [upd_ne (ne_of_none h hp)]; exact h) (fun h => by rw [upd_ne (ne_of_none h hp)]; exact h)
        have ty : ∃ t, (t = "list" ∨ t = "tuple") ∧ L2.TyX K (upd H2 p (.tup [.ty "list", .ty "tuple"])) (.ref a) (.type t) := by
          rcases h3 with h | h
          · exact ⟨"list", .inl rfl, .base (.lst h)⟩
          · exact ⟨"tuple", .inr rfl, .base (.tup h)⟩
        obtain ⟨t, ht, hty⟩ := ty
        refine ⟨_, p, [.ty "list", .ty "tuple"], _, [.type "list", .type "tuple"], true, rfl, upd_same, .cons (.ty _) (.cons (.ty _) .nil), hty, kit_lt ht, true, rfl, iteF ?_⟩
        refine ⟨_, rfl, a, ks.map V.str, rfl, h3.imp (fun h => sq_of h) (fun h => st_of h), _, _, rfl, rfl, _, rfl, ?_⟩
        rw [List.length_map, decide_eq_false (by omega)]
        exact iteF (kk _ e3 h3)
      refine go H1 e1 hm1 fun H2 e2 h2 => ?_
      -- the loop
      have body : ∀ (i : Nat) (x : V) (σ' : L2.St) (H3 : Hp) (D : Ends), (ks.map V.str)[i]? = some x → (∃ v, σ' = [some (.ref a), v]) → (∀ H4, Ex H3 H4 → ∃ v, D.nx [some (.ref a), v] H4) → True := fun _ _ _ _ _ _ _ _ => trivial
      have hP : ∀ (i : Nat) (x : V) (v : Option V) (H3 : Hp) (D : Ends), (ks.map V.str)[i]? = some x → (∀ H4, Ex H3 H4 → D.nx [some (.ref a), some x] H4) → tIfS (tNot (tB (tCall (spMaker K) [] E0 (tCons (tVar 1) tNil)))) tNever tNext D [some (.ref a), some x] H3 := by
        intro i x v H3 D hx kk
        rw [List.getElem?_map] at hx
        cases e : ks[i]? with
        | none => rw [e] at hx; cases hx
        | some s =>
          rw [e] at hx
          cases hx
          have hs := hk s (List.mem_of_getElem? e)
          refine s_when (b := false) (et_not (a := true) (et_B (ev_is (ev_call (ea_cons (ev_var rfl) ea_nil) (sp_maker (t := s) (by omega))) (by rw [hs.1])))) (fun h => nomatch h) fun _ H4 e4 => kk H4 e4
      rcases h2 with h2 | h2
      · refine .inl ⟨_, rfl, a, rfl, ⟨_, sq_of h2⟩, for_list (K := K) (a := a) (xs := ks.map V.str) (fun i σ H' => (∃ v, σ = [some (.ref a), v]) ∧ Ex H H' ∧ H' a = some (.lst (ks.map V.str))) ⟨⟨none, rfl⟩, e2, h2⟩ (fun i σ H' _ h => sq_of h.2.2) ?_ ?_⟩
        · rintro i x σ H' hi ⟨⟨v, rfl⟩, e3, h3⟩
          exact hP i x v H' _ hi fun H4 e4 => ⟨⟨_, rfl⟩, e3.trans e4, e4 _ _ h3⟩
        · rintro σ H' ⟨⟨v, rfl⟩, e3, h3⟩
          exact ⟨_, rfl, a, _, rfl, .inl ⟨sq_of h3, fun l hl => k l _ (e3.trans (Ex.new hl)) upd_same⟩⟩
      · refine .inr ⟨_, rfl, a, rfl, ⟨_, st_of h2⟩, for_tup (K := K) (a := a) (xs := ks.map V.str) (fun i σ H' => (∃ v, σ = [some (.ref a), v]) ∧ Ex H H' ∧ H' a = some (.tup (ks.map V.str))) ⟨⟨none, rfl⟩, e2, h2⟩ (fun i σ H' _ h => st_of h.2.2) ?_ ?_⟩
        · rintro i x σ H' hi ⟨⟨v, rfl⟩, e3, h3⟩
          exact hP i x v H' _ hi fun H4 e4 => ⟨⟨_, rfl⟩, e3.trans e4, e4 _ _ h3⟩
        · rintro σ H' ⟨⟨v, rfl⟩, e3, h3⟩
          exact ⟨_, rfl, a, _, rfl, .inr ⟨st_of h3, k a H' e3 h3⟩⟩
/-- a mark stands at x -/
def MarkAt (C : Addr) (H : Hp) (x : Addr) (m : MK) : Prop := ∃ dx pa ma, H x = some (.ins C dx [("_parts", .ref pa), ("_text", .str m.text)]) ∧ H pa = some (.tup (m.tup ma)) ∧ H ma = some (.tup (m.mks.map V.str))
theorem MarkAt.ex {C : Addr} {H H' : Hp} {x : Addr} {m : MK} (h : MarkAt C H x m) (e : Ex H H') : MarkAt C H' x m := by
  obtain ⟨dx, pa, ma, h1, h2, h3⟩ := h
  exact ⟨dx, pa, ma, e _ _ h1, e _ _ h2, e _ _ h3⟩
theorem whole_yes {i lo : Int} {hi : Option Int} (h1 : lo ≤ i) (h2 : ∀ h, hi = some h → i ≤ h) : whole (.int i) lo hi = true := by
  show (decide (lo ≤ i) && _) = true
  rw [decide_eq_true h1, Bool.true_and]
  cases hi with
  | none => rfl
  | some h => exact decide_eq_true (h2 h rfl)
def spMark (C : Addr) : Sp := fun vs H Q _ => ∃ (H0 : Hp) (x dx : Addr) (m : MK) (mk : V), vs = [.ref x, .str m.lt, .int m.num, .str m.pts, mk, oi m.yr, oi m.cp] ∧ m.Ok ∧ Ex H0 H ∧ H0 x = none ∧ H x = some (.ins C dx []) ∧ MkIn H mk m.mks ∧ ∀ H', Ex H0 H' → MarkAt C H' x m → Q .non H'

theorem ok_Mark_init (T : Txt K mg Z) : FnOk P w K mg base CX0 6 Z.a_Mark_init Z.d_Mark_init ["self", "letters", "number", "points", "makers", "year", "copy"] (spMark Z.C_Mark) := by
  refine T.F_Mark_init.ok sc_Mark_init (fun vs H Q E h => ?_) (fun cdv A outer s H vs Q E hr h => ?_)
  · obtain ⟨_, _, _, _, _, rfl, _⟩ := h; rfl
  · obtain ⟨H0, x, dx, m, mk, rfl, ok, e0, hx0, hx, hmk, k⟩ := h
    refine ⟨_, (pss_cons (ps_if (pt_not (pt_val (pe_call (ok_is_letters T) (hr.mono (by decide)) rfl T.g_is_letters T.F_is_letters.kp T.b_is_letters .nil pass0 (pa_cons (pv 1) (pa_cons pe_int pa_nil))))) (pss_one ps_never) pss_nil)
      (pss_cons (ps_if (pt_not (pt_val (pe_call (ok_is_whole T) (hr.mono (by decide)) rfl T.g_is_whole T.F_is_whole.kp T.b_is_whole .nil pass0 (pa_cons (pv 2) (pa_cons pe_int (pa_cons pe_int pa_nil)))))) (pss_one ps_never) pss_nil)
      (pss_cons (ps_if (pt_not (pt_val (pe_call (ok_is_points T) (hr.mono (by decide)) rfl T.g_is_points T.F_is_points.kp T.b_is_points .nil pass0 (pa_cons (pv 3) pa_nil)))) (pss_one ps_never) pss_nil)
      (pss_cons (ps_set (i := 7) sc_Mark_init.nd rfl (.inl rfl) (pe_call (ok_kept_makers T) (hr.mono (by decide)) rfl T.g_kept_makers T.F_kept_makers.kp T.b_kept_makers .nil pass0 (pa_cons (pv 4) pa_nil)))
      (pss_cons (ps_if (PW.pt (pw_and (pt_cmpR op_notNq (pv 5) pe_non (nomark _)) (pw_and1 (pt_not (pt_val (pe_call (ok_is_whole T) (hr.mono (by decide)) rfl T.g_is_whole T.F_is_whole.kp T.b_is_whole .nil pass0 (pa_cons (pv 5) (pa_cons pe_int (pa_cons pe_int pa_nil))))))))) (pss_one ps_never) pss_nil)
      (pss_cons (ps_if (PW.pt (pw_and (pt_cmpR op_notNq (pv 6) pe_non (nomark _)) (pw_and1 (pt_not (pt_val (pe_callD (ok_is_whole T) (hr.mono (by decide)) rfl T.g_is_whole T.F_is_whole.kp T.b_is_whole_2 pass0 (pa_cons (pv 6) (pa_cons pe_int pa_nil)))))))) (pss_one ps_never) pss_nil)
      (pss_cons (ps_fld (pv 0) (pe_tup (pa_cons (pv 1) (pa_cons (pv 2) (pa_cons (pv 3) (pa_cons (pv 7) (pa_cons (pv 5) (pa_cons (pv 6) pa_nil))))))) rfl)
      (pss_one (ps_fld (pv 0) (pe_call (ok_text_of T) (hr.mono (by decide)) rfl T.g_text_of T.F_text_of.kp T.b_text_of .nil pass0 (pa_cons (fldK K (pv 0) rfl) pa_nil)) rfl))))))))), ?_⟩
    have hll := letters_len ok.l
    refine q_when (b := false) (et_not (a := true) (et_B (ev_is (ev_call (ea_cons (ev_var rfl) (ea_cons ev_c ea_nil)) (sp_letters (by omega))) (by rw [ok.l])))) (fun h => nomatch h) fun _ H1 e1 => ?_
    refine q_when (b := false) (et_not (a := true) (et_B (ev_is (ev_call (ea_cons (ev_var rfl) (ea_cons ev_c (ea_cons ev_c ea_nil))) (sp_whole (hi := some 9999) kni_int)) (by rw [whole_yes ok.n.1 (fun h q => by cases q; exact ok.n.2)])))) (fun h => nomatch h) fun _ H2 e2 => ?_
    refine q_when (b := false) (et_not (a := true) (et_B (ev_is (ev_call (ea_cons (ev_var rfl) ea_nil) (sp_points (by have := ok.pz; omega))) (by rw [ok.p])))) (fun h => nomatch h) fun _ H3 e3 => ?_
    have e03 := ((e0.trans e1).trans e2).trans e3
    have hx3 := e3 _ _ (e2 _ _ (e1 _ _ hx))
    refine ⟨_, rfl, mk, m.mks, rfl, ((hmk.ex e1).ex e2).ex e3, ok.k, ok.ks, fun ma H4 e4 h4 => ?_⟩
    have e04 := e03.trans e4
    have hx4 := e4 _ _ hx3
    dsimp only [gName]
    -- the year
    refine q_when (b := false) ?_ (fun h => nomatch h) fun _ H5 e5 => ?_
    · cases hy : m.yr with
      | none => exact et_and (a := false) (b := false) (et_test (ev_op (ev_var rfl) ev_c fun H1 e Q q => ⟨rfl, q H1 (Ex.refl _)⟩)) (fun h => nomatch h)
      | some y => exact et_and (a := true) (b := false) (et_test (ev_op (ev_var rfl) ev_c fun H1 e Q q => ⟨rfl, q H1 (Ex.refl _)⟩)) (fun _ => et_not (a := true) (et_B (ev_is (ev_call (ea_cons (ev_var rfl) (ea_cons ev_c (ea_cons ev_c ea_nil))) (sp_whole (x := .int y) (hi := some 2999) kni_int)) (by rw [whole_yes (ok.y y hy).1 (fun h q => by cases q; exact (ok.y y hy).2)]))))
    refine q_when (b := false) ?_ (fun h => nomatch h) fun _ H6 e6 => ?_
    · cases hc : m.cp with
      | none => exact et_and (a := false) (b := false) (et_test (ev_op (ev_var rfl) ev_c fun H1 e Q q => ⟨rfl, q H1 (Ex.refl _)⟩)) (fun h => nomatch h)
      | some c => exact et_and (a := true) (b := false) (et_test (ev_op (ev_var rfl) ev_c fun H1 e Q q => ⟨rfl, q H1 (Ex.refl _)⟩)) (fun _ => et_not (a := true) (et_B (ev_is (ev_call (ea_cons (ev_var rfl) (ea_cons ev_c ea_nil)) (sp_whole (x := .int c) (hi := none) kni_int)) (by rw [whole_yes (hi := none) (ok.c c hc).1 (fun h q => nomatch q)]))))
    have s6 : ST H0 H6 [(x, .ins Z.C_Mark dx [])] := ⟨(e04.trans e5).trans e6, fun p hp => by
      rcases List.mem_singleton.mp hp with rfl
      exact ⟨hx0, e6 _ _ (e5 _ _ hx4)⟩, List.pairwise_singleton ..⟩
    have h6 := e6 _ _ (e5 _ _ h4)
    -- the parts
    refine q_fldU (xs := m.tup ma) (eu_tup (ea_cons (ev_var rfl) (ea_cons (ev_var rfl) (ea_cons (ev_var rfl) (ea_cons (ev_var rfl) (ea_cons (ev_var rfl) (ea_cons (ev_var rfl) ea_nil)))))) (by show 6 ≤ 100000; decide)) (ev_var rfl) s6.at1 T.cl_Mark T.na_Mark_parts (by simp) fun pa H7 hpa e7 h7 => ?_
    have s7 := s6.ext e7
    have nx : x ≠ pa := ne_of_none s6.at1 hpa
    have nm : ma ≠ x := ne_of h6 s6.at1 (by intro z; cases z)
    have f7 : putF "_parts" (.ref pa) [] = [(("_parts" : Str), V.ref pa)] := by kernel_rfl
    rw [f7]
    have s8 := s7.set (u := .ins Z.C_Mark dx [(("_parts" : Str), V.ref pa)])
    have h8 : upd H7 x (.ins Z.C_Mark dx [(("_parts" : Str), V.ref pa)]) pa = some (.tup (m.tup ma)) := by rw [upd_ne nx.symm]; exact h7
    have h9 : upd H7 x (.ins Z.C_Mark dx [(("_parts" : Str), V.ref pa)]) ma = some (.tup (m.mks.map V.str)) := by rw [upd_ne nm]; exact e7 _ _ h6
    refine s_fld (v := .str m.text) (ev_call (ea_cons (ev_fld (ev_var rfl) s8.at1 T.cl_Mark T.na_Mark_parts (by kernel_rfl)) ea_nil) (fun H1 e Q q E => ⟨pa, ma, m, rfl, st_of (e _ _ h8), st_of (e _ _ h9), ok, q⟩)) (ev_var rfl) s8.at1 T.cl_Mark T.na_Mark_text (by simp) fun H9 e9 => ?_
    have f9 : putF "_text" (.str m.text) [(("_parts" : Str), V.ref pa)] = [(("_parts" : Str), V.ref pa), ("_text", .str m.text)] := by kernel_rfl
    rw [f9]
    have s9 := (s8.ext e9).set (u := .ins Z.C_Mark dx [(("_parts" : Str), V.ref pa), ("_text", .str m.text)])
    exact k _ s9.e ⟨dx, pa, ma, upd_same, by rw [upd_ne nx.symm]; exact e9 _ _ h8, by rw [upd_ne nm]; exact e9 _ _ h9⟩

/-! what a mark tells -/
def oD : Option Int → PyData
  | none => .none
  | some i => .int i
def MK.data (m : MK) : PyData := .tuple [.str m.lt, .int m.num, .str m.pts, .tuple (m.mks.map PyData.str), oD m.yr, oD m.cp]
def MK.kdata (m : MK) : PyData := .tuple [.str m.lt, .int m.num, .str m.pts, .tuple (m.mks.map PyData.str), .int (m.yr.getD 0), .int (m.cp.getD 0)]
def MK.ktup (m : MK) (ma : Addr) : List V := [.str m.lt, .int m.num, .str m.pts, .ref ma, .int (m.yr.getD 0), .int (m.cp.getD 0)]
theorem dp_strs {H : Hp} : ∀ ks : List Str, DpAll K H (ks.map V.str) (ks.map PyData.str)
  | [] => .nil
  | s :: ks => .cons (.str s) (dp_strs ks)
theorem dp_oi {H : Hp} (o : Option Int) : Dp K H (oi o) (oD o) := by
  cases o with
  | none => exact .non
  | some y => exact .int y
theorem dp_data {H : Hp} {pa ma : Addr} {m : MK} (h1 : H pa = some (.tup (m.tup ma))) (h2 : H ma = some (.tup (m.mks.map V.str))) : Dp K H (.ref pa) m.data :=
  .tup (st_of h1) (.cons (.str _) (.cons (.int _) (.cons (.str _) (.cons (.tup (st_of h2) (dp_strs _)) (.cons (dp_oi _) (.cons (dp_oi _) .nil))))))
theorem dp_kdata {H : Hp} {pa ma : Addr} {m : MK} (h1 : H pa = some (.tup (m.ktup ma))) (h2 : H ma = some (.tup (m.mks.map V.str))) : Dp K H (.ref pa) m.kdata :=
  .tup (st_of h1) (.cons (.str _) (.cons (.int _) (.cons (.str _) (.cons (.tup (st_of h2) (dp_strs _)) (.cons (.int _) (.cons (.int _) .nil))))))
theorem depth_strs : ∀ ks : List Str, PyData.depthAll (ks.map PyData.str) = 0
  | [] => by simp [PyData.depthAll]
  | s :: ks => by simp [PyData.depthAll, PyData.depth, depth_strs ks]
theorem alike_strs : ∀ ks js : List Str, PySem.W.alikeAll (ks.map PyData.str) (js.map PyData.str) = true
  | [], _ => by simp [PySem.W.alikeAll]
  | _ :: _, [] => by simp [PySem.W.alikeAll]
  | s :: ks, t :: js => by simp [PySem.W.alikeAll, PySem.W.alike, alike_strs ks js]
theorem kalike (m n : MK) : PySem.W.alike m.kdata n.kdata = true := by
  unfold MK.kdata
  simp [PySem.W.alike, PySem.W.alikeAll, alike_strs]
theorem kdepth (m : MK) : m.kdata.depth ≤ 60 := by
  unfold MK.kdata
  simp [PyData.depth, PyData.depthAll, depth_strs]
def strsOk (m : MK) : Prop := PyData.strOk m.lt = true ∧ PyData.strOk m.pts = true ∧ ∀ s ∈ m.mks, PyData.strOk s = true
theorem lay_strs : ∀ ks : List Str, (∀ s ∈ ks, PyData.strOk s = true) → PyData.canLayAll0 (ks.map PyData.str) = true
  | [], _ => by simp [PyData.canLayAll0]
  | s :: ks, h => by simp [PyData.canLayAll0, PyData.canLay0, h s List.mem_cons_self, lay_strs ks fun t ht => h t (List.mem_cons_of_mem _ ht)]
end


/-! ### equal marks, the order of two -/
theorem eqvAll_strs : ∀ ks js : List Str, PyData.eqvAll (ks.map PyData.str) (js.map PyData.str) = decide (ks = js)
  | [], [] => by simp [PyData.eqvAll]
  | [], _ :: _ => by simp [PyData.eqvAll]
  | _ :: _, [] => by simp [PyData.eqvAll]
  | s :: ks, t :: js => by
    rw [List.map_cons, List.map_cons, PyData.eqvAll, eqvAll_strs ks js, PyData.eqv]
    by_cases h1 : s = t
    · by_cases h2 : ks = js
      · simp [h1, h2]
      · simp [h1, h2]
    · simp [h1]
def kE (m n : MK) : Bool := decide (m.lt = n.lt) && (decide (m.num = n.num) && (decide (m.pts = n.pts) && (decide (m.mks = n.mks) && (decide (m.yr.getD 0 = n.yr.getD 0) && decide (m.cp.getD 0 = n.cp.getD 0)))))
theorem beq_dec {α : Type} [DecidableEq α] (a b : α) : (a == b) = decide (a = b) := by
  by_cases h : a = b
  · subst h; simp
  · simp [h]
theorem eqv_k (m n : MK) : PyData.eqv m.kdata n.kdata = kE m n := by
  unfold MK.kdata kE
  simp only [PyData.eqv, PyData.eqvAll, eqvAll_strs, beq_dec, Bool.and_true]
theorem eqv_oi (o o' : Option Int) : (∀ i, o = some i → i ≠ 0) → (∀ i, o' = some i → i ≠ 0) →
    PyData.eqv (oD o) (oD o') = decide (o.getD 0 = o'.getD 0) := by
  intro h h'
  cases o with
  | none =>
    cases o' with
    | none => simp [oD, PyData.eqv]
    | some j =>
      have := h' j rfl
      simp only [oD, PyData.eqv, Option.getD]
      exact (decide_eq_false (fun e => this e.symm)).symm
  | some i =>
    have := h i rfl
    cases o' with
    | none =>
      simp only [oD, PyData.eqv, Option.getD]
      exact (decide_eq_false this).symm
    | some j => simp only [oD, PyData.eqv, Option.getD, beq_dec]
theorem eqv_d {m n : MK} (okm : m.Ok) (okn : n.Ok) : PyData.eqv m.data n.data = kE m n := by
  unfold MK.data kE
  simp only [PyData.eqvAll, PyData.eqv, eqvAll_strs, beq_dec, Bool.and_true]
  rw [eqv_oi m.yr n.yr (fun i h => by have := okm.y i h; omega) (fun i h => by have := okn.y i h; omega), eqv_oi m.cp n.cp (fun i h => by have := (okm.c i h).1; omega) (fun i h => by have := (okn.c i h).1; omega)]
theorem kE_symm (m n : MK) : kE m n = kE n m := by
  unfold kE
  simp only [eq_comm]
theorem kE_iff (m n : MK) : kE m n = true ↔ m.kdata = n.kdata := by
  unfold kE MK.kdata
  simp only [Bool.and_eq_true, decide_eq_true_eq, PyData.tuple.injEq, List.cons.injEq, PyData.str.injEq, PyData.int.injEq, and_true]
  constructor
  · rintro ⟨h1, h2, h3, h4, h5, h6⟩
    exact ⟨h1, h2, h3, by rw [h4], h5, h6⟩
  · rintro ⟨h1, h2, h3, h4, h5, h6⟩
    have inj : ∀ ks js : List Str, ks.map PyData.str = js.map PyData.str → ks = js := fun ks => by
      induction ks with
      | nil => intro js h; cases js with | nil => rfl | cons _ _ => cases h
      | cons k ks ih =>
        intro js h
        cases js with
        | nil => cases h
        | cons j js =>
          rw [List.map_cons, List.map_cons] at h
          injection h with a b
          injection a with a
          rw [a, ih js b]
    exact ⟨h1, h2, h3, inj _ _ h4, h5, h6⟩
theorem toks_strs : ∀ (ks js : List Str) (A B : List (Int ⊕ List Nat)), PySem.W.keyToksAll (ks.map PyData.str) ++ A = PySem.W.keyToksAll (js.map PyData.str) ++ B → ks = js ∧ A = B
  | [], [], A, B, h => by
    simp only [List.map_nil, PySem.W.keyToksAll, List.cons_append, List.nil_append, List.cons.injEq, true_and] at h
    exact ⟨rfl, h⟩
  | [], _ :: _, A, B, h => by simp [PySem.W.keyToksAll] at h
  | _ :: _, [], A, B, h => by simp [PySem.W.keyToksAll] at h
  | s :: ks, t :: js, A, B, h => by
    simp only [List.map_cons, PySem.W.keyToksAll, PySem.W.keyToks, List.cons_append, List.nil_append, List.append_assoc, List.cons.injEq, true_and, Sum.inr.injEq] at h
    obtain ⟨h1, h2⟩ := h
    obtain ⟨e1, e2⟩ := toks_strs ks js A B h2
    exact ⟨by rw [PySem.W.str_of_cps h1, e1], e2⟩
theorem toks_inj {m n : MK} (h : PySem.W.keyToks m.kdata = PySem.W.keyToks n.kdata) : kE m n = true := by
  unfold MK.kdata at h
  simp only [PySem.W.keyToks, PySem.W.keyToksAll, List.cons_append, List.nil_append, List.cons.injEq, true_and, Sum.inr.injEq, Sum.inl.injEq] at h
  obtain ⟨h1, h2, h3, h4⟩ := h
  obtain ⟨e1, e2⟩ := toks_strs _ _ _ _ h4
  simp only [List.cons.injEq, true_and, Sum.inl.injEq] at e2
  unfold kE
  rw [PySem.W.str_of_cps h1, h2, PySem.W.str_of_cps h3, e1, e2.1, e2.2.1]
  simp
theorem lt_flip {m n : MK} (h : kE m n = false) : PySem.W.dataLt n.kdata m.kdata = !PySem.W.dataLt m.kdata n.kdata := by
  unfold PySem.W.dataLt
  cases h1 : PyProof.Rows.lexLt itemOrd (PySem.W.keyToks m.kdata) (PySem.W.keyToks n.kdata) with
  | true =>
    cases h2 : PyProof.Rows.lexLt itemOrd (PySem.W.keyToks n.kdata) (PySem.W.keyToks m.kdata) with
    | true =>
      have := PyProof.Rows.lex_trans _ _ _ h1 h2
      rw [PyProof.Rows.lex_irrefl] at this
      cases this
    | false => rfl
  | false =>
    cases h2 : PyProof.Rows.lexLt itemOrd (PySem.W.keyToks n.kdata) (PySem.W.keyToks m.kdata) with
    | true => rfl
    | false =>
      have := toks_inj (PyProof.Rows.lex_total _ _ h1 h2)
      rw [h] at this
      cases this
theorem lt_same {m n : MK} (h : kE m n = true) : PySem.W.dataLt m.kdata n.kdata = false := by
  rw [(kE_iff m n).mp h]
  exact PyProof.Rows.lex_irrefl _
def ordI (m n : MK) : Int := if kE m n = true then 0 else if PySem.W.dataLt m.kdata n.kdata = true then -1 else 1
theorem ordI_flip (m n : MK) : ordI n m = -ordI m n := by
  unfold ordI
  rw [kE_symm n m]
  cases h : kE m n with
  | true => rfl
  | false =>
    rw [if_neg Bool.false_ne_true, if_neg Bool.false_ne_true, lt_flip h]
    cases PySem.W.dataLt m.kdata n.kdata <;> rfl
theorem strOk_of {t s : Str} (h : allIn t s = true) (hs : s.cps.toList.all (fun c => decide (c < 0x110000)) = true) : PyData.strOk t = true := by
  unfold PyData.strOk
  rw [← Array.all_toList]
  refine List.all_eq_true.mpr fun c hc => ?_
  have h1 := List.all_eq_true.mp h c hc
  exact List.all_eq_true.mp hs c (of_decide_eq_true h1)
theorem strOk_cut {t : Str} (h1 : PyData.strOk (cutS t none (some 1)) = true) (h2 : PyData.strOk (cutS t (some 1) none) = true) : PyData.strOk t = true := by
  unfold PyData.strOk at *
  rw [← Array.all_toList] at *
  refine List.all_eq_true.mpr fun c hc => ?_
  have e1 : (cutS t none (some 1)).cps.toList = t.cps.toList.take 1 := by
    show (List.toArray _).toList = _
    rw [show HT.sIx t.length 0 none = 0 from rfl, show HT.sIx t.length t.length (some 1) = min 1 t.length from HT.sIx_nat _ _ 1, List.drop_zero]
    show List.take (min 1 t.length - 0) _ = _
    have hl : t.cps.toList.length = t.length := Array.length_toList
    rw [Nat.sub_zero]
    by_cases h : 1 ≤ t.length
    · rw [Nat.min_eq_left h]
    · rw [Nat.min_eq_right (by omega), List.take_of_length_le (by omega), List.take_of_length_le (by omega)]
  have e2 : (cutS t (some 1) none).cps.toList = t.cps.toList.drop 1 := by
    show (List.toArray _).toList = _
    have hl : t.cps.toList.length = t.length := Array.length_toList
    rw [show HT.sIx t.length 0 (some 1) = min 1 t.length from HT.sIx_nat _ _ 1, show HT.sIx t.length t.length none = t.length from rfl]
    by_cases h : 1 ≤ t.length
    · rw [Nat.min_eq_left h, List.take_of_length_le (by rw [List.length_drop]; omega)]
    · rw [Nat.min_eq_right (by omega), List.drop_of_length_le (by omega), List.drop_of_length_le (by omega)]
      simp
  rw [e1] at h1
  rw [e2] at h2
  rw [← List.take_append_drop 1 t.cps.toList] at hc
  rcases List.mem_append.mp hc with h | h
  · exact List.all_eq_true.mp h1 c h
  · exact List.all_eq_true.mp h2 c h
theorem abc_ok : sABC.cps.toList.all (fun c => decide (c < 0x110000)) = true := by decide +kernel
theorem fig_ok : sFIG.cps.toList.all (fun c => decide (c < 0x110000)) = true := by decide +kernel
theorem letters_in {s : Str} {n : Int} (h : lettersOk s n = true) : allIn s sABC = true := by
  unfold lettersOk at h
  rw [Bool.and_eq_true] at h
  exact h.2
theorem ended_in {s : Str} (h : endedOk s = true) : allIn s sFIG = true := by
  unfold endedOk figuresOk at h
  rw [Bool.and_eq_true, Bool.and_eq_true] at h
  exact h.1.2
theorem points_str {s : Str} (h : pointsOk s = true) : PyData.strOk s = true := by
  unfold pointsOk at h
  rw [Bool.or_eq_true] at h
  rcases h with h | h
  · rw [of_decide_eq_true h]; decide +kernel
  · exact strOk_of (ended_in h) fig_ok
theorem maker_str {s : Str} (h : makerOk s = true) : PyData.strOk s = true := by
  unfold makerOk at h
  rw [Bool.and_eq_true] at h
  exact strOk_cut (strOk_of (letters_in h.1) abc_ok) (strOk_of (ended_in h.2) fig_ok)
theorem shaped_ok {m : MK} (ok : m.Ok) : SeqAt.shaped m.data = true := by
  unfold SeqAt.shaped
  rw [Bool.and_eq_true]
  refine ⟨?_, decide_eq_true ?_⟩
  · unfold MK.data
    have h1 := strOk_of (letters_in ok.l) abc_ok
    have h2 := points_str ok.p
    have h3 := lay_strs m.mks fun s hs => maker_str (ok.ks s hs).1
    simp only [PyData.canLay0, PyData.canLayAll0, h1, h2, h3, Bool.true_and]
    cases m.yr <;> cases m.cp <;> rfl
  · unfold MK.data
    simp only [PyData.depth, PyData.depthAll, depth_strs]
    cases m.yr <;> cases m.cp <;> simp [oD, PyData.depth]

/-! ### texts, sign by sign -/
theorem allIn_iff {t s : Str} : allIn t s = true ↔ ∀ c ∈ sg t, c ∈ sg s := by
  unfold allIn
  rw [List.all_eq_true]
  exact ⟨fun h c hc => of_decide_eq_true (h c hc), fun h c hc => decide_eq_true (h c hc)⟩
def FigS (s : Str) : Prop := ∀ c ∈ sg s, c ∈ sg sFIG
theorem fig_app {a b : Str} (h1 : FigS a) (h2 : FigS b) : FigS (a ++ b) := fun c hc => by
  rw [sg_app] at hc
  rcases List.mem_append.mp hc with h | h
  · exact h1 c h
  · exact h2 c h
theorem fig_one {c : Nat} (h : c ∈ sg sFIG) : FigS ⟨#[c]⟩ := fun d hd => by
  have : d = c := by simpa [sg] using hd
  rw [this]; exact h
theorem app_ne {s : Str} {c : Nat} : ¬ (s ++ (⟨#[c]⟩ : Str) = ("" : Str)) := fun h => by
  have := congrArg sg h
  rw [sg_app, show sg ("" : Str) = [] by decide +kernel] at this
  simp [sg] at this
theorem fig_endOk {s : Str} {c : Nat} (h : FigS s) (hc : c ∈ sg sFIG) (h0 : c ≠ 48) : endedOk (s ++ ⟨#[c]⟩) = true := by
  unfold endedOk figuresOk
  rw [decide_eq_false app_ne, allIn_iff.mpr (fig_app h (fig_one hc)), ends0, decide_eq_false h0]
  rfl
theorem ended_fig {s : Str} (h : endedOk s = true) : FigS s := by
  unfold endedOk figuresOk at h
  rw [Bool.and_eq_true, Bool.and_eq_true] at h
  exact allIn_iff.mp h.1.2
theorem fig_nil : FigS ("" : Str) := fun c hc => by
  rw [show sg ("" : Str) = [] by decide +kernel] at hc
  cases hc
theorem points_fig {s : Str} (h : pointsOk s = true) : FigS s := by
  unfold pointsOk at h
  rw [Bool.or_eq_true] at h
  rcases h with h | h
  · rw [of_decide_eq_true h]; exact fig_nil
  · exact ended_fig h
theorem fig_cut {s : Str} (h : FigS s) (k : Nat) : FigS (cutS s none (some (k : Int))) := fun c hc => by
  rw [sg_cutTo] at hc
  exact h c (List.mem_of_mem_take hc)
theorem len_cut (s : Str) (k : Nat) : (cutS s none (some (k : Int))).length ≤ k := by
  rw [← sg_len, sg_cutTo, List.length_take]
  omega
theorem sg_strip (s : Str) : ∃ hi : Nat, hi ≤ s.length ∧ sg (Txt.rstripChars s "0") = (sg s).take hi ∧ (hi = 0 ∨ ∃ c, (sg s)[hi - 1]? = some c ∧ c ≠ 48) := by
  refine ⟨stripHi ("0" : Str).cps.contains true s 0, ?_, ?_, ?_⟩
  · exact (hi_facts _ s 0 (Nat.zero_le _)).2.1
  · show sg (Txt.stripBy _ false true s) = _
    rw [stripBy_eq]
    show (Array.extract _ _ _).toList = _
    rw [Array.toList_extract, List.extract_eq_take_drop]
    rfl
  · obtain ⟨_, h2, _, h⟩ := hi_facts ("0" : Str).cps.contains s 0 (Nat.zero_le _)
    generalize stripHi ("0" : Str).cps.contains true s 0 = hi at h h2
    by_cases hz : hi = 0
    · exact .inl hz
    · refine .inr ?_
      have hlt : hi - 1 < (sg s).length := by rw [sg_len]; omega
      refine ⟨(sg s)[hi - 1], List.getElem?_eq_getElem hlt, fun e => ?_⟩
      rcases h with h | h
      · exact hz h
      · rw [← getD_list, List.getD_eq_getElem?_getD, List.getElem?_eq_getElem hlt, Option.getD_some, e] at h
        exact absurd h (by decide +kernel)
theorem strip_ok {s : Str} (h : FigS s) : pointsOk (Txt.rstripChars s "0") = true ∧ (Txt.rstripChars s "0").length ≤ s.length := by
  obtain ⟨hi, h1, h2, h3⟩ := sg_strip s
  refine ⟨?_, ?_⟩
  · rcases h3 with h3 | ⟨c, hc, h0⟩
    · rw [h3, List.take_zero] at h2
      have : Txt.rstripChars s "0" = ("" : Str) := str_ext (by rw [h2]; decide +kernel)
      rw [this]; decide +kernel
    · have hlt := (List.getElem?_eq_some_iff.mp hc).1
      have hp : 0 < hi ∨ hi = 0 := by omega
      rcases hp with hp | hp
      · have e : Txt.rstripChars s "0" = (⟨((sg s).take (hi - 1)).toArray⟩ : Str) ++ ⟨#[c]⟩ := str_ext (by
          rw [h2, sg_app]
          show _ = (sg s).take (hi - 1) ++ [c]
          have : hi = (hi - 1) + 1 := by omega
          rw [this, List.take_add_one, Nat.add_sub_cancel, hc]
          rfl)
        rw [e]
        unfold pointsOk
        rw [fig_endOk (fun d hd => h d (List.mem_of_mem_take (by exact hd))) (h c (List.mem_of_getElem? hc)) h0, Bool.or_true]
      · rw [hp, List.take_zero] at h2
        have : Txt.rstripChars s "0" = ("" : Str) := str_ext (by rw [h2]; decide +kernel)
        rw [this]; decide +kernel
  · rw [← sg_len, h2, List.length_take, sg_len]
    omega
theorem points_ended {s : Str} (h : pointsOk s = true) (hn : s ≠ ("" : Str)) : endedOk s = true := by
  unfold pointsOk at h
  rw [decide_eq_false hn, Bool.false_or] at h
  exact h
theorem maker_ok {c : Nat} {s : Str} (hc : c ∈ sg sABC) (hs : endedOk s = true) : makerOk (⟨#[c]⟩ ++ s) = true := by
  have e1 : cutS (⟨#[c]⟩ ++ s) none (some 1) = ⟨#[c]⟩ := str_ext (by
    rw [show (some (1 : Int)) = some ((1 : Nat) : Int) from rfl, sg_cutTo, sg_app]
    rfl)
  have e2 : cutS (⟨#[c]⟩ ++ s) (some 1) none = s := str_ext (by
    rw [sg_cutFrom1, sg_app]
    rfl)
  unfold makerOk
  rw [e1, e2, hs, Bool.and_true]
  unfold lettersOk
  have : allIn ⟨#[c]⟩ sABC = true := allIn_iff.mpr fun d hd => by
    have : d = c := by simpa [sg] using hd
    rw [this]; exact hc
  rw [this]
  rfl
theorem maker_tail {s : Str} (h : makerOk s = true) : endedOk (cutS s (some 1) none) = true ∧ ∃ c, (sg s)[0]? = some c ∧ c ∈ sg sABC := by
  unfold makerOk lettersOk at h
  simp only [Bool.and_eq_true] at h
  obtain ⟨⟨⟨h1, _⟩, h3⟩, h4⟩ := h
  refine ⟨h4, ?_⟩
  have h1 := of_decide_eq_true h1
  have e := sg_cutTo s 1
  rw [show (some ((1 : Nat) : Int)) = some (1 : Int) from rfl] at e
  have hl : (sg s).take 1 ≠ [] := fun z => by
    rw [z] at e
    have := sg_len (cutS s none (some 1))
    rw [e] at this
    rw [← this] at h1
    simp at h1
  cases hs : sg s with
  | nil => rw [hs] at hl; exact absurd rfl hl
  | cons c cs =>
    refine ⟨c, rfl, allIn_iff.mp h3 c ?_⟩
    rw [e, hs]
    exact List.mem_cons_self
theorem lets_app {a : Str} {c : Nat} {n : Int} (h : (a.length : Int) + 1 ≤ n) (ha : ∀ d ∈ sg a, d ∈ sg sABC) (hc : c ∈ sg sABC) : lettersOk (a ++ ⟨#[c]⟩) n = true := by
  have hl : (a ++ (⟨#[c]⟩ : Str)).length = a.length + 1 := len_app _ _
  unfold lettersOk
  rw [hl, decide_eq_true (by omega), decide_eq_true (by omega), allIn_iff.mpr fun d hd => ?_]
  · rfl
  · rw [sg_app] at hd
    rcases List.mem_append.mp hd with h | h
    · exact ha d h
    · have : d = c := by simpa [sg] using h
      rw [this]; exact hc
theorem lets_cut {s : Str} {n : Int} (h : lettersOk s n = true) (k : Nat) : ∀ d ∈ sg (cutS s none (some (k : Int))), d ∈ sg sABC := fun d hd => by
  unfold lettersOk at h
  rw [Bool.and_eq_true] at h
  rw [sg_cutTo] at hd
  exact allIn_iff.mp h.2 d (List.mem_of_mem_take hd)
/-! numbers as texts -/
theorem fig_dig {c : Nat} : c ∈ sg sFIG ↔ 48 ≤ c ∧ c ≤ 57 := by
  rw [show sg sFIG = [48, 49, 50, 51, 52, 53, 54, 55, 56, 57] by decide +kernel]
  simp only [List.mem_cons, List.not_mem_nil, or_false]
  omega
theorem intText_fig {s : Str} (h : FigS s) (hn : sg s ≠ []) (hl : s.length ≤ 640) : PySem.intText? s = some ((PySem.NumText.digitsVal (sg s) : Nat) : Int) :=
  PySem.intText_digits (fun c hc => fig_dig.mp (h c hc)) hn (by omega)
theorem digitsVal_lt : ∀ (n : Nat) (cs : List Nat), cs.length = n → (∀ c ∈ cs, 48 ≤ c ∧ c ≤ 57) → PySem.NumText.digitsVal cs < 10 ^ n
  | 0, cs, hl, _ => by
    rw [List.length_eq_zero_iff.mp hl]
    decide
  | n + 1, cs, hl, h => by
    have hne : cs ≠ [] := fun z => by rw [z] at hl; cases hl
    have e := List.dropLast_concat_getLast hne
    rw [← e, PySem.NumText.digitsVal_snoc]
    have ih := digitsVal_lt n cs.dropLast (by rw [List.length_dropLast, hl]; rfl) fun c hc => h c ((List.dropLast_sublist cs).subset hc)
    have := h _ (List.getLast_mem hne)
    rw [Nat.pow_succ]
    omega
theorem num_fig {i : Int} (h : 0 ≤ i) : FigS (toString i : String) := fun c hc => by
  obtain ⟨m, rfl⟩ : ∃ m : Nat, i = (m : Int) := ⟨i.toNat, by omega⟩
  have e := PySem.W.KIN.signs_num m
  have hc' : c ∈ (PySem.Str.ofString (toString ((m : Nat) : Int))).cps.toList := hc
  rw [e] at hc'
  obtain ⟨x, hx, rfl⟩ := List.mem_map.mp hc'
  rw [fig_dig]
  have := Nat.isDigit_of_mem_toDigits (b := 10) (by decide) (by decide) hx
  simp [Char.isDigit] at this
  exact ⟨by have := this.1; exact this, by have := this.2; exact this⟩

def IsBoxN (n : Nat) (o : HO) : Prop := ∃ a c d t : Int, o = .lst [.int a, .int c, .int d, .int t] ∧ 0 ≤ c ∧ c < 2147483648 ∧ 0 ≤ d ∧ d < 2147483648 ∧ 0 ≤ t ∧ t ≤ n
def IsBox (o : HO) : Prop := IsBoxN 1000000 o
/-! ### draws from a thing that changes (IsBox: what it may be) -/
def SB (kb H : Hp) (b : Addr) (mt : List (Addr × HO)) : Prop := ∃ o : HO, IsBox o ∧ ST kb H ((b, o) :: mt)
section
variable {kb kb' H H1 : Hp} {b p : Addr} {mt : List (Addr × HO)} {o u : HO}
theorem SB.io (s : SB kb H b mt) : IsBox s.choose := s.choose_spec.1
theorem SB.e (s : SB kb H b mt) : Ex kb H := s.choose_spec.2.e
theorem SB.ext (s : SB kb H b mt) (e : Ex H H1) : SB kb H1 b mt := ⟨_, s.io, s.choose_spec.2.ext e⟩
theorem SB.new (s : SB kb H b mt) (hp : H p = none) (e : Ex H H1) (h1 : H1 p = some o) : SB (upd kb p o) H1 b mt := ⟨_, s.io, s.choose_spec.2.new hp e h1⟩
theorem SB.kbx (s : SB kb H b mt) (hp : H p = none) : Ex kb (upd kb p o) := s.choose_spec.2.kb_ex hp
theorem SB.newM (s : SB kb H b mt) (hp : H p = none) (e : Ex H H1) (h1 : H1 p = some o) : SB kb H1 b ((p, o) :: mt) :=
  ⟨_, s.io, (s.choose_spec.2.newM hp e h1).perm (List.Perm.swap ..)⟩
theorem SB.less (s : SB kb' H b mt) (e : Ex kb kb') : SB kb H b mt :=
  ⟨_, s.io, e.trans s.choose_spec.2.e, fun q hq => ⟨fresh_back e (s.choose_spec.2.m q hq).1, (s.choose_spec.2.m q hq).2⟩, s.choose_spec.2.d⟩
theorem SB.at2 {a : Addr} (s : SB kb H b ((a, o) :: mt)) : H a = some o := s.choose_spec.2.at2
theorem SB.set2 {a : Addr} (s : SB kb H b ((a, o) :: mt)) : SB kb (upd H a u) b ((a, u) :: mt) := ⟨_, s.io, s.choose_spec.2.set2⟩
theorem SB.fix {a : Addr} (s : SB kb H b ((a, o) :: mt)) : SB (upd kb a o) H b mt := ⟨_, s.io, (s.choose_spec.2.perm (List.Perm.swap ..)).fix⟩
theorem SB.fixx {a : Addr} (s : SB kb H b ((a, o) :: mt)) : Ex kb (upd kb a o) := Ex.new (s.choose_spec.2.m (a, o) (List.mem_cons_of_mem _ List.mem_cons_self)).1
theorem sb_of (io : IsBox o) (hb : H b = none) (e : Ex H H1) (h : H1 b = some o) : SB H H1 b [] :=
  ⟨o, io, e, fun q hq => by
    rcases List.mem_singleton.mp hq with rfl
    exact ⟨hb, h⟩, List.pairwise_singleton ..⟩
theorem SB.drop {x : Addr × HO} (s : SB kb H b (x :: mt)) : SB kb H b mt := by
  obtain ⟨n, io, s⟩ := s
  refine ⟨n, io, s.e, fun q hq => s.m q ?_, ?_⟩
  · rcases List.mem_cons.mp hq with rfl | h
    · exact List.mem_cons_self
    · exact List.mem_cons_of_mem _ (List.mem_cons_of_mem _ h)
  · have d := List.pairwise_cons.mp s.d
    exact List.pairwise_cons.mpr ⟨fun q hq => d.1 q (List.mem_cons_of_mem _ hq), (List.pairwise_cons.mp d.2).2⟩
end
def spTake : Sp := fun vs H Q _ => ∃ (b : Addr) (k : Int) (kb : Hp) (mt : List (Addr × HO)), vs = [.ref b, .int k] ∧ 0 < k ∧ k.natAbs.log2 < 9000 ∧ SB kb H b mt ∧ ∀ (r : Int) H', 0 ≤ r → r < k → SB kb H' b mt → Q (.int r) H'
section
variable {K : PySem.W.Frag} {σ : L2.St} {kb H : Hp} {b : Addr} {mt : List (Addr × HO)} {Q : VK} {ta tb te : TE} {tl : TA} {r : R2} {v : V} {D : Ends} {tz tu tw : TS} {t : TT}
/-! the steps, one at a time -/
theorem q_asgP {i : Nat} (h : te σ H (fun x H1 => tz D (σ.set i (some x)) H1)) : tSeq (tAsg te (gName i)) tz D σ H := h
theorem s_asgP {i : Nat} (h : te σ H (fun x H1 => D.nx (σ.set i (some x)) H1)) : tAsg te (gName i) D σ H := h
theorem s_asgE {g : TG} (h : te σ H fun x H1 => g x σ H1 D.nx) : tAsg te g D σ H := h
theorem s_retP (h : te σ H D.rt) : tRet te D σ H := h
theorem opP (h : ta σ H fun x H1 => tb σ H1 fun y H2 => r x y H2 Q) : tOp r ta tb σ H Q := h
theorem opcP (h : tb σ H fun y H2 => r v y H2 Q) : tOp r (tC v) tb σ H Q := h
theorem q_ifP (h : t σ H fun c H1 => if c = true then tu { D with nx := tz D } σ H1 else tw { D with nx := tz D } σ H1) : tSeq (tIfS t tu tw) tz D σ H := h
theorem s_ifP (h : t σ H fun c H1 => if c = true then tu D σ H1 else tw D σ H1) : tIfS t tu tw D σ H := h
theorem tk {i : Nat} {n : Int} (hσ : σ[i]? = some (some (.ref b))) (h0 : 0 < n) (hl : n.natAbs.log2 < 9000) (sb : SB kb H b mt) (k : ∀ (r : Int) H', 0 ≤ r → r < n → SB kb H' b mt → Q (.int r) H') :
    tCall spTake [] E0 (tCons (tVar i) (tCons (tC (.int n)) tNil)) σ H Q := ⟨_, hσ, b, n, kb, mt, rfl, h0, hl, sb, k⟩
theorem tkE {i : Nat} {n : Int} (hσ : σ[i]? = some (some (.ref b))) (he : Ev te σ H (.int n)) (h0 : 0 < n) (hl : n.natAbs.log2 < 9000) (sb : SB kb H b mt) (k : ∀ (r : Int) H', 0 ≤ r → r < n → SB kb H' b mt → Q (.int r) H') :
    tCall spTake [] E0 (tCons (tVar i) (tCons te tNil)) σ H Q := ⟨_, hσ, he H (Ex.refl H) _ fun H1 e1 => ⟨b, n, kb, mt, rfl, h0, hl, sb.ext e1, k⟩⟩
theorem atI_in {α : Type} {xs : List α} {r : Int} (h0 : 0 ≤ r) (h1 : r < xs.length) : ∃ x, atI xs r = some x ∧ x ∈ xs := by
  obtain ⟨n, rfl⟩ : ∃ n : Nat, r = (n : Int) := ⟨r.toNat, by omega⟩
  have hn : n < xs.length := by omega
  exact ⟨xs[n], atI_nat (List.getElem?_eq_getElem hn), List.getElem_mem hn⟩
/-- a sign of a text that is written, by a draw -/
theorem pick {i : Nat} {s : Str} {n : Int} (hσ : σ[i]? = some (some (.ref b))) (hn : ((sg s).length : Int) = n) (h0 : 0 < n) (hl : n.natAbs.log2 < 9000) (hz : s.length ≤ 100000) (sb : SB kb H b mt) (k : ∀ c H', c ∈ sg s → SB kb H' b mt → Q (.str ⟨#[c]⟩) H') :
    tOp rIxS (tC (.str s)) (tCall spTake [] E0 (tCons (tVar i) (tCons (tC (.int n)) tNil))) σ H Q :=
  opcP (tk hσ h0 hl sb fun r H' h1 h2 s' => by
    obtain ⟨c, hc, hm⟩ := atI_in (xs := sg s) h1 (by omega)
    exact ⟨s, r, c, rfl, rfl, sz_of hz, hc, k c H' hm s'⟩)
/-- a number of a list that is written, by a draw -/
theorem table {i : Nat} {xs : List Int} {n : Int} (hσ : σ[i]? = some (some (.ref b))) (hn : (xs.length : Int) = n) (h0 : 0 < n) (hl : n.natAbs.log2 < 9000) (hx : EvA tl σ H (ii xs)) (hz : xs.length ≤ 100000) (sb : SB kb H b mt) (k : ∀ x H', x ∈ xs → SB kb H' b mt → Q (.int x) H') :
    tOp (rIxL K) (tLst tl) (tCall spTake [] E0 (tCons (tVar i) (tCons (tC (.int n)) tNil))) σ H Q :=
  el_lst hx (by rw [ii_len]; exact hz) H (Ex.refl H) _ fun p H1 hp e1 h1 => tk hσ h0 hl (sb.new hp e1 h1) fun r H2 g1 g2 s2 => by
    obtain ⟨x, hc, hm⟩ := atI_in (xs := xs) g1 (by omega)
    obtain ⟨m, rfl⟩ : ∃ m : Nat, r = (m : Int) := ⟨r.toNat, by omega⟩
    have hlt : m < xs.length := by omega
    refine ⟨p, ii xs, (m : Int), .int (xs.getD m 0), rfl, rfl, sq_of (s2.e _ _ upd_same), atI_nat (ii_get hlt), k _ H2 ?_ (s2.less (sb.kbx hp))⟩
    rw [List.getD_eq_getElem?_getD, List.getElem?_eq_getElem hlt]
    exact List.getElem_mem hlt
theorem dec_int {i j : Int} : decide (V.int i = V.int j) = decide (i = j) := by
  by_cases h : i = j
  · rw [h, decide_eq_true rfl, decide_eq_true rfl]
  · rw [decide_eq_false h, decide_eq_false (fun z => h (V.int.inj z))]
/-- if a draw is so -/
theorem ifTk {i : Nat} {n m : Int} (hσ : σ[i]? = some (some (.ref b))) (h0 : 0 < n) (hl : n.natAbs.log2 < 9000) (sb : SB kb H b mt) (k1 : ∀ H', SB kb H' b mt → tu D σ H') (k2 : ∀ H', SB kb H' b mt → tw D σ H') :
    tIfS (tTest (tOp rEq (tCall spTake [] E0 (tCons (tVar i) (tCons (tC (.int n)) tNil))) (tC (.int m)))) tu tw D σ H :=
  tk hσ h0 hl sb fun r H' h1 h2 s' => ⟨rfl, _, rfl, by
    rw [dec_int]
    by_cases h : r = m
    · rw [decide_eq_true h]; exact k1 H' s'
    · rw [decide_eq_false h]; exact k2 H' s'⟩
end
theorem log_small {k : Int} (h0 : 0 ≤ k) (h : k < 2 ^ 200) : k.natAbs.log2 < 9000 := by
  have h1 : k.natAbs < 2 ^ 200 := by omega
  exact Nat.lt_of_lt_of_le (PySem.Flt.log2_lt_of (by decide) h1) (by decide)
theorem len_one {c : Nat} : (⟨#[c]⟩ : Str).length = 1 := rfl
theorem fig_of9 {c : Nat} (h : c ∈ sg ("123456789" : Str)) : c ∈ sg sFIG ∧ c ≠ 48 := by
  rw [show sg ("123456789" : Str) = [49, 50, 51, 52, 53, 54, 55, 56, 57] by decide +kernel] at h
  rw [fig_dig]
  simp only [List.mem_cons, List.not_mem_nil, or_false] at h
  omega

/-! ### the box: two numbers and a count -/
abbrev one (c : Nat) : Str := ⟨#[c]⟩
theorem join_sg : ∀ ts : List Str, sg (Str.join "" ts) = (ts.map sg).flatten
  | [] => by decide +kernel
  | [x] => by
    show sg x = _
    simp
  | x :: y :: r => by
    show sg (x ++ "" ++ Str.join "" (y :: r)) = _
    rw [sg_app, sg_app, join_sg (y :: r), show sg ("" : Str) = [] by decide +kernel, List.append_nil]
    rfl
theorem tjoin_sg (ts : List Str) : sg (Txt.join "" ts) = (ts.map sg).flatten := by
  unfold Txt.join
  rw [StrLaws.glued_eq_join]
  exact join_sg ts
theorem flat_ones : ∀ cs : List Nat, ((cs.map one).map sg).flatten = cs
  | [] => rfl
  | c :: cs => by
    rw [List.map_cons, List.map_cons, List.flatten_cons, flat_ones cs]
    rfl
theorem join_ones (cs : List Nat) : sg (Txt.join "" (cs.map one)) = cs := by
  rw [tjoin_sg, flat_ones]
theorem sum_ones : ∀ cs : List Nat, ((cs.map one).map (·.length)).sum = cs.length
  | [] => rfl
  | c :: cs => by
    rw [List.map_cons, List.map_cons, List.sum_cons, sum_ones cs, List.length_cons]
    show 1 + _ = _
    omega
theorem str_dig {r : Int} (h0 : 0 ≤ r) (h1 : r < 10) : ∃ c, (Str.ofString (toString r)) = one c ∧ c ∈ sg sFIG ∧ (1 ≤ r → c ≠ 48) := by
  obtain ⟨n, rfl⟩ : ∃ n : Nat, r = (n : Int) := ⟨r.toNat, by omega⟩
  have h : ∀ n : Nat, n < 10 → Str.ofString (toString (n : Int)) = one (48 + n) := by decide +kernel
  exact ⟨48 + n, h n (by omega), fig_dig.mpr (by omega), fun _ => by omega⟩

/-! ### deep values, and what is known of the heap: facts that stay (Φ), cells that may change (mt) -/
inductive W where
  | i (n : Int) | b (c : Bool) | n | s (t : Str) | l (ws : List W) | t (ws : List W) | m (x : MK) | q (ns : List Int)
def W.o : Option Int → W
  | none => .n
  | some z => .i z
mutual
inductive Rep (K : PySem.W.Frag) (C : Addr) (kb : Hp) : V → W → Prop
  | i (n : Int) : Rep K C kb (.int n) (.i n)
  | b (c : Bool) : Rep K C kb (.bl c) (.b c)
  | n : Rep K C kb .non .n
  | s (t : Str) : Rep K C kb (.str t) (.s t)
  | l {p : Addr} {vs : List V} {ws : List W} (h : kb p = some (.lst vs)) (r : RepL K C kb vs ws) : Rep K C kb (.ref p) (.l ws)
  | t {p : Addr} {vs : List V} {ws : List W} (h : kb p = some (.tup vs)) (r : RepL K C kb vs ws) : Rep K C kb (.ref p) (.t ws)
  | m {x : Addr} {k : MK} (h : MarkAt C kb x k) (ok : k.Ok) : Rep K C kb (.ref x) (.m k)
  | q {p : Addr} {ns : List Int} (h : SqL K kb p (ns.map V.int)) : Rep K C kb (.ref p) (.q ns)
inductive RepL (K : PySem.W.Frag) (C : Addr) (kb : Hp) : List V → List W → Prop
  | nil : RepL K C kb [] []
  | cons {v : V} {w : W} {vs : List V} {ws : List W} (h : Rep K C kb v w) (r : RepL K C kb vs ws) : RepL K C kb (v :: vs) (w :: ws)
end
section
variable {K : PySem.W.Frag} {C : Addr} {kb kb' H H1 : Hp} {v : V} {w : W} {vs us : List V} {ws xs : List W} {Φ Ψ : List (V × W)} {mt nt : List (Addr × (HO → Prop))} {p a : Addr}
theorem Rep.ex (e : Ex kb kb') (h : Rep K C kb v w) : Rep K C kb' v w :=
  Rep.rec (motive_1 := fun v w _ => Rep K C kb' v w) (motive_2 := fun vs ws _ => RepL K C kb' vs ws) (fun n => .i n) (fun c => .b c) .n (fun t => .s t) (fun h _ r => .l (e _ _ h) r) (fun h _ r => .t (e _ _ h) r) (fun h ok => .m (h.ex e) ok) (fun h => .q (ex_l e h)) .nil (fun _ _ h r => .cons h r) h
theorem RepL.ex (e : Ex kb kb') (h : RepL K C kb vs ws) : RepL K C kb' vs ws :=
  RepL.rec (motive_1 := fun v w _ => Rep K C kb' v w) (motive_2 := fun vs ws _ => RepL K C kb' vs ws) (fun n => .i n) (fun c => .b c) .n (fun t => .s t) (fun h _ r => .l (e _ _ h) r) (fun h _ r => .t (e _ _ h) r) (fun h ok => .m (h.ex e) ok) (fun h => .q (ex_l e h)) .nil (fun _ _ h r => .cons h r) h
/-- known of a value: what it is by itself, or by the facts -/
inductive Kn (Φ : List (V × W)) : V → W → Prop
  | i (n : Int) : Kn Φ (.int n) (.i n)
  | b (c : Bool) : Kn Φ (.bl c) (.b c)
  | n : Kn Φ .non .n
  | s (t : Str) : Kn Φ (.str t) (.s t)
  | o (z : Option Int) : Kn Φ (oi z) (W.o z)
  | f {v : V} {w : W} (h : (v, w) ∈ Φ) : Kn Φ v w
inductive KnL (Φ : List (V × W)) : List V → List W → Prop
  | nil : KnL Φ [] []
  | cons {v : V} {w : W} {vs : List V} {ws : List W} (h : Kn Φ v w) (r : KnL Φ vs ws) : KnL Φ (v :: vs) (w :: ws)
  | is {α : Type} (ns : List α) (f : α → V) (g : α → W) (h : ∀ x ∈ ns, Kn Φ (f x) (g x)) : KnL Φ (ns.map f) (ns.map g)
  | app {vs us : List V} {ws xs : List W} (h : KnL Φ vs ws) (r : KnL Φ us xs) : KnL Φ (vs ++ us) (ws ++ xs)
theorem Kn.mono (hs : ∀ q ∈ Φ, q ∈ Ψ) (h : Kn Φ v w) : Kn Ψ v w := by
  cases h with
  | i n => exact .i n
  | b c => exact .b c
  | n => exact .n
  | s t => exact .s t
  | o z => exact .o z
  | f h => exact .f (hs _ h)
theorem KnL.mono (hs : ∀ q ∈ Φ, q ∈ Ψ) (h : KnL Φ vs ws) : KnL Ψ vs ws := by
  induction h with
  | nil => exact .nil
  | cons h r ih => exact .cons (h.mono hs) ih
  | is ns f g h => exact .is ns f g fun x hx => (h x hx).mono hs
  | app h r ih1 ih2 => exact .app ih1 ih2
theorem RepL.map {α : Type} (f : α → V) (g : α → W) : ∀ ns : List α, (∀ x ∈ ns, Rep K C kb (f x) (g x)) → RepL K C kb (ns.map f) (ns.map g)
  | [], _ => .nil
  | x :: ns, h => .cons (h x List.mem_cons_self) (RepL.map f g ns fun y hy => h y (List.mem_cons_of_mem _ hy))
theorem RepL.app : ∀ {vs : List V} {ws : List W}, RepL K C kb vs ws → RepL K C kb us xs → RepL K C kb (vs ++ us) (ws ++ xs)
  | _, _, .nil, r => r
  | _, _, .cons h q, r => .cons h (RepL.app q r)
theorem RepL.len : ∀ {vs : List V} {ws : List W}, RepL K C kb vs ws → vs.length = ws.length
  | _, _, .nil => rfl
  | _, _, .cons h q => congrArg (· + 1) (RepL.len q)
theorem RepL.get : ∀ {vs : List V} {ws : List W} (j : Nat) (w : W), RepL K C kb vs ws → ws[j]? = some w → ∃ v, vs[j]? = some v ∧ Rep K C kb v w
  | _, _, j, w, .nil, h => by simp at h
  | _, _, 0, w, .cons h q, e => ⟨_, rfl, by cases e; exact h⟩
  | _, _, j + 1, w, .cons (vs := vs) (ws := ws) h q, e => RepL.get (vs := vs) (ws := ws) j w q e
/-- no tuple: what may change -/
def NT (o : HO) : Prop := ∀ xs, o ≠ .tup xs
theorem nt_l {xs : List V} : NT (.lst xs) := fun _ h => nomatch h
structure S (K : PySem.W.Frag) (C : Addr) (H : Hp) (Φ : List (V × W)) (mt : List (Addr × (HO → Prop))) : Prop where
  kb : ∃ kb, Ex kb H ∧ (∀ q ∈ Φ, Rep K C kb q.1 q.2) ∧ ∀ q ∈ mt, kb q.1 = none ∧ ∃ o, H q.1 = some o ∧ q.2 o ∧ NT o
  d : mt.Pairwise fun q r => q.1 ≠ r.1
theorem Kn.rep (F : ∀ q ∈ Φ, Rep K C kb q.1 q.2) (h : Kn Φ v w) : Rep K C kb v w := by
  cases h with
  | i n => exact .i n
  | b c => exact .b c
  | n => exact .n
  | s t => exact .s t
  | o z => cases z with
    | none => exact (Rep.n : Rep K C kb .non .n)
    | some i => exact (Rep.i i : Rep K C kb (.int i) (.i i))
  | f h => exact F _ h
theorem KnL.rep (F : ∀ q ∈ Φ, Rep K C kb q.1 q.2) (h : KnL Φ vs ws) : RepL K C kb vs ws := by
  induction h with
  | nil => exact .nil
  | cons h r ih => exact .cons (h.rep F) ih
  | is ns f g h => exact RepL.map f g ns fun x hx => (h x hx).rep F
  | app h r ih1 ih2 => exact ih1.app ih2
theorem S.ext (s : S K C H Φ mt) (e : Ex H H1) : S K C H1 Φ mt := by
  obtain ⟨⟨kb, h1, h2, h3⟩, d⟩ := s
  exact ⟨⟨kb, h1.trans e, h2, fun q hq => ⟨(h3 q hq).1, by obtain ⟨o, h4, h5⟩ := (h3 q hq).2; exact ⟨o, e _ _ h4, h5⟩⟩⟩, d⟩
theorem S.to (s : S K C H Φ mt) (h : ∀ q ∈ Ψ, q ∈ Φ) (h' : nt.Sublist mt) : S K C H Ψ nt := by
  obtain ⟨⟨kb, h1, h2, h3⟩, d⟩ := s
  exact ⟨⟨kb, h1, fun q hq => h2 q (h q hq), fun q hq => h3 q (h'.subset hq)⟩, d.sublist h'⟩
theorem S.rep (s : S K C H Φ mt) (h : Kn Φ v w) : Rep K C H v w := by
  obtain ⟨⟨kb, h1, h2, h3⟩, d⟩ := s
  exact (h.rep h2).ex h1
theorem S.repL (s : S K C H Φ mt) (h : KnL Φ vs ws) : RepL K C H vs ws := by
  obtain ⟨⟨kb, h1, h2, h3⟩, d⟩ := s
  exact (h.rep h2).ex h1
/-- a new thing that stays -/
theorem S.addO {o : HO} (s : S K C H Φ mt) (hp : H p = none) (e : Ex H H1) (h1 : H1 p = some o) (hr : ∀ kb, kb p = some o → (∀ q ∈ Φ, Rep K C kb q.1 q.2) → Rep K C kb (.ref p) w) : S K C H1 ((.ref p, w) :: Φ) mt := by
  obtain ⟨⟨kb, g1, g2, g3⟩, d⟩ := s
  have ek : Ex kb (upd kb p o) := Ex.new (fresh_back g1 hp)
  refine ⟨⟨upd kb p o, grow g1 hp e h1, fun q hq => ?_, fun q hq => ?_⟩, d⟩
  · rcases List.mem_cons.mp hq with rfl | hq
    · exact hr _ upd_same fun q hq => (g2 q hq).ex ek
    · exact (g2 q hq).ex ek
  · obtain ⟨n, o, h4, h5⟩ := g3 q hq
    exact ⟨kb_none n h4 hp, o, e _ _ h4, h5⟩
theorem S.addL (s : S K C H Φ mt) (hp : H p = none) (e : Ex H H1) (h1 : H1 p = some (.lst vs)) (k : KnL Φ vs ws) : S K C H1 ((.ref p, .l ws) :: Φ) mt :=
  s.addO hp e h1 fun kb h F => .l h (k.rep F)
theorem S.addT (s : S K C H Φ mt) (hp : H p = none) (e : Ex H H1) (h1 : H1 p = some (.tup vs)) (k : KnL Φ vs ws) : S K C H1 ((.ref p, .t ws) :: Φ) mt :=
  s.addO hp e h1 fun kb h F => .t h (k.rep F)
/-- a new thing that may change -/
theorem S.addM {o : HO} {P : HO → Prop} (s : S K C H Φ mt) (hp : H p = none) (e : Ex H H1) (h1 : H1 p = some o) (hP : P o) (nt : NT o := by exact nt_l) : S K C H1 Φ ((p, P) :: mt) := by
  obtain ⟨⟨kb, g1, g2, g3⟩, d⟩ := s
  refine ⟨⟨kb, g1.trans e, g2, fun q hq => ?_⟩, List.pairwise_cons.mpr ⟨fun q hq => ?_, d⟩⟩
  · rcases List.mem_cons.mp hq with rfl | hq
    · exact ⟨fresh_back g1 hp, o, h1, hP, nt⟩
    · obtain ⟨n, o, h4, h5⟩ := g3 q hq
      exact ⟨n, o, e _ _ h4, h5⟩
  · obtain ⟨n, o, h4, h5⟩ := g3 q hq
    exact (ne_of_none h4 hp).symm
inductive SetM (a : Addr) (P : HO → Prop) : List (Addr × (HO → Prop)) → List (Addr × (HO → Prop)) → Prop
  | hd {Q : HO → Prop} {mt : List (Addr × (HO → Prop))} : SetM a P ((a, Q) :: mt) ((a, P) :: mt)
  | tl {x : Addr × (HO → Prop)} {mt nt : List (Addr × (HO → Prop))} (h : SetM a P mt nt) : SetM a P (x :: mt) (x :: nt)
theorem SetM.map {P : HO → Prop} (h : SetM a P mt nt) : mt.map (·.1) = nt.map (·.1) := by
  induction h with
  | hd => rfl
  | tl h ih => rw [List.map_cons, List.map_cons, ih]
theorem SetM.has {P : HO → Prop} (h : SetM a P mt nt) : ∃ R, (a, R) ∈ mt := by
  induction h with
  | hd => exact ⟨_, List.mem_cons_self⟩
  | tl h ih => obtain ⟨R, h⟩ := ih; exact ⟨R, List.mem_cons_of_mem _ h⟩
theorem SetM.mem {P : HO → Prop} (h : SetM a P mt nt) (d : mt.Pairwise fun q r => q.1 ≠ r.1) : ∀ q ∈ nt, q = (a, P) ∨ (q ∈ mt ∧ q.1 ≠ a) := by
  induction h with
  | hd =>
    intro q hq
    rcases List.mem_cons.mp hq with h | h
    · exact .inl h
    · exact .inr ⟨List.mem_cons_of_mem _ h, ((List.pairwise_cons.mp d).1 q h).symm⟩
  | tl h ih =>
    intro q hq
    have z := List.pairwise_cons.mp d
    rcases List.mem_cons.mp hq with e | e
    · subst e
      obtain ⟨R, hR⟩ := h.has
      exact .inr ⟨List.mem_cons_self, z.1 _ hR⟩
    · exact (ih z.2 q e).imp id fun w => ⟨List.mem_cons_of_mem _ w.1, w.2⟩
theorem pw_map : ∀ mt : List (Addr × (HO → Prop)), mt.Pairwise (fun q r => q.1 ≠ r.1) ↔ (mt.map (·.1)).Pairwise (· ≠ ·) := fun mt => by rw [List.pairwise_map]
theorem S.set {o : HO} {P : HO → Prop} (s : S K C H Φ mt) (h : SetM a P mt nt) (hP : P o) (nt' : NT o := by exact nt_l) : S K C (upd H a o) Φ nt := by
  obtain ⟨⟨kb, g1, g2, g3⟩, d⟩ := s
  have d' : nt.Pairwise fun q r => q.1 ≠ r.1 := by rw [pw_map] at d ⊢; rw [← h.map]; exact d
  obtain ⟨R, hR⟩ := h.has
  refine ⟨⟨kb, Ex.mut g1 (g3 _ hR).1, g2, fun q hq => ?_⟩, d'⟩
  rcases h.mem d q hq with rfl | ⟨h, ha⟩
  · exact ⟨(g3 _ hR).1, o, upd_same, hP, nt'⟩
  · obtain ⟨n, o, h4, h5⟩ := g3 q h
    exact ⟨n, o, by rw [upd_ne ha]; exact h4, h5⟩
/-- a cell is laid down: it stays from here on -/
inductive RmM (a : Addr) (P : HO → Prop) : List (Addr × (HO → Prop)) → List (Addr × (HO → Prop)) → Prop
  | hd {mt : List (Addr × (HO → Prop))} : RmM a P ((a, P) :: mt) mt
  | tl {x : Addr × (HO → Prop)} {mt nt : List (Addr × (HO → Prop))} (h : RmM a P mt nt) : RmM a P (x :: mt) (x :: nt)
theorem RmM.sub {P : HO → Prop} (h : RmM a P mt nt) : nt.Sublist mt := by
  induction h with
  | hd => exact List.sublist_cons_self ..
  | tl h ih => exact ih.cons_cons _
theorem RmM.has {P : HO → Prop} (h : RmM a P mt nt) : (a, P) ∈ mt := by
  induction h with
  | hd => exact List.mem_cons_self
  | tl h ih => exact List.mem_cons_of_mem _ ih
theorem RmM.ne {P : HO → Prop} (h : RmM a P mt nt) (d : mt.Pairwise fun q r => q.1 ≠ r.1) : ∀ q ∈ nt, q.1 ≠ a := by
  induction h with
  | hd => intro q hq; exact ((List.pairwise_cons.mp d).1 q hq).symm
  | tl h ih =>
    intro q hq
    have z := List.pairwise_cons.mp d
    rcases List.mem_cons.mp hq with rfl | hq
    · exact z.1 _ h.has
    · exact ih z.2 q hq
theorem S.fixO {o : HO} (s : S K C H Φ mt) (h : RmM a (Eq o) mt nt) (hr : ∀ kb, kb a = some o → (∀ q ∈ Φ, Rep K C kb q.1 q.2) → Rep K C kb (.ref a) w) : S K C H ((.ref a, w) :: Φ) nt := by
  obtain ⟨⟨kb, g1, g2, g3⟩, d⟩ := s
  obtain ⟨n, o', h4, rfl, _⟩ := g3 _ h.has
  have ek : Ex kb (upd kb a o) := Ex.new n
  refine ⟨⟨upd kb a o, fun b u q => ?_, fun q hq => ?_, fun q hq => ?_⟩, d.sublist h.sub⟩
  · by_cases hb : b = a
    · subst hb; rw [upd_same] at q; cases q; exact h4
    · rw [upd_ne hb] at q; exact g1 b u q
  · rcases List.mem_cons.mp hq with rfl | hq
    · exact hr _ upd_same fun q hq => (g2 q hq).ex ek
    · exact (g2 q hq).ex ek
  · obtain ⟨n1, o1, h5, h6⟩ := g3 q (h.sub.subset hq)
    exact ⟨by rw [upd_ne (h.ne d q hq)]; exact n1, o1, h5, h6⟩
theorem S.fixL (s : S K C H Φ mt) (h : RmM a (Eq (.lst vs)) mt nt) (k : KnL Φ vs ws) : S K C H ((.ref a, .l ws) :: Φ) nt :=
  s.fixO h fun kb h F => .l h (k.rep F)
theorem S.at {o : HO} (s : S K C H Φ mt) (h : (a, Eq o) ∈ mt) : H a = some o := by
  obtain ⟨⟨kb, g1, g2, g3⟩, d⟩ := s
  obtain ⟨n, o', h4, rfl, _⟩ := g3 _ h
  exact h4
theorem S.box {P : HO → Prop} (s : S K C H Φ mt) (h : (a, P) ∈ mt) : ∃ o, H a = some o ∧ P o := by
  obtain ⟨⟨kb, g1, g2, g3⟩, d⟩ := s
  obtain ⟨n, o, h4, h5, _⟩ := g3 _ h
  exact ⟨o, h4, h5⟩
end
section
variable {K : PySem.W.Frag} {C : Addr} {H : Hp} {Φ : List (V × W)} {mt nt : List (Addr × (HO → Prop))} {a : Addr} {P : HO → Prop}
theorem S.perm (s : S K C H Φ mt) (h : mt.Perm nt) : S K C H Φ nt := by
  obtain ⟨⟨kb, h1, h2, h3⟩, d⟩ := s
  exact ⟨⟨kb, h1, h2, fun q hq => h3 q (h.mem_iff.mpr hq)⟩, d.perm h fun z => z.symm⟩
/-- one cell told first -/
theorem S.front (s : S K C H Φ mt) (h : (a, P) ∈ mt) : ∃ nt, S K C H Φ ((a, P) :: nt) ∧ ∀ H' Ψ, S K C H' Ψ ((a, P) :: nt) → S K C H' Ψ mt := by
  obtain ⟨m1, m2, rfl⟩ := List.append_of_mem h
  exact ⟨m1 ++ m2, s.perm List.perm_middle, fun H' Ψ z => z.perm List.perm_middle.symm⟩
theorem S.sharp (s : S K C H Φ ((a, P) :: mt)) : ∃ o, P o ∧ S K C H Φ ((a, Eq o) :: mt) := by
  obtain ⟨⟨kb, h1, h2, h3⟩, d⟩ := s
  obtain ⟨n, o, h4, h5, h6⟩ := h3 _ List.mem_cons_self
  refine ⟨o, h5, ⟨kb, h1, h2, fun q hq => ?_⟩, ?_⟩
  · rcases List.mem_cons.mp hq with rfl | hq
    · exact ⟨n, o, h4, rfl, h6⟩
    · exact h3 q (List.mem_cons_of_mem _ hq)
  · have z := List.pairwise_cons.mp d
    exact List.pairwise_cons.mpr ⟨fun q hq => z.1 q hq, z.2⟩
theorem S.blur {o : HO} (s : S K C H Φ ((a, Eq o) :: mt)) (hP : P o) : S K C H Φ ((a, P) :: mt) := by
  obtain ⟨⟨kb, h1, h2, h3⟩, d⟩ := s
  obtain ⟨n, o, h4, rfl, h6⟩ := h3 _ List.mem_cons_self
  refine ⟨⟨kb, h1, h2, fun q hq => ?_⟩, ?_⟩
  · rcases List.mem_cons.mp hq with rfl | hq
    · exact ⟨n, _, h4, hP, h6⟩
    · exact h3 q (List.mem_cons_of_mem _ hq)
  · have z := List.pairwise_cons.mp d
    exact List.pairwise_cons.mpr ⟨fun q hq => z.1 q hq, z.2⟩
/-- a new mark -/
theorem S.addMark {x : Addr} {m : MK} {H1 : Hp} (s : S K C H Φ mt) (hx : H x = none) (e : Ex H H1) (h : MarkAt C H1 x m) (ok : m.Ok) : S K C H1 ((.ref x, .m m) :: Φ) mt := by
  obtain ⟨⟨kb, g1, g2, g3⟩, d⟩ := s
  obtain ⟨dx, pa, ma, h1, h2, h3⟩ := h
  have g := g1.trans e
  refine ⟨⟨fun b => if b = x ∨ b = pa ∨ b = ma then H1 b else kb b, fun b o hb => ?_, fun q hq => ?_, fun q hq => ?_⟩, d⟩
  · dsimp only at hb
    split at hb
    · exact hb
    · exact g b o hb
  · have ek : Ex kb fun b => if b = x ∨ b = pa ∨ b = ma then H1 b else kb b := fun b o hb => by
      dsimp only
      split
      · exact g b o hb
      · exact hb
    rcases List.mem_cons.mp hq with rfl | hq
    · exact .m ⟨dx, pa, ma, (if_pos (.inl rfl)).trans h1, (if_pos (.inr (.inl rfl))).trans h2, (if_pos (.inr (.inr rfl))).trans h3⟩ ok
    · exact (g2 q hq).ex ek
  · obtain ⟨n, o, h4, h5, h6⟩ := g3 q hq
    refine ⟨?_, o, e _ _ h4, h5, h6⟩
    dsimp only
    rw [if_neg ?_]
    · exact n
    · rintro (hz | hz | hz)
      · rw [hz, hx] at h4; cases h4
      · have := e _ _ h4; rw [hz, h2] at this; cases this; exact h6 _ rfl
      · have := e _ _ h4; rw [hz, h3] at this; cases this; exact h6 _ rfl
end

/-! ### steps without side conditions, found by the class search -/
class St1 (G : Prop) (G' : outParam Prop) : Prop where
  h : G' → G
class Stp (G : Prop) (G' : outParam Prop) : Prop where
  h : G' → G
instance (priority := low) {G : Prop} : Stp G G := ⟨id⟩
instance {G G1 G2 : Prop} [a : St1 G G1] [b : Stp G1 G2] : Stp G G2 := ⟨fun h => a.h (b.h h)⟩
theorem st_go {G G1 G2 : Prop} [a : St1 G G1] [b : Stp G1 G2] (h : G2) : G := a.h (b.h h)
class At {α : Type} (xs : List (Option α)) (i : Nat) (v : outParam α) : Prop where
  h : xs[i]? = some (some v)
instance {α : Type} {v : α} {xs : List (Option α)} : At (some v :: xs) 0 v := ⟨rfl⟩
instance {α : Type} {x : Option α} {v : α} {xs : List (Option α)} {i : Nat} [q : At xs i v] : At (x :: xs) (i + 1) v := ⟨by rw [List.getElem?_cons_succ]; exact q.h⟩
/-! ### steps, each with what is wanted told by itself -/
class SetAt {α : Type} (xs : List α) (j : Nat) (v : α) (ys : outParam (List α)) : Prop where
  h : xs.set j v = ys
instance {α : Type} {x v : α} {xs : List α} : SetAt (x :: xs) 0 v (v :: xs) := ⟨rfl⟩
instance {α : Type} {x v : α} {xs ys : List α} {j : Nat} [q : SetAt xs j v ys] : SetAt (x :: xs) (j + 1) v (x :: ys) := ⟨by rw [List.set_cons_succ, q.h]⟩
class Wp (σ : L2.St) (vs : List Nat) (σ0 : outParam L2.St) : Prop where
  h : wipe σ vs = σ0
instance {σ : L2.St} : Wp σ [] σ := ⟨rfl⟩
instance {σ σ1 σ0 : L2.St} {v : Nat} {vs : List Nat} [q : Wp σ vs σ1] [r : SetAt σ1 v none σ0] : Wp σ (v :: vs) σ0 := ⟨by show (wipe σ vs).set v none = σ0; rw [q.h, r.h]⟩
class Ix (i : Int) (j : outParam Nat) : Prop where
  h : i = (j : Int)
instance : Ix 0 0 := ⟨rfl⟩
instance : Ix 1 1 := ⟨rfl⟩
instance : Ix 2 2 := ⟨rfl⟩
instance : Ix 3 3 := ⟨rfl⟩
instance : Ix 4 4 := ⟨rfl⟩
instance : Ix 5 5 := ⟨rfl⟩
instance : Ix 6 6 := ⟨rfl⟩
instance : Ix 7 7 := ⟨rfl⟩
instance {j : Nat} : Ix (j : Int) j := ⟨rfl⟩
section
variable {K : PySem.W.Frag} {C : Addr} {σ : L2.St} {H : Hp} {Φ : List (V × W)} {mt nt : List (Addr × (HO → Prop))} {Q : VK} {D : Ends} {tz tu tw : TS} {ta tb tc te to : TE} {t u : TT} {tl tr tk : TA} {r r' : R2} {v x y z : V} {vs us xs : List V} {ws : List W} {w : W} {g : TG} {p a : Addr}
theorem g_seqA {i : Nat} (h : te σ H fun x H1 => tz D (σ.set i (some x)) H1) : tSeq (tAsg te (gName i)) tz D σ H := h
instance {i : Nat} : St1 (tSeq (tAsg te (gName i)) tz D σ H) (te σ H fun x H1 => tz D (σ.set i (some x)) H1) := ⟨g_seqA⟩
theorem g_asgA {i : Nat} (h : te σ H fun x H1 => D.nx (σ.set i (some x)) H1) : tAsg te (gName i) D σ H := h
instance {i : Nat} : St1 (tAsg te (gName i) D σ H) (te σ H fun x H1 => D.nx (σ.set i (some x)) H1) := ⟨g_asgA⟩
theorem g_seqG (h : te σ H fun x H1 => g x σ H1 (tz D)) : tSeq (tAsg te g) tz D σ H := h
instance (priority := low) : St1 (tSeq (tAsg te g) tz D σ H) (te σ H fun x H1 => g x σ H1 (tz D)) := ⟨g_seqG⟩
theorem g_asgG (h : te σ H fun x H1 => g x σ H1 D.nx) : tAsg te g D σ H := h
instance (priority := low) : St1 (tAsg te g D σ H) (te σ H fun x H1 => g x σ H1 D.nx) := ⟨g_asgG⟩
theorem g_seqI (h : t σ H fun c H1 => if c = true then tu { D with nx := tz D } σ H1 else tw { D with nx := tz D } σ H1) : tSeq (tIfS t tu tw) tz D σ H := h
instance : St1 (tSeq (tIfS t tu tw) tz D σ H) (t σ H fun c H1 => if c = true then tu { D with nx := tz D } σ H1 else tw { D with nx := tz D } σ H1) := ⟨g_seqI⟩
theorem g_if (h : t σ H fun c H1 => if c = true then tu D σ H1 else tw D σ H1) : tIfS t tu tw D σ H := h
instance : St1 (tIfS t tu tw D σ H) (t σ H fun c H1 => if c = true then tu D σ H1 else tw D σ H1) := ⟨g_if⟩
theorem g_seqD (h : te σ H fun _ H1 => tz D σ H1) : tSeq (tDrop te) tz D σ H := h
instance : St1 (tSeq (tDrop te) tz D σ H) (te σ H fun _ H1 => tz D σ H1) := ⟨g_seqD⟩
theorem g_drop (h : te σ H fun _ H1 => D.nx σ H1) : tDrop te D σ H := h
instance : St1 (tDrop te D σ H) (te σ H fun _ H1 => D.nx σ H1) := ⟨g_drop⟩
theorem g_ret (h : te σ H D.rt) : tRet te D σ H := h
instance : St1 (tRet te D σ H) (te σ H D.rt) := ⟨g_ret⟩
theorem g_next (h : D.nx σ H) : tNext D σ H := h
instance : St1 (tNext D σ H) (D.nx σ H) := ⟨g_next⟩
theorem g_c (h : Q v H) : tC v σ H Q := h
instance : St1 (tC v σ H Q) (Q v H) := ⟨g_c⟩
theorem g_var {i : Nat} (hσ : σ[i]? = some (some v)) (h : Q v H) : tVar i σ H Q := ⟨v, hσ, h⟩
instance {i : Nat} [q : At σ i v] : St1 (tVar i σ H Q) (Q v H) := ⟨fun h => g_var q.h h⟩
theorem g_op (h : ta σ H fun x H1 => tb σ H1 fun y H2 => r x y H2 Q) : tOp r ta tb σ H Q := h
instance : St1 (tOp r ta tb σ H Q) (ta σ H fun x H1 => tb σ H1 fun y H2 => r x y H2 Q) := ⟨g_op⟩
theorem g_un {r : V → Hp → VK → Prop} (h : ta σ H fun x H1 => r x H1 Q) : tUn r ta σ H Q := h
instance {r : V → Hp → VK → Prop} : St1 (tUn r ta σ H Q) (ta σ H fun x H1 => r x H1 Q) := ⟨g_un⟩
theorem g_ifE (h : t σ H fun c H1 => if c = true then ta σ H1 Q else tb σ H1 Q) : tIf t ta tb σ H Q := h
instance : St1 (tIf t ta tb σ H Q) (t σ H fun c H1 => if c = true then ta σ H1 Q else tb σ H1 Q) := ⟨g_ifE⟩
theorem g_test {Q : Bool → Hp → Prop} (h : te σ H fun x H' => ∃ k, x = .bl k ∧ Q k H') : tTest te σ H Q := h
instance {Q : Bool → Hp → Prop} : St1 (tTest te σ H Q) (te σ H fun x H' => ∃ k, x = .bl k ∧ Q k H') := ⟨g_test⟩
theorem g_tB {Q : Bool → Hp → Prop} (h : te σ H fun x H' => ∃ k, x = .bl k ∧ Q k H') : tB te σ H Q := h
instance {Q : Bool → Hp → Prop} : St1 (tB te σ H Q) (te σ H fun x H' => ∃ k, x = .bl k ∧ Q k H') := ⟨g_tB⟩
theorem g_tNot {Q : Bool → Hp → Prop} (h : t σ H fun c H1 => Q (!c) H1) : tNot t σ H Q := h
instance {Q : Bool → Hp → Prop} : St1 (tNot t σ H Q) (t σ H fun c H1 => Q (!c) H1) := ⟨g_tNot⟩
theorem g_tAnd {Q : Bool → Hp → Prop} (h : t σ H fun c H1 => if c = true then u σ H1 Q else Q false H1) : tAnd t u σ H Q := h
instance {Q : Bool → Hp → Prop} : St1 (tAnd t u σ H Q) (t σ H fun c H1 => if c = true then u σ H1 Q else Q false H1) := ⟨g_tAnd⟩
theorem g_tOr {Q : Bool → Hp → Prop} (h : t σ H fun c H1 => if c = true then Q true H1 else u σ H1 Q) : tOr t u σ H Q := h
instance {Q : Bool → Hp → Prop} : St1 (tOr t u σ H Q) (t σ H fun c H1 => if c = true then Q true H1 else u σ H1 Q) := ⟨g_tOr⟩
theorem g_andV (h : ta σ H fun x H1 => ∃ c, x = .bl c ∧ if c = true then tb σ H1 Q else Q (.bl false) H1) : tAndV ta tb σ H Q := h
instance : St1 (tAndV ta tb σ H Q) (ta σ H fun x H1 => ∃ c, x = .bl c ∧ if c = true then tb σ H1 Q else Q (.bl false) H1) := ⟨g_andV⟩
theorem g_orV (h : ta σ H fun x H1 => ∃ c, x = .bl c ∧ if c = true then Q (.bl true) H1 else tb σ H1 Q) : tOrV ta tb σ H Q := h
instance : St1 (tOrV ta tb σ H Q) (ta σ H fun x H1 => ∃ c, x = .bl c ∧ if c = true then Q (.bl true) H1 else tb σ H1 Q) := ⟨g_orV⟩
theorem g_notV (h : ta σ H fun x H1 => ∃ c, x = .bl c ∧ Q (.bl (!c)) H1) : tNotV ta σ H Q := h
instance : St1 (tNotV ta σ H Q) (ta σ H fun x H1 => ∃ c, x = .bl c ∧ Q (.bl (!c)) H1) := ⟨g_notV⟩
theorem g_sl {rs : V → Option Int → Option Int → Hp → VK → Prop} {t1 t2 : TO} (h : te σ H fun x H1 => t1 σ H1 fun l H2 => t2 σ H2 fun u H3 => rs x l u H3 Q) : tSl rs te t1 t2 σ H Q := h
instance {rs : V → Option Int → Option Int → Hp → VK → Prop} {t1 t2 : TO} : St1 (tSl rs te t1 t2 σ H Q) (te σ H fun x H1 => t1 σ H1 fun l H2 => t2 σ H2 fun u H3 => rs x l u H3 Q) := ⟨g_sl⟩
theorem g_noPart {Q : Option Int → Hp → Prop} (h : Q none H) : tNoPart σ H Q := h
instance {Q : Option Int → Hp → Prop} : St1 (tNoPart σ H Q) (Q none H) := ⟨g_noPart⟩
theorem g_part {Q : Option Int → Hp → Prop} (h : te σ H fun x H1 => ∃ i, x = .int i ∧ Q (some i) H1) : tPart te σ H Q := h
instance {Q : Option Int → Hp → Prop} : St1 (tPart te σ H Q) (te σ H fun x H1 => ∃ i, x = .int i ∧ Q (some i) H1) := ⟨g_part⟩
theorem g_cb {r : List V → Hp → VK → Prop} (h : tl σ H fun vs H1 => r vs H1 Q) : tCB r tl σ H Q := h
instance {r : List V → Hp → VK → Prop} : St1 (tCB r tl σ H Q) (tl σ H fun vs H1 => r vs H1 Q) := ⟨g_cb⟩
theorem g_call {sp : Sp} {dvs : List V} {E : XK} (h : tl σ H fun vs H1 => sp (vs ++ dvs) H1 Q E) : tCall sp dvs E tl σ H Q := h
theorem g_call0 {sp : Sp} {E : XK} (h : tl σ H fun vs H1 => sp vs H1 Q E) : tCall sp [] E tl σ H Q := by
  unfold tCall
  simpa only [List.append_nil] using h
instance {sp : Sp} {E : XK} : St1 (tCall sp [] E tl σ H Q) (tl σ H fun vs H1 => sp vs H1 Q E) := ⟨g_call0⟩
theorem g_cons {Q : List V → Hp → Prop} (h : te σ H fun x H1 => tr σ H1 fun xs H2 => Q (x :: xs) H2) : tCons te tr σ H Q := h
instance {Q : List V → Hp → Prop} : St1 (tCons te tr σ H Q) (te σ H fun x H1 => tr σ H1 fun xs H2 => Q (x :: xs) H2) := ⟨g_cons⟩
theorem g_nil {Q : List V → Hp → Prop} (h : Q [] H) : tNil σ H Q := h
instance {Q : List V → Hp → Prop} : St1 (tNil σ H Q) (Q [] H) := ⟨g_nil⟩
theorem g_m1 {r : V → List V → Hp → VK → Prop} (h : to σ H fun x H1 => (∃ a, x = .str a) ∧ te σ H1 fun y H2 => r x [y] H2 Q) : tM1 r to te σ H Q := h
instance {r : V → List V → Hp → VK → Prop} : St1 (tM1 r to te σ H Q) (to σ H fun x H1 => (∃ a, x = .str a) ∧ te σ H1 fun y H2 => r x [y] H2 Q) := ⟨g_m1⟩
def TyW (K : PySem.W.Frag) (T : String) (x : V) (H : Hp) (P : Prop) : Prop := tyV K T x H ∧ P
theorem g_bm {T : String} {r : V → List V → Hp → VK → Prop} (h : to σ H fun x H1 => TyW K T x H1 (tl σ H1 fun xs H2 => r x xs H2 Q)) : tBM K T r to tl σ H Q := h
instance {T : String} {r : V → List V → Hp → VK → Prop} : St1 (tBM K T r to tl σ H Q) (to σ H fun x H1 => TyW K T x H1 (tl σ H1 fun xs H2 => r x xs H2 Q)) := ⟨g_bm⟩
theorem g_fmt (h : te σ H fun x H1 => (∃ y : Str, x = .str y ∧ y.length ≤ sizeLine ∧ Q (.str y) H1) ∨ ∃ i : Int, x = .int i ∧ i.natAbs.log2 < 1920 ∧ Q (.str (toString i)) H1) : tFmt te σ H Q := h
def NewM (xs : List V) (H : Hp) (Q : VK) : Prop := xs.length ≤ sizeLine ∧ ∀ p, H p = none → Q (.ref p) (upd H p (.lst xs))
def NewL (xs : List V) (H : Hp) (Q : VK) : Prop := xs.length ≤ sizeLine ∧ ∀ p, H p = none → Q (.ref p) (upd H p (.lst xs))
def NewT (xs : List V) (H : Hp) (Q : VK) : Prop := xs.length ≤ sizeLine ∧ ∀ p, H p = none → Q (.ref p) (upd H p (.tup xs))
/-- lists that may change -/
def tLstM (t : TA) : TE := tLst t
theorem g_lst (h : tl σ H fun xs H1 => NewL xs H1 Q) : tLst tl σ H Q := h
instance : St1 (tLst tl σ H Q) (tl σ H fun xs H1 => NewL xs H1 Q) := ⟨g_lst⟩
theorem g_tup (h : tl σ H fun xs H1 => NewT xs H1 Q) : tTup tl σ H Q := h
instance : St1 (tTup tl σ H Q) (tl σ H fun xs H1 => NewT xs H1 Q) := ⟨g_tup⟩
theorem g_newL (s : S K C H Φ mt) (kn : KnL Φ xs ws) (hz : xs.length ≤ 100000) (k : ∀ p H1, S K C H1 ((.ref p, .l ws) :: Φ) mt → Q (.ref p) H1) : NewL xs H Q :=
  ⟨sz_of hz, fun p hp => k p _ (s.addL hp (Ex.new hp) upd_same kn)⟩
theorem g_newT (s : S K C H Φ mt) (kn : KnL Φ xs ws) (hz : xs.length ≤ 100000) (k : ∀ p H1, S K C H1 ((.ref p, .t ws) :: Φ) mt → Q (.ref p) H1) : NewT xs H Q :=
  ⟨sz_of hz, fun p hp => k p _ (s.addT hp (Ex.new hp) upd_same kn)⟩
theorem g_newM (s : S K C H Φ mt) (hz : xs.length ≤ 100000) (k : ∀ p H1, S K C H1 Φ ((p, Eq (.lst xs)) :: mt) → Q (.ref p) H1) : NewL xs H Q :=
  ⟨sz_of hz, fun p hp => k p _ (s.addM hp (Ex.new hp) upd_same rfl)⟩
/-! what a test tells -/
theorem g_exB {P : Bool → Prop} {b : Bool} (h : P b) : ∃ k, V.bl b = V.bl k ∧ P k := ⟨b, rfl, h⟩
instance {P : Bool → Prop} {b : Bool} : St1 (∃ k, V.bl b = V.bl k ∧ P k) (P b) := ⟨g_exB⟩
theorem g_exI {P : Int → Prop} {i : Int} (h : P i) : ∃ k, V.int i = V.int k ∧ P k := ⟨i, rfl, h⟩
instance {P : Int → Prop} {i : Int} : St1 (∃ k, V.int i = V.int k ∧ P k) (P i) := ⟨g_exI⟩
theorem g_exS {P : Str → Prop} {i : Str} (h : P i) : ∃ k, V.str i = V.str k ∧ P k := ⟨i, rfl, h⟩
instance {P : Str → Prop} {i : Str} : St1 (∃ k, V.str i = V.str k ∧ P k) (P i) := ⟨g_exS⟩
theorem g_strA {s : Str} {P : Prop} (h : P) : (∃ a, V.str s = .str a) ∧ P := ⟨⟨s, rfl⟩, h⟩
instance {s : Str} {P : Prop} : St1 ((∃ a, V.str s = .str a) ∧ P) (P) := ⟨g_strA⟩
theorem g_rfl {P : Prop} {v : V} (h : P) : v = v ∧ P := ⟨rfl, h⟩
instance {P : Prop} {v : V} : St1 (v = v ∧ P) (P) := ⟨g_rfl⟩
variable {A B : Prop} {b : Bool}
theorem g_iteT (h : A) : if true = true then A else B := by rw [if_pos rfl]; exact h
instance : St1 (if true = true then A else B) (A) := ⟨g_iteT⟩
theorem g_iteF (h : B) : if false = true then A else B := by rw [if_neg Bool.false_ne_true]; exact h
instance : St1 (if false = true then A else B) (B) := ⟨g_iteF⟩
theorem g_iteD {P : Prop} {i : Decidable P} (h1 : P → A) (h2 : ¬P → B) : if decide P = true then A else B := by
  by_cases h : P
  · rw [decide_eq_true h]; exact g_iteT (h1 h)
  · rw [decide_eq_false h]; exact g_iteF (h2 h)
theorem g_iteN (h : if b = true then B else A) : if (!b) = true then A else B := by cases b <;> exact h
instance : St1 (if (!b) = true then A else B) (if b = true then B else A) := ⟨g_iteN⟩
theorem g_iteB (h1 : b = true → A) (h2 : b = false → B) : if b = true then A else B := by
  cases b
  · exact g_iteF (h2 rfl)
  · exact g_iteT (h1 rfl)
theorem g_iteVI {m n : Int} (h1 : m = n → A) (h2 : ¬ m = n → B) : if decide (V.int m = V.int n) = true then A else B :=
  g_iteD (fun h => h1 (V.int.inj h)) fun h => h2 fun e => h (e ▸ rfl)
theorem g_iteVS {m n : Str} (h1 : m = n → A) (h2 : ¬ m = n → B) : if decide (V.str m = V.str n) = true then A else B :=
  g_iteD (fun h => h1 (V.str.inj h)) fun h => h2 fun e => h (e ▸ rfl)
theorem g_iteON {o : Option Int} (h1 : o = none → A) (h2 : ∀ i, o = some i → B) : if decide (oi o = .non) = true then A else B := by
  cases o with
  | none => exact g_iteD (fun _ => h1 rfl) fun h => (h rfl).elim
  | some i => exact g_iteD (fun h => nomatch h) fun _ => h2 i rfl
theorem g_iteIN {i : Int} (h : B) : if decide (V.int i = .non) = true then A else B := g_iteD (fun h => nomatch h) fun _ => h
instance {i : Int} : St1 (if decide (V.int i = .non) = true then A else B) (B) := ⟨g_iteIN⟩
theorem g_iteSN {i : Str} (h : B) : if decide (V.str i = .non) = true then A else B := g_iteD (fun h => nomatch h) fun _ => h
instance {i : Str} : St1 (if decide (V.str i = .non) = true then A else B) (B) := ⟨g_iteSN⟩
theorem g_iteRN {i : Addr} (h : B) : if decide (V.ref i = .non) = true then A else B := g_iteD (fun h => nomatch h) fun _ => h
instance {i : Addr} : St1 (if decide (V.ref i = .non) = true then A else B) (B) := ⟨g_iteRN⟩
theorem g_iteNN (h : A) : if decide (V.non = .non) = true then A else B := g_iteD (fun _ => h) fun h => (h rfl).elim
instance : St1 (if decide (V.non = .non) = true then A else B) (A) := ⟨g_iteNN⟩
/-! reading -/
theorem rep_strs : ∀ {vs : List V} {ks : List Str}, RepL K C H vs (ks.map W.s) → vs = ks.map V.str
  | [], [], _ => rfl
  | v :: vs, k :: ks, .cons h r => by cases h; rw [rep_strs r]; rfl
theorem g_ixLI {ns : List Int} {i : Int} (s : S K C H Φ mt) (h : (.ref p, .l (ns.map W.i)) ∈ Φ) (h0 : 0 ≤ i) (h1 : i < ns.length) (k : ∀ n, atI ns i = some n → n ∈ ns → Q (.int n) H) : rIxL K (.ref p) (.int i) H Q := by
  obtain ⟨j, rfl⟩ : ∃ j : Nat, i = (j : Int) := ⟨i.toNat, by omega⟩
  have hj : j < ns.length := by omega
  cases s.rep (.f h) with
  | l hq hr =>
    obtain ⟨v, hv, r⟩ := hr.get j (.i (ns[j]'hj)) (by rw [List.getElem?_map, List.getElem?_eq_getElem hj]; rfl)
    cases r
    exact ⟨p, _, _, _, rfl, rfl, sq_of hq, atI_nat hv, k _ (atI_nat (List.getElem?_eq_getElem hj)) (List.getElem_mem hj)⟩
theorem g_ixLS {ns : List Str} {i : Int} (s : S K C H Φ mt) (h : (.ref p, .l (ns.map W.s)) ∈ Φ) (h0 : 0 ≤ i) (h1 : i < ns.length) (k : ∀ n, atI ns i = some n → n ∈ ns → Q (.str n) H) : rIxL K (.ref p) (.int i) H Q := by
  obtain ⟨j, rfl⟩ : ∃ j : Nat, i = (j : Int) := ⟨i.toNat, by omega⟩
  have hj : j < ns.length := by omega
  cases s.rep (.f h) with
  | l hq hr =>
    obtain ⟨v, hv, r⟩ := hr.get j (.s (ns[j]'hj)) (by rw [List.getElem?_map, List.getElem?_eq_getElem hj]; rfl)
    cases r
    exact ⟨p, _, _, _, rfl, rfl, sq_of hq, atI_nat hv, k _ (atI_nat (List.getElem?_eq_getElem hj)) (List.getElem_mem hj)⟩
theorem rep_o {o : Option Int} (h : Rep K C H v (W.o o)) : v = oi o := by
  cases o with
  | none => change Rep K C H v .n at h; cases h; rfl
  | some i => change Rep K C H v (.i i) at h; cases h; rfl
theorem g_ixLO {ns : List (Option Int)} {i : Int} (s : S K C H Φ mt) (h : (.ref p, .l (ns.map W.o)) ∈ Φ) (h0 : 0 ≤ i) (h1 : i < ns.length) (k : ∀ n, atI ns i = some n → n ∈ ns → Q (oi n) H) : rIxL K (.ref p) (.int i) H Q := by
  obtain ⟨j, rfl⟩ : ∃ j : Nat, i = (j : Int) := ⟨i.toNat, by omega⟩
  have hj : j < ns.length := by omega
  cases s.rep (.f h) with
  | l hq hr =>
    obtain ⟨v, hv, r⟩ := hr.get j (W.o (ns[j]'hj)) (by rw [List.getElem?_map, List.getElem?_eq_getElem hj]; rfl)
    obtain rfl := rep_o r
    exact ⟨p, _, _, _, rfl, rfl, sq_of hq, atI_nat hv, k _ (atI_nat (List.getElem?_eq_getElem hj)) (List.getElem_mem hj)⟩
/-- a value and what stands for it, where it has no parts -/
class Sc (w : W) (v : outParam V) : Prop where
  h : ∀ (K : PySem.W.Frag) (C : Addr) (H : Hp) (u : V), Rep K C H u w → u = v
instance {n : Int} : Sc (.i n) (.int n) := ⟨fun _ _ _ _ r => by cases r; rfl⟩
instance {n : Str} : Sc (.s n) (.str n) := ⟨fun _ _ _ _ r => by cases r; rfl⟩
instance {n : Bool} : Sc (.b n) (.bl n) := ⟨fun _ _ _ _ r => by cases r; rfl⟩
instance : Sc .n .non := ⟨fun _ _ _ _ r => by cases r; rfl⟩
instance {n : Option Int} : Sc (W.o n) (oi n) := ⟨fun _ _ _ _ r => rep_o r⟩
theorem S.grow (s : S K C H Φ mt) (h : (.ref p, .l ws) ∈ Φ) (j : Nat) (e : ws[j]? = some w) : ∃ vs v, SqL K H p vs ∧ vs[j]? = some v ∧ S K C H ((v, w) :: Φ) mt := by
  obtain ⟨⟨kb, h1, h2, h3⟩, d⟩ := s
  cases hh : h2 _ h with
  | l hq hr =>
    obtain ⟨v, hv, r⟩ := hr.get j w e
    exact ⟨_, v, sq_of (h1 _ _ hq), hv, ⟨kb, h1, fun q hq => by rcases List.mem_cons.mp hq with rfl | hq; exact r; exact h2 q hq, h3⟩, d⟩
theorem S.growT (s : S K C H Φ mt) (h : (.ref p, .t ws) ∈ Φ) (j : Nat) (e : ws[j]? = some w) : ∃ vs v, SqT K H p vs ∧ vs[j]? = some v ∧ S K C H ((v, w) :: Φ) mt := by
  obtain ⟨⟨kb, h1, h2, h3⟩, d⟩ := s
  cases hh : h2 _ h with
  | t hq hr =>
    obtain ⟨v, hv, r⟩ := hr.get j w e
    exact ⟨_, v, st_of (h1 _ _ hq), hv, ⟨kb, h1, fun q hq => by rcases List.mem_cons.mp hq with rfl | hq; exact r; exact h2 q hq, h3⟩, d⟩
theorem atI_of {α : Type} {xs : List α} {i : Int} {x : α} (e : atI xs i = some x) : ∃ j, ixN xs.length i = some j ∧ xs[j]? = some x := by
  unfold atI at e
  cases h : ixN xs.length i with
  | none => rw [h] at e; cases e
  | some j => rw [h] at e; exact ⟨j, rfl, e⟩
theorem atI_mk {α : Type} {xs : List α} {i : Int} {x : α} {j : Nat} (h : ixN xs.length i = some j) (e : xs[j]? = some x) : atI xs i = some x := by
  unfold atI
  rw [h]
  exact e
/-- an item of a list whose items are told, by a written number -/
theorem S.growA {i : Int} (s : S K C H Φ mt) (h : (.ref p, .l ws) ∈ Φ) (e : atI ws i = some w) : ∃ vs v, SqL K H p vs ∧ atI vs i = some v ∧ S K C H ((v, w) :: Φ) mt := by
  obtain ⟨j, h1, h2⟩ := atI_of e
  obtain ⟨⟨kb, g1, g2, g3⟩, d⟩ := s
  cases hh : g2 _ h with
  | l hq hr =>
    obtain ⟨v, hv, r⟩ := hr.get j w h2
    exact ⟨_, v, sq_of (g1 _ _ hq), atI_mk (by rw [hr.len]; exact h1) hv, ⟨kb, g1, fun q hq => by rcases List.mem_cons.mp hq with rfl | hq; exact r; exact g2 q hq, g3⟩, d⟩
theorem S.growTA {i : Int} (s : S K C H Φ mt) (h : (.ref p, .t ws) ∈ Φ) (e : atI ws i = some w) : ∃ vs v, SqT K H p vs ∧ atI vs i = some v ∧ S K C H ((v, w) :: Φ) mt := by
  obtain ⟨j, h1, h2⟩ := atI_of e
  obtain ⟨⟨kb, g1, g2, g3⟩, d⟩ := s
  cases hh : g2 _ h with
  | t hq hr =>
    obtain ⟨v, hv, r⟩ := hr.get j w h2
    exact ⟨_, v, st_of (g1 _ _ hq), atI_mk (by rw [hr.len]; exact h1) hv, ⟨kb, g1, fun q hq => by rcases List.mem_cons.mp hq with rfl | hq; exact r; exact g2 q hq, g3⟩, d⟩
theorem g_ixL {i : Int} (s : S K C H Φ mt) (h : (.ref p, .l ws) ∈ Φ) (e : atI ws i = some w) (sc : Sc w v) (k : Q v H) : rIxL K (.ref p) (.int i) H Q := by
  obtain ⟨vs, u, h1, h2, h3⟩ := s.growA h e
  have := sc.h K C H u (h3.rep (.f List.mem_cons_self))
  subst this
  exact ⟨p, vs, _, _, rfl, rfl, h1, h2, k⟩
def IsRef (w : W) : Prop := (∃ us, w = .l us) ∨ (∃ us, w = .t us) ∨ ∃ m, w = .m m
theorem isL {ws : List W} : IsRef (.l ws) := .inl ⟨_, rfl⟩
theorem isT {ws : List W} : IsRef (.t ws) := .inr (.inl ⟨_, rfl⟩)
theorem isM {m : MK} : IsRef (.m m) := .inr (.inr ⟨_, rfl⟩)
theorem isRef_of {u : V} (hw : IsRef w) (r : Rep K C H u w) : ∃ q, u = .ref q := by
  rcases hw with ⟨us, rfl⟩ | ⟨us, rfl⟩ | ⟨m, rfl⟩ <;> cases r <;> exact ⟨_, rfl⟩
theorem g_ixLr {i : Int} (s : S K C H Φ mt) (h : (.ref p, .l ws) ∈ Φ) (e : atI ws i = some w) (hw : IsRef w) (k : ∀ q, S K C H ((.ref q, w) :: Φ) mt → Q (.ref q) H) : rIxL K (.ref p) (.int i) H Q := by
  obtain ⟨vs, u, h1, h2, h3⟩ := s.growA h e
  obtain ⟨q, rfl⟩ := isRef_of hw (h3.rep (.f List.mem_cons_self))
  exact ⟨p, vs, _, _, rfl, rfl, h1, h2, k q h3⟩
theorem g_ixT {i : Int} (s : S K C H Φ mt) (h : (.ref p, .t ws) ∈ Φ) (e : atI ws i = some w) (sc : Sc w v) (k : Q v H) : rIxT K (.ref p) (.int i) H Q := by
  obtain ⟨vs, u, h1, h2, h3⟩ := s.growTA h e
  have := sc.h K C H u (h3.rep (.f List.mem_cons_self))
  subst this
  exact ⟨p, vs, _, _, rfl, rfl, h1, h2, k⟩
theorem g_ixTr {i : Int} (s : S K C H Φ mt) (h : (.ref p, .t ws) ∈ Φ) (e : atI ws i = some w) (hw : IsRef w) (k : ∀ q, S K C H ((.ref q, w) :: Φ) mt → Q (.ref q) H) : rIxT K (.ref p) (.int i) H Q := by
  obtain ⟨vs, u, h1, h2, h3⟩ := s.growTA h e
  obtain ⟨q, rfl⟩ := isRef_of hw (h3.rep (.f List.mem_cons_self))
  exact ⟨p, vs, _, _, rfl, rfl, h1, h2, k q h3⟩
/-- an item of a cell -/
theorem g_ixM {i : Int} (s : S K C H Φ mt) (h : (p, Eq (.lst vs)) ∈ mt) (e : atI vs i = some v) (k : Q v H) : rIxL K (.ref p) (.int i) H Q :=
  ⟨p, vs, _, _, rfl, rfl, sq_of (s.at h), e, k⟩
/-- a sign of a text -/
theorem g_ixS {t : Str} {i : Int} (hz : t.length ≤ 100000) (h0 : 0 ≤ i) (h1 : i < t.length) (k : ∀ c, atI (sg t) i = some c → c ∈ sg t → Q (.str ⟨#[c]⟩) H) : rIxS (.str t) (.int i) H Q := by
  obtain ⟨c, hc, hm⟩ := atI_in (xs := sg t) h0 (by rw [sg_len]; exact h1)
  exact ⟨t, i, c, rfl, rfl, sz_of hz, hc, k c hc hm⟩
class SL (t : Str) (n : outParam Nat) : Prop where
  h : t.length = n
instance : SL "abcdefghijklmnopqrstuvwxyz" 26 := ⟨by decide +kernel⟩
instance : SL "0123456789" 10 := ⟨by decide +kernel⟩
instance : SL "123456789" 9 := ⟨by decide +kernel⟩
instance : SL "abcd" 4 := ⟨by decide +kernel⟩
/-- a sign of a text that is written -/
theorem g_ixSn {t : Str} {i : Int} {n : Nat} (l : SL t n) (hz : n ≤ 100000) (h0 : 0 ≤ i) (h1 : i < n) (k : ∀ c, atI (sg t) i = some c → c ∈ sg t → Q (.str (one c)) H) : rIxS (.str t) (.int i) H Q :=
  g_ixS (by rw [l.h]; exact hz) h0 (by rw [l.h]; exact h1) k
/-- lists that are told item by item, as what they hold -/
class AsI (ws : List W) (ns : outParam (List Int)) : Prop where
  h : ws = ns.map W.i
instance : AsI [] [] := ⟨rfl⟩
instance {n : Int} {ws : List W} {ns : List Int} [q : AsI ws ns] : AsI (.i n :: ws) (n :: ns) := ⟨by rw [q.h]; rfl⟩
class AsO (ws : List W) (ns : outParam (List (Option Int))) : Prop where
  h : ws = ns.map W.o
instance : AsO [] [] := ⟨rfl⟩
instance {n : Int} {ws : List W} {ns : List (Option Int)} [q : AsO ws ns] : AsO (.i n :: ws) (some n :: ns) := ⟨by rw [q.h]; rfl⟩
instance {ws : List W} {ns : List (Option Int)} [q : AsO ws ns] : AsO (.n :: ws) (none :: ns) := ⟨by rw [q.h]; rfl⟩
instance {o : Option Int} {ws : List W} {ns : List (Option Int)} [q : AsO ws ns] : AsO (W.o o :: ws) (o :: ns) := ⟨by rw [q.h]; rfl⟩
class AsS (ws : List W) (ns : outParam (List Str)) : Prop where
  h : ws = ns.map W.s
instance : AsS [] [] := ⟨rfl⟩
instance {n : Str} {ws : List W} {ns : List Str} [q : AsS ws ns] : AsS (.s n :: ws) (n :: ns) := ⟨by rw [q.h]; rfl⟩
theorem g_ixAI {i : Int} {ns : List Int} (s : S K C H Φ mt) (h : (.ref p, .l ws) ∈ Φ) (q : AsI ws ns) (h0 : 0 ≤ i) (h1 : i < ns.length) (k : ∀ n, n ∈ ns → Q (.int n) H) : rIxL K (.ref p) (.int i) H Q :=
  g_ixLI (ns := ns) s (by rw [← q.h]; exact h) h0 h1 fun n _ hn => k n hn
theorem g_ixAO {i : Int} {ns : List (Option Int)} (s : S K C H Φ mt) (h : (.ref p, .l ws) ∈ Φ) (q : AsO ws ns) (h0 : 0 ≤ i) (h1 : i < ns.length) (k : ∀ n, n ∈ ns → Q (oi n) H) : rIxL K (.ref p) (.int i) H Q :=
  g_ixLO (ns := ns) s (by rw [← q.h]; exact h) h0 h1 fun n _ hn => k n hn
theorem g_ixAS {i : Int} {ns : List Str} (s : S K C H Φ mt) (h : (.ref p, .l ws) ∈ Φ) (q : AsS ws ns) (h0 : 0 ≤ i) (h1 : i < ns.length) (k : ∀ n, n ∈ ns → Q (.str n) H) : rIxL K (.ref p) (.int i) H Q :=
  g_ixLS (ns := ns) s (by rw [← q.h]; exact h) h0 h1 fun n _ hn => k n hn
/-! len, slices, sums of lists -/
theorem g_lenL (s : S K C H Φ mt) (h : (.ref p, .l ws) ∈ Φ) (k : Q (.int (ws.length : Int)) H) : rLenS K [.ref p] H Q := by
  cases s.rep (.f h) with
  | l hq hr => exact ⟨p, _, rfl, .inl (sq_of hq), by rw [hr.len]; exact k⟩
theorem g_lenT (s : S K C H Φ mt) (h : (.ref p, .t ws) ∈ Φ) (k : Q (.int (ws.length : Int)) H) : rLenS K [.ref p] H Q := by
  cases s.rep (.f h) with
  | t hq hr => exact ⟨p, _, rfl, .inr (st_of hq), by rw [hr.len]; exact k⟩
theorem g_lenM (s : S K C H Φ mt) (h : (p, Eq (.lst vs)) ∈ mt) (k : Q (.int (vs.length : Int)) H) : rLenS K [.ref p] H Q :=
  ⟨p, vs, rfl, .inl (sq_of (s.at h)), k⟩
theorem knl_zip : ∀ {vs : List V} {ws : List W} {Ψ : List (V × W)}, vs.length = ws.length → KnL (vs.zip ws ++ Ψ) vs ws
  | [], [], _, _ => .nil
  | v :: vs, w :: ws, Ψ, h => .cons (.f List.mem_cons_self) (KnL.mono (fun q hq => List.mem_cons_of_mem _ hq) (knl_zip (Nat.succ.inj h)))
  | [], _ :: _, _, h => nomatch h
  | _ :: _, [], _, h => nomatch h
theorem repL_zip {kb : Hp} : ∀ {vs : List V} {ws : List W}, RepL K C kb vs ws → ∀ q ∈ vs.zip ws, Rep K C kb q.1 q.2
  | _, _, .nil => fun q hq => by cases hq
  | _, _, .cons (v := v) (w := w) (vs := vs) (ws := ws) h r => fun q hq => by
    rcases List.mem_cons.mp (show q ∈ (v, w) :: vs.zip ws from hq) with rfl | hq
    · exact h
    · exact repL_zip r q hq
/-- a list whose items are told, its items known one by one -/
theorem S.openH (s : S K C H Φ mt) (h : (.ref p, .l ws) ∈ Φ) : ∃ vs, H p = some (.lst vs) ∧ vs.length = ws.length ∧ S K C H (vs.zip ws ++ Φ) mt := by
  obtain ⟨⟨kb, h1, h2, h3⟩, d⟩ := s
  cases h2 _ h with
  | l hq hr => exact ⟨_, h1 _ _ hq, hr.len, ⟨kb, h1, fun q hq => (List.mem_append.mp hq).elim (repL_zip hr q) (h2 q), h3⟩, d⟩
theorem S.open (s : S K C H Φ mt) (h : (.ref p, .l ws) ∈ Φ) : ∃ vs, SqL K H p vs ∧ vs.length = ws.length ∧ S K C H (vs.zip ws ++ Φ) mt := by
  obtain ⟨vs, h1, h2, h3⟩ := s.openH h
  exact ⟨vs, sq_of h1, h2, h3⟩
theorem S.openT (s : S K C H Φ mt) (h : (.ref p, .t ws) ∈ Φ) : ∃ vs, SqT K H p vs ∧ vs.length = ws.length ∧ S K C H (vs.zip ws ++ Φ) mt := by
  obtain ⟨⟨kb, h1, h2, h3⟩, d⟩ := s
  cases h2 _ h with
  | t hq hr => exact ⟨_, st_of (h1 _ _ hq), hr.len, ⟨kb, h1, fun q hq => (List.mem_append.mp hq).elim (repL_zip hr q) (h2 q), h3⟩, d⟩
theorem mem3 {x : V × W} {q : V × W} {A : List (V × W)} (h : q ∈ x :: Φ) : q ∈ x :: (A ++ Φ) := by
  rcases List.mem_cons.mp h with rfl | h
  · exact List.mem_cons_self
  · exact List.mem_cons_of_mem _ (List.mem_append_right _ h)
/-- list(..), told as it is -/
theorem g_listL (s : S K C H Φ mt) (h : (.ref p, .l ws) ∈ Φ) (k : ∀ q H', S K C H' ((.ref q, .l ws) :: Φ) mt → Q (.ref q) H') : rListS K [.ref p] H Q := by
  obtain ⟨vs, h1, h2, s'⟩ := s.open h
  exact ⟨p, vs, rfl, .inl h1, fun q hn => k q _ ((s'.addL hn (Ex.new hn) upd_same (knl_zip h2)).to (fun q hq => mem3 hq) (List.Sublist.refl _))⟩
theorem g_listT (s : S K C H Φ mt) (h : (.ref p, .t ws) ∈ Φ) (k : ∀ q H', S K C H' ((.ref q, .l ws) :: Φ) mt → Q (.ref q) H') : rListS K [.ref p] H Q := by
  obtain ⟨vs, h1, h2, s'⟩ := s.openT h
  exact ⟨p, vs, rfl, .inr h1, fun q hn => k q _ ((s'.addL hn (Ex.new hn) upd_same (knl_zip h2)).to (fun q hq => mem3 hq) (List.Sublist.refl _))⟩
/-- list(..), as a cell, of texts or of things told one by one -/
theorem g_listMS {ks : List Str} (s : S K C H Φ mt) (h : (.ref p, .l (ks.map W.s)) ∈ Φ) (k : ∀ q H', S K C H' Φ ((q, Eq (.lst (ks.map V.str))) :: mt) → Q (.ref q) H') : rListS K [.ref p] H Q := by
  obtain ⟨vs, h1, h2, s'⟩ := s.open h
  have hr := s'.repL (knl_zip h2)
  obtain rfl := rep_strs hr
  exact ⟨p, _, rfl, .inl h1, fun q hn => k q _ (s.addM hn (Ex.new hn) upd_same rfl)⟩
theorem g_tupOfS (s : S K C H Φ mt) (h : (.ref p, .l ws) ∈ Φ) (k : ∀ q H', S K C H' ((.ref q, .t ws) :: Φ) mt → Q (.ref q) H') : rTupOf K [.ref p] H Q := by
  obtain ⟨vs, h1, h2, s'⟩ := s.open h
  exact ⟨p, vs, rfl, .inl ⟨h1, fun q hn => k q _ ((s'.addT hn (Ex.new hn) upd_same (knl_zip h2)).to (fun q hq => mem3 hq) (List.Sublist.refl _))⟩⟩
theorem g_add {i j : Int} (k : Q (.int (i + j)) H) : rAdd (.int i) (.int j) H Q := ⟨i, j, rfl, rfl, k⟩
instance {i j : Int} : St1 (rAdd (.int i) (.int j) H Q) (Q (.int (i + j)) H) := ⟨g_add⟩
theorem g_rI0 {f : Int → Int → V} {i j : Int} (k : Q (f i j) H) : rI0 f (.int i) (.int j) H Q := ⟨i, j, rfl, rfl, k⟩
instance {f : Int → Int → V} {i j : Int} : St1 (rI0 f (.int i) (.int j) H Q) (Q (f i j) H) := ⟨g_rI0⟩
theorem g_rI {c : Int → Int → Prop} {f : Int → Int → V} {i j : Int} (h : c i j) (k : Q (f i j) H) : rI c f (.int i) (.int j) H Q := ⟨i, j, rfl, rfl, h, k⟩
theorem g_rMod {f : Int → Int → V} {i j : Int} (h : 0 < j) (k : Q (f i j) H) : rI (fun _ j => 0 < j) f (.int i) (.int j) H Q := ⟨i, j, rfl, rfl, h, k⟩
theorem g_rModN {f : Int → Int → V} {i j : Int} (h : j ≠ 0) (k : Q (f i j) H) : rI (fun _ j => j ≠ 0) f (.int i) (.int j) H Q := ⟨i, j, rfl, rfl, h, k⟩
theorem g_rDiv {f : Int → Int → V} {i j : Int} (h : 0 < j) (h1 : j < 1073741824) (k : Q (f i j) H) : rI CDiv f (.int i) (.int j) H Q := ⟨i, j, rfl, rfl, ⟨h, h1⟩, k⟩
theorem g_rDivW {f : Int → Int → V} {i j : Int} (h : 0 < j) (h1 : j.natAbs.log2 < 9000) (k : Q (f i j) H) : rI CDivW f (.int i) (.int j) H Q := ⟨i, j, rfl, rfl, ⟨h, h1⟩, k⟩
theorem g_rPow {f : Int → Int → V} {i j : Int} (h : 0 ≤ j) (h1 : j ≤ 1000000) (h2 : -18446744073709551616 < i) (h3 : i < 18446744073709551616) (k : Q (f i j) H) : rI CPow f (.int i) (.int j) H Q := ⟨i, j, rfl, rfl, ⟨h, h1, by omega⟩, k⟩
theorem g_rMul {f : Int → Int → V} {i j : Int} (h : -18446744073709551616 < i) (h1 : i < 18446744073709551616) (k : Q (f i j) H) : rI CMul f (.int i) (.int j) H Q := ⟨i, j, rfl, rfl, .inl ⟨h, h1⟩, k⟩
theorem g_rMulR {f : Int → Int → V} {i j : Int} (h : -18446744073709551616 < j) (h1 : j < 18446744073709551616) (k : Q (f i j) H) : rI CMul f (.int i) (.int j) H Q := ⟨i, j, rfl, rfl, .inr ⟨h, h1⟩, k⟩
theorem g_rEq (h : scal x y = true) (k : Q (.bl (decide (x = y))) H) : rEq x y H Q := ⟨h, k⟩
theorem g_rNe (h : scal x y = true) (k : Q (.bl (!decide (x = y))) H) : rNe x y H Q := ⟨h, k⟩
theorem g_rU {f : Int → V} {i : Int} (k : Q (f i) H) : rU f (.int i) H Q := ⟨i, rfl, k⟩
instance {f : Int → V} {i : Int} : St1 (rU f (.int i) H Q) (Q (f i) H) := ⟨g_rU⟩
theorem g_strAdd {i j : Str} (hz : i.length + j.length ≤ 100000) (k : Q (.str (i ++ j)) H) : qAddS (.str i) (.str j) H Q := ⟨i, j, rfl, rfl, sz_of hz, k⟩
theorem g_strI {i : Int} (h : i.natAbs.log2 < 1920) (k : (Str.ofString (toString i)).length ≤ 1921 → Q (.str (toString i)) H) : qStrI [.int i] H Q := ⟨i, rfl, h, k (int_len h)⟩
theorem g_strS {t : Str} (k : Q (.str t) H) : qStrS [.str t] H Q := ⟨t, rfl, k⟩
instance {t : Str} : St1 (qStrS [.str t] H Q) (Q (.str t) H) := ⟨g_strS⟩
theorem g_lenS {t : Str} (h : t.length ≤ 100000) (k : Q (.int (t.length : Int)) H) : qLenS [.str t] H Q := ⟨t, rfl, sz_of h, k⟩
theorem g_int1 {i : Int} (k : Q (.int i) H) : qInt1 [.int i] H Q := .inl ⟨i, rfl, k⟩
instance {i : Int} : St1 (qInt1 [.int i] H Q) (Q (.int i) H) := ⟨g_int1⟩
theorem g_intB {b : Bool} (k : Q (.int (if b then 1 else 0)) H) : qInt1 [.bl b] H Q := .inr ⟨b, rfl, k⟩
theorem g_max2 {i j : Int} (k : Q (.int (if j > i then j else i)) H) : qMax2 [.int i, .int j] H Q := ⟨i, j, rfl, k⟩
instance {i j : Int} : St1 (qMax2 [.int i, .int j] H Q) (Q (.int (if j > i then j else i)) H) := ⟨g_max2⟩
theorem g_min2 {i j : Int} (k : Q (.int (if j < i then j else i)) H) : qMin2 [.int i, .int j] H Q := ⟨i, j, rfl, k⟩
instance {i j : Int} : St1 (qMin2 [.int i, .int j] H Q) (Q (.int (if j < i then j else i)) H) := ⟨g_min2⟩
theorem g_ltS {i j : Str} (k : Q (.bl (decide (i.cps.toList < j.cps.toList))) H) : qLtS (.str i) (.str j) H Q := ⟨i, j, rfl, rfl, k⟩
instance {i j : Str} : St1 (qLtS (.str i) (.str j) H Q) (Q (.bl (decide (i.cps.toList < j.cps.toList))) H) := ⟨g_ltS⟩
theorem g_inS {c : Nat} {t : Str} (k : Q (.bl (decide (c ∈ sg t))) H) : qInS (.str ⟨#[c]⟩) (.str t) H Q := ⟨c, t, rfl, rfl, k⟩
instance {c : Nat} {t : Str} : St1 (qInS (.str ⟨#[c]⟩) (.str t) H Q) (Q (.bl (decide (c ∈ sg t))) H) := ⟨g_inS⟩
theorem g_notInS {c : Nat} {t : Str} (k : Q (.bl (!decide (c ∈ sg t))) H) : qNotInS (.str ⟨#[c]⟩) (.str t) H Q := ⟨c, t, rfl, rfl, k⟩
instance {c : Nat} {t : Str} : St1 (qNotInS (.str ⟨#[c]⟩) (.str t) H Q) (Q (.bl (!decide (c ∈ sg t))) H) := ⟨g_notInS⟩
theorem g_isN (k : Q (.bl (decide (x = .non))) H) : qIsN x .non H Q := ⟨rfl, k⟩
instance : St1 (qIsN x .non H Q) (Q (.bl (decide (x = .non))) H) := ⟨g_isN⟩
theorem g_notN (k : Q (.bl (!decide (x = .non))) H) : qNotN x .non H Q := ⟨rfl, k⟩
instance : St1 (qNotN x .non H Q) (Q (.bl (!decide (x = .non))) H) := ⟨g_notN⟩
theorem g_joinS {ts : List TE} (h : tJs ts Str.empty σ H fun out H1 => Q (.str out) H1) : tJoinS ts σ H Q := h
instance {ts : List TE} : St1 (tJoinS ts σ H Q) (tJs ts Str.empty σ H fun out H1 => Q (.str out) H1) := ⟨g_joinS⟩
theorem g_truS {t : Str} {Q : Bool → Hp → Prop} (ht : te σ H fun x H' => ∃ k, TruV K x H' k ∧ Q k H') : tTru K te σ H Q := ht
/-! methods that change a cell -/
theorem g_tyM {P : Prop} (s : S K C H Φ mt) (h : (p, Eq (.lst vs)) ∈ mt) (k : P) : TyW K "list" (.ref p) H P := ⟨.inl ⟨rfl, vs, sq_of (s.at h)⟩, k⟩
theorem g_tyL {P : Prop} (s : S K C H Φ mt) (h : (.ref p, .l ws) ∈ Φ) (k : P) : TyW K "list" (.ref p) H P := by
  cases s.rep (.f h) with
  | l hq hr => exact ⟨.inl ⟨rfl, _, sq_of hq⟩, k⟩
theorem g_append (s : S K C H Φ mt) (h : (p, Eq (.lst vs)) ∈ mt) (hz : vs.length < 100000) (hs : SetM p (Eq (.lst (vs ++ [v]))) mt nt) (k : ∀ H', S K C H' Φ nt → Q .non H') : rAppend (.ref p) [v] H Q :=
  ⟨p, vs, v, rfl, rfl, s.at h, sz_lt hz, k _ (s.set hs rfl)⟩
theorem g_setL {R : Hp → Prop} {i : Int} {j : Nat} (s : S K C H Φ mt) (h : (p, Eq (.lst vs)) ∈ mt) (hi : Ix i j) (hj : j < vs.length) (hv : SetAt vs j v us) (hs : SetM p (Eq (.lst us)) mt nt) (k : ∀ H', S K C H' Φ nt → R H') : rSetL (.ref p) (.int i) v H R := by
  obtain rfl := hi.h
  have e := hv.h
  subst e
  exact ⟨p, vs, j, j, rfl, rfl, s.at h, ixN_nat hj, k _ (s.set hs rfl)⟩
theorem g_gName {i : Nat} {N : L2.St → Hp → Prop} (h : N (σ.set i (some v)) H) : gName i v σ H N := h
instance {i : Nat} {N : L2.St → Hp → Prop} : St1 (gName i v σ H N) (N (σ.set i (some v)) H) := ⟨g_gName⟩
theorem g_gSub {ti : TE} {ts : TSet} {N : L2.St → Hp → Prop} (h : to σ H fun o H1 => ti σ H1 fun i H2 => ts o i v H2 fun H3 => N σ H3) : gSub to ti ts v σ H N := h
instance {ti : TE} {ts : TSet} {N : L2.St → Hp → Prop} : St1 (gSub to ti ts v σ H N) (to σ H fun o H1 => ti σ H1 fun i H2 => ts o i v H2 fun H3 => N σ H3) := ⟨g_gSub⟩
end

instance (priority := high) {A B : Prop} {x : V} {i : Decidable (x = x)} : St1 (if decide (x = x) = true then A else B) A := ⟨fun h => by rw [if_pos (decide_eq_true rfl)]; exact h⟩
instance (priority := high) {A B : Prop} : St1 (if decide (oi none = .non) = true then A else B) A := ⟨fun h => (if_pos (decide_eq_true (rfl : oi none = V.non))).mpr h⟩
instance (priority := high) {A B : Prop} {i : Int} : St1 (if decide (oi (some i) = .non) = true then A else B) B := ⟨fun h => (if_neg (fun z => nomatch (of_decide_eq_true z : oi (some i) = V.non))).mpr h⟩
instance (priority := high) {f : Int → Int → V} {i : Int} {y : V} {H : Hp} {Q : VK} : St1 (rI0 f (oi (some i)) y H Q) (rI0 f (.int i) y H Q) := ⟨fun h => h⟩
instance (priority := high) {f : Int → Int → V} {c : Int → Int → Prop} {i : Int} {y : V} {H : Hp} {Q : VK} : St1 (rI c f (oi (some i)) y H Q) (rI c f (.int i) y H Q) := ⟨fun h => h⟩
/-! a slot that was set, in its place -/
section
variable {σ σ' : L2.St} {i : Nat} {v : Option V} {H : Hp} {D : Ends} {ta tz tb tc : TS} {te : TE} {tt : TT} {g : TG} {wi : TI}
instance (priority := high) [q : SetAt σ i v σ'] : St1 (tSeq ta tz D (σ.set i v) H) (tSeq ta tz D σ' H) := ⟨fun h => by rw [q.h]; exact h⟩
instance (priority := high) [q : SetAt σ i v σ'] : St1 (tRet te D (σ.set i v) H) (tRet te D σ' H) := ⟨fun h => by rw [q.h]; exact h⟩
instance (priority := high) [q : SetAt σ i v σ'] : St1 (tAsg te g D (σ.set i v) H) (tAsg te g D σ' H) := ⟨fun h => by rw [q.h]; exact h⟩
instance (priority := high) [q : SetAt σ i v σ'] : St1 (tDrop te D (σ.set i v) H) (tDrop te D σ' H) := ⟨fun h => by rw [q.h]; exact h⟩
instance (priority := high) [q : SetAt σ i v σ'] : St1 (tIfS tt ta tz D (σ.set i v) H) (tIfS tt ta tz D σ' H) := ⟨fun h => by rw [q.h]; exact h⟩
instance (priority := high) [q : SetAt σ i v σ'] : St1 (tFor wi g tb D (σ.set i v) H) (tFor wi g tb D σ' H) := ⟨fun h => by rw [q.h]; exact h⟩
end

/-! ### loops -/
section
variable {K : PySem.W.Frag} {C : Addr} {σ σ0 : L2.St} {H : Hp} {Φ Ψ : List (V × W)} {mt nt : List (Addr × (HO → Prop))} {Q : VK} {D : Ends} {tz tb : TS} {te : TE} {tt : TT} {tl : TA} {v : V} {ws : List W} {w : W} {g : TG} {a p : Addr} {wi : TI} {J : It} {i n : Nat} {lo : Int} {vs : List Nat}
def LcW (J : It) (g : TG) (tt : TT) (te : TE) (vs : List Nat) (σ : L2.St) (H1 : Hp) (Q : VK) : Prop := ∀ D, H1 D = none → ∃ W : Nat → Nat → Hp → Prop, (∃ m, W 0 m (upd H1 D (.lst []))) ∧ ∀ i m H, W i m H →
  (J.stop i H ∧ Q (.ref D) H) ∨ (J.go i H ∧ ∃ Nx : Hp → Prop, (∀ H', Nx H' → ∃ m', m' < m ∧ W (i + 1) m' H') ∧ ∀ x H', J.yld i H x H' → g x (wipe σ vs) H' fun σ2 H2 => wipe σ2 vs = wipe σ vs ∧ tt σ2 H2 fun b H3 =>
    if b = true then te σ2 H3 fun y H4 => ∃ acc, H4 D = some (.lst acc) ∧ acc.length < sizeLine ∧ Nx (upd H4 D (.lst (acc ++ [y]))) else Nx H3)
theorem g_lc (h : wi σ H fun J H1 => LcW J g tt te vs σ H1 Q) : tLc wi g tt te vs σ H Q := h
instance : St1 (tLc wi g tt te vs σ H Q) (wi σ H fun J H1 => LcW J g tt te vs σ H1 Q) := ⟨g_lc⟩
def ForW (J : It) (g : TG) (tb : TS) (D : Ends) (σ : L2.St) (H : Hp) : Prop := ∃ W : Nat → Nat → L2.St → Hp → Prop, (∃ m, W 0 m σ H) ∧ ∀ i m σ H, W i m σ H →
  (J.stop i H ∧ D.nx σ H) ∨ (J.go i H ∧ ∃ N : L2.St → Hp → Prop, (∀ σ' H', N σ' H' → ∃ m', m' < m ∧ W (i + 1) m' σ' H') ∧ ∀ x H', J.yld i H x H' → g x σ H' fun σ2 H2 => tb { D with nx := N, ct := N, bk := D.nx } σ2 H2)
theorem g_for (h : wi σ H fun J H1 => ForW J g tb D σ H1) : tFor wi g tb D σ H := h
instance : St1 (tFor wi g tb D σ H) (wi σ H fun J H1 => ForW J g tb D σ H1) := ⟨g_for⟩
theorem g_seqF (h : wi σ H fun J H1 => ForW J g tb { D with nx := tz D } σ H1) : tSeq (tFor wi g tb) tz D σ H := h
instance : St1 (tSeq (tFor wi g tb) tz D σ H) (wi σ H fun J H1 => ForW J g tb { D with nx := tz D } σ H1) := ⟨g_seqF⟩
def Rng (vs : List V) (H : Hp) (R : It → Hp → Prop) : Prop := ∃ j : Int, vs = [.int j] ∧ -(2 ^ 62) ≤ j ∧ j < 2 ^ 62 ∧ R (Itr 0 j.toNat) H
def Rng2 (vs : List V) (H : Hp) (R : It → Hp → Prop) : Prop := ∃ i j : Int, vs = [.int i, .int j] ∧ (-(2 ^ 62) ≤ i ∧ i < 2 ^ 62 ∧ -(2 ^ 62) ≤ j ∧ j < 2 ^ 62) ∧ R (Itr i (j - i).toNat) H
theorem g_rng1 {R : It → Hp → Prop} (h : tl σ H fun vs H1 => Rng vs H1 R) : iRng1 tl σ H R := h
instance {R : It → Hp → Prop} : St1 (iRng1 tl σ H R) (tl σ H fun vs H1 => Rng vs H1 R) := ⟨g_rng1⟩
theorem g_rng2 {R : It → Hp → Prop} (h : tl σ H fun vs H1 => Rng2 vs H1 R) : iRng2 tl σ H R := h
instance {R : It → Hp → Prop} : St1 (iRng2 tl σ H R) (tl σ H fun vs H1 => Rng2 vs H1 R) := ⟨g_rng2⟩
theorem g_rngI {R : It → Hp → Prop} {j : Int} (h1 : -4611686018427387904 ≤ j) (h2 : j < 4611686018427387904) (h : R (Itr 0 j.toNat) H) : Rng [.int j] H R := ⟨j, rfl, h1, h2, h⟩
theorem g_rngII {R : It → Hp → Prop} {i j : Int} (h1 : -4611686018427387904 ≤ j) (h2 : j < 4611686018427387904) (h3 : -4611686018427387904 ≤ i) (h4 : i < 4611686018427387904) (h : R (Itr i (j - i).toNat) H) : Rng2 [.int i, .int j] H R := ⟨i, j, rfl, ⟨h3, h4, h1, h2⟩, h⟩
def Wlk (K : PySem.W.Frag) (x : V) (H : Hp) (R : It → Hp → Prop) : Prop := ∃ a, x = .ref a ∧ (∃ xs, SqL K H a xs) ∧ R (Itl K a) H
def WlkT (K : PySem.W.Frag) (x : V) (H : Hp) (R : It → Hp → Prop) : Prop := ∃ a, x = .ref a ∧ (∃ xs, SqT K H a xs) ∧ R (Itt K a) H
theorem g_wlk {R : It → Hp → Prop} (h : te σ H fun x H1 => Wlk K x H1 R) : iList K te σ H R := h
instance {R : It → Hp → Prop} : St1 (iList K te σ H R) (te σ H fun x H1 => Wlk K x H1 R) := ⟨g_wlk⟩
theorem g_wlkT {R : It → Hp → Prop} (h : te σ H fun x H1 => WlkT K x H1 R) : iTup K te σ H R := h
instance {R : It → Hp → Prop} : St1 (iTup K te σ H R) (te σ H fun x H1 => WlkT K x H1 R) := ⟨g_wlkT⟩
theorem g_wlkL {R : It → Hp → Prop} (s : S K C H Φ mt) (m : (.ref a, .l ws) ∈ Φ) (h : R (Itl K a) H) : Wlk K (.ref a) H R := by
  cases s.rep (.f m) with
  | l hq _ => exact ⟨a, rfl, ⟨_, sq_of hq⟩, h⟩
theorem g_wlkU {R : It → Hp → Prop} (s : S K C H Φ mt) (m : (.ref a, .t ws) ∈ Φ) (h : R (Itt K a) H) : WlkT K (.ref a) H R := by
  cases s.rep (.f m) with
  | t hq _ => exact ⟨a, rfl, ⟨_, st_of hq⟩, h⟩
theorem mem_snoc {α : Type} {P : Nat → α → Prop} {xs : List α} {x : α} (h : ∀ j x, xs[j]? = some x → P j x) (hx : P xs.length x) : ∀ j y, (xs ++ [x])[j]? = some y → P j y := fun j y e => by
  by_cases hj : j < xs.length
  · rw [List.getElem?_append_left hj] at e; exact h j y e
  · by_cases hj2 : j = xs.length
    · subst hj2; rw [List.getElem?_concat_length] at e; cases e; exact hx
    · rw [List.getElem?_eq_none (by rw [List.length_append]; simp; omega)] at e; cases e
/-- [.. for _ in range(..)], of things without parts -/
theorem g_lcR {α : Type} (enc : α → V) (encW : α → W) (P : Nat → α → Prop) {σ1 : V → L2.St} (kn : ∀ Ψ x, Kn Ψ (enc x) (encW x)) (s : S K C H Φ mt) (hn : n < 100000) (hw : Wp σ vs σ0) (hs : ∀ x, SetAt σ0 i (some x) (σ1 x)) (hw2 : ∀ x, Wp (σ1 x) vs σ0)
    (body : ∀ (j : Nat) X H', j < n → S K C H' Φ (X :: mt) → ∀ N : VK, (∀ x H'', P j x → S K C H'' Φ (X :: mt) → N (enc x) H'') → te (σ1 (.int (lo + j))) H' N)
    (k : ∀ D (xs : List α) H', xs.length = n → (∀ j x, xs[j]? = some x → P j x) → S K C H' ((.ref D, .l (xs.map encW)) :: Φ) mt → Q (.ref D) H') : LcW (Itr lo n) (gName i) tYes te vs σ H Q := by
  have hw := hw.h
  subst hw
  intro D hD
  refine lc_range (fun j H' => ∃ xs : List α, xs.length = j ∧ (∀ j x, xs[j]? = some x → P j x) ∧ S K C H' Φ ((D, Eq (.lst (xs.map enc))) :: mt)) ⟨[], rfl, fun j x h => by simp at h, s.addM hD (Ex.new hD) upd_same rfl⟩ ?_ ?_
  · rintro j H1 hj ⟨xs, hl, hP, s1⟩
    unfold gName
    rw [(hs (V.int (lo + j))).h]
    refine ⟨(hw2 _).h, ?_⟩
    dsimp only [tYes]
    rw [if_pos rfl]
    refine body j _ H1 hj s1 _ fun x H2 hx s2 => ⟨_, s2.at List.mem_cons_self, sz_lt (by rw [List.length_map]; omega), xs ++ [x], by rw [List.length_append, hl]; rfl, mem_snoc hP (by rw [hl]; exact hx), ?_⟩
    rw [List.map_append]
    exact s2.set .hd rfl
  · rintro H1 ⟨xs, hl, hP, s1⟩
    exact k D xs H1 hl hP (s1.fixL .hd (.is xs enc encW fun x _ => kn _ x))
theorem rep_map {β : Type} {encB : β → V} {encBW : β → W} (knB : ∀ K C H v x, Rep K C H v (encBW x) → v = encB x) {H : Hp} : ∀ (ks : List β) {us : List V}, RepL K C H us (ks.map encBW) → us = ks.map encB
  | [], us, r => by cases r; rfl
  | x :: ks, us, r => by
    cases r with
    | cons h r => rw [knB _ _ _ _ _ h, rep_map knB ks r]; rfl
/-- the same over a list of things without parts -/
theorem g_lcL {α β : Type} (enc : α → V) (encW : α → W) (encB : β → V) (encBW : β → W) (ks : List β) (P : Nat → α → Prop) {σ1 : V → L2.St} (kn : ∀ Ψ x, Kn Ψ (enc x) (encW x)) (knB : ∀ K C H v x, Rep K C H v (encBW x) → v = encB x) (s : S K C H Φ mt) (ha : (.ref a, .l (ks.map encBW)) ∈ Φ) (hn : ks.length < 100000) (hw : Wp σ vs σ0) (hs : ∀ x, SetAt σ0 i (some x) (σ1 x)) (hw2 : ∀ x, Wp (σ1 x) vs σ0)
    (body : ∀ (j : Nat) (y : β) X H', ks[j]? = some y → S K C H' Φ (X :: mt) → ∀ N : VK, (∀ x H'', P j x → S K C H'' Φ (X :: mt) → N (enc x) H'') → te (σ1 (encB y)) H' N)
    (k : ∀ D (xs : List α) H', xs.length = ks.length → (∀ j x, xs[j]? = some x → P j x) → S K C H' ((.ref D, .l (xs.map encW)) :: Φ) mt → Q (.ref D) H') : LcW (Itl K a) (gName i) tYes te vs σ H Q := by
  have hw := hw.h
  subst hw
  intro D hD
  have hL : ∀ {H' Φ' mt'}, S K C H' Φ' mt' → (V.ref a, W.l (ks.map encBW)) ∈ Φ' → SqL K H' a (ks.map encB) := fun s' m => by
    cases s'.rep (.f m) with
    | l hq hr =>
      rw [rep_map knB _ hr] at hq
      exact sq_of hq
  refine (show ∃ W : Nat → Nat → Hp → Prop, _ from lc_list (K := K) (a := a) (xs := ks.map encB) (fun j H' => ∃ xs : List α, xs.length = j ∧ (∀ j x, xs[j]? = some x → P j x) ∧ S K C H' Φ ((D, Eq (.lst (xs.map enc))) :: mt)) ⟨[], rfl, fun j x h => by simp at h, s.addM hD (Ex.new hD) upd_same rfl⟩ (fun j H' _ ⟨_, _, _, s'⟩ => hL s' ha) ?_ ?_)
  · rintro j x H1 hj ⟨xs, hl, hP, s1⟩
    rw [List.getElem?_map] at hj
    cases hy : ks[j]? with
    | none => rw [hy] at hj; cases hj
    | some y =>
      rw [hy] at hj
      cases hj
      unfold gName
      rw [(hs (encB y)).h]
      refine ⟨(hw2 _).h, ?_⟩
      dsimp only [tYes]
      rw [if_pos rfl]
      have hjl : j < ks.length := (List.getElem?_eq_some_iff.mp hy).1
      refine body j y _ H1 hy s1 _ fun x H2 hx s2 => ⟨_, s2.at List.mem_cons_self, sz_lt (by rw [List.length_map]; omega), xs ++ [x], by rw [List.length_append, hl]; rfl, mem_snoc hP (by rw [hl]; exact hx), ?_⟩
      rw [List.map_append]
      exact s2.set .hd rfl
  · rintro H1 ⟨xs, hl, hP, s1⟩
    exact k D xs H1 (by rw [hl, List.length_map]) hP (s1.fixL .hd (.is xs enc encW fun x _ => kn _ x))
/-! for -/
theorem g_forR (Pv : Nat → L2.St → Hp → Prop) (h0 : Pv 0 σ H)
    (hs : ∀ j σ' H', j < n → Pv j σ' H' → tb { D with nx := Pv (j + 1), ct := Pv (j + 1), bk := D.nx } (σ'.set i (some (.int (lo + j)))) H') (hd : ∀ σ' H', Pv n σ' H' → D.nx σ' H') : ForW (Itr lo n) (gName i) tb D σ H :=
  for_range Pv h0 hs hd
theorem g_forL (Pv : Nat → L2.St → Hp → Prop) (h0 : Pv 0 σ H) (hl : ∀ j σ' H', Pv j σ' H' → ∃ Φ' mt', S K C H' Φ' mt' ∧ (.ref a, .l ws) ∈ Φ')
    (hs : ∀ j w v σ' H', ws[j]? = some w → Pv j σ' H' → (∀ Φ' mt', S K C H' Φ' mt' → (.ref a, .l ws) ∈ Φ' → S K C H' ((v, w) :: Φ') mt') → tb { D with nx := Pv (j + 1), ct := Pv (j + 1), bk := D.nx } (σ'.set i (some v)) H')
    (hd : ∀ σ' H', Pv ws.length σ' H' → D.nx σ' H') : ForW (Itl K a) (gName i) tb D σ H := by
  refine ⟨fun j m σ H => m = ws.length - j ∧ j ≤ ws.length ∧ Pv j σ H, ⟨ws.length, by simp, Nat.zero_le _, h0⟩, ?_⟩
  rintro j m σ' H' ⟨rfl, hi, p⟩
  obtain ⟨Φ', mt', s', m'⟩ := hl j σ' H' p
  by_cases hlt : j < ws.length
  · obtain ⟨vs, v, h1, h2, h3⟩ := s'.grow m' j (List.getElem?_eq_getElem hlt)
    refine .inr ⟨⟨vs, v, h1, h2⟩, Pv (j + 1), fun σ2 H2 p' => ⟨ws.length - (j + 1), by omega, rfl, hlt, p'⟩, fun x H2 y => ?_⟩
    obtain ⟨e, y⟩ := y
    subst e
    refine hs j _ x σ' _ (List.getElem?_eq_getElem hlt) p fun Φ2 mt2 s2 m2 => ?_
    obtain ⟨vs2, v2, g1, g2, g3⟩ := s2.grow m2 j (List.getElem?_eq_getElem hlt)
    have := y vs2 g1
    rw [g2] at this
    cases this
    exact g3
  · have e : j = ws.length := by omega
    subst e
    obtain ⟨vs, hv, hlen, _⟩ := s'.open m'
    exact .inl ⟨⟨vs, hv, by omega⟩, hd _ _ p⟩
end

/-! ### more steps: lists put together, cut, made to change; marks made and asked -/
section
variable {K : PySem.W.Frag} {C : Addr} {σ : L2.St} {H H1 : Hp} {Φ : List (V × W)} {mt nt : List (Addr × (HO → Prop))} {Q : VK} {D : Ends} {tz tu tw : TS} {ta tb tc te to : TE} {t u : TT} {tl tr tk : TA} {v x y z : V} {vs us xs : List V} {ws ws' : List W} {w : W} {p a q : Addr}
class AppW (ws xs : List W) (zs : outParam (List W)) : Prop where
  h : ws ++ xs = zs
instance {ws xs : List W} : AppW ws xs (ws ++ xs) := ⟨rfl⟩
instance {xs : List W} : AppW [] xs xs := ⟨rfl⟩
instance {w : W} {ws xs zs : List W} [q : AppW ws xs zs] : AppW (w :: ws) xs (w :: zs) := ⟨by rw [List.cons_append, q.h]⟩
instance {ks : List Str} {xs : List W} {js : List Str} [q : AsS xs js] : AppW (ks.map W.s) xs ((ks ++ js).map W.s) := ⟨by rw [q.h, List.map_append]⟩
instance {ks js : List Str} : AppW (ks.map W.s) (js.map W.s) ((ks ++ js).map W.s) := ⟨by rw [List.map_append]⟩
instance {ks : List Int} {xs : List W} {js : List Int} [q : AsI xs js] : AppW (ks.map W.i) xs ((ks ++ js).map W.i) := ⟨by rw [q.h, List.map_append]⟩
instance {w : Str} {ks : List Str} : AppW [.s w] (ks.map W.s) ((w :: ks).map W.s) := ⟨rfl⟩
class TakeW (ws : List W) (n : Nat) (us : outParam (List W)) : Prop where
  h : ws.take n = us
instance {ws : List W} {n : Nat} : TakeW ws n (ws.take n) := ⟨rfl⟩
instance {n : Nat} : TakeW [] n [] := ⟨by cases n <;> rfl⟩
instance {ws : List W} : TakeW ws 0 [] := ⟨rfl⟩
instance {w : W} {ws us : List W} {n : Nat} [q : TakeW ws n us] : TakeW (w :: ws) (n + 1) (w :: us) := ⟨by rw [List.take_succ_cons, q.h]⟩
instance {α : Type} {ks : List α} {f : α → W} {n : Nat} : TakeW (ks.map f) n ((ks.take n).map f) := ⟨by rw [List.map_take]⟩
class DropW (ws : List W) (n : Nat) (us : outParam (List W)) : Prop where
  h : ws.drop n = us
instance {ws : List W} {n : Nat} : DropW ws n (ws.drop n) := ⟨rfl⟩
instance {n : Nat} : DropW [] n [] := ⟨by cases n <;> rfl⟩
instance {ws : List W} : DropW ws 0 ws := ⟨rfl⟩
instance {w : W} {ws us : List W} {n : Nat} [q : DropW ws n us] : DropW (w :: ws) (n + 1) us := ⟨by rw [List.drop_succ_cons, q.h]⟩
instance {α : Type} {ks : List α} {f : α → W} {n : Nat} : DropW (ks.map f) n ((ks.drop n).map f) := ⟨by rw [List.map_drop]⟩
theorem KnL.take : ∀ {vs : List V} {ws : List W} (n : Nat), vs.length = ws.length → KnL (vs.zip ws ++ Φ) (vs.take n) (ws.take n)
  | [], [], n, _ => by cases n <;> exact .nil
  | v :: vs, w :: ws, 0, _ => .nil
  | v :: vs, w :: ws, n + 1, h => .cons (.f List.mem_cons_self) (KnL.mono (fun q hq => List.mem_cons_of_mem _ hq) (KnL.take n (Nat.succ.inj h)))
  | [], _ :: _, _, h => nomatch h
  | _ :: _, [], _, h => nomatch h
theorem KnL.drop : ∀ {vs : List V} {ws : List W} (n : Nat), vs.length = ws.length → KnL (vs.zip ws ++ Φ) (vs.drop n) (ws.drop n)
  | [], [], n, _ => by cases n <;> exact .nil
  | v :: vs, w :: ws, 0, h => knl_zip h
  | v :: vs, w :: ws, n + 1, h => KnL.mono (fun q hq => List.mem_cons_of_mem _ hq) (KnL.drop n (Nat.succ.inj h))
  | [], _ :: _, _, h => nomatch h
  | _ :: _, [], _, h => nomatch h
theorem zip_sub {A : List (V × W)} : ∀ r ∈ Φ, r ∈ A ++ Φ := fun r hr => List.mem_append_right _ hr
theorem g_cat (s : S K C H Φ mt) (h1 : (.ref p, .l ws) ∈ Φ) (h2 : (.ref q, .l ws') ∈ Φ) (hz : ws.length + ws'.length ≤ 100000) {zs : List W} (ap : AppW ws ws' zs) (k : ∀ r H', S K C H' ((.ref r, .l zs) :: Φ) mt → Q (.ref r) H') : rCat (.ref p) (.ref q) H Q := by
  obtain ⟨vs, g1, g2, s1⟩ := s.openH h1
  obtain ⟨us, g3, g4, s2⟩ := s1.openH (zip_sub _ h2)
  refine ⟨p, q, vs, us, rfl, rfl, g1, g3, sz_of (by omega), fun r hr => k r _ ?_⟩
  have kn : KnL (us.zip ws' ++ (vs.zip ws ++ Φ)) (vs ++ us) zs := by
    rw [← ap.h]
    exact .app (KnL.mono zip_sub (knl_zip g2)) (knl_zip g4)
  exact (s2.addL hr (Ex.new hr) upd_same kn).to (fun z hz => by
    rcases List.mem_cons.mp hz with rfl | hz
    · exact List.mem_cons_self
    · exact List.mem_cons_of_mem _ (List.mem_append_right _ (List.mem_append_right _ hz))) (List.Sublist.refl _)
theorem cutV_to {vs : List V} (n : Nat) : cutV vs none (some (n : Int)) = vs.take n := by
  unfold cutV
  rw [HT.sIx_none, HT.sIx_nat, List.drop_zero, Nat.sub_zero]
  by_cases h : n ≤ vs.length
  · rw [Nat.min_eq_left h]
  · rw [Nat.min_eq_right (by omega), List.take_of_length_le (Nat.le_refl _), List.take_of_length_le (by omega)]
theorem cutV_from {vs : List V} (n : Nat) : cutV vs (some (n : Int)) none = vs.drop n := by
  unfold cutV
  rw [HT.sIx_none, HT.sIx_nat]
  by_cases h : n ≤ vs.length
  · rw [Nat.min_eq_left h, List.take_of_length_le (by rw [List.length_drop]; omega)]
  · rw [Nat.min_eq_right (by omega), List.drop_of_length_le (Nat.le_refl _), List.drop_of_length_le (by omega)]; simp
theorem g_slTo {i : Int} {n : Nat} (s : S K C H Φ mt) (h : (.ref p, .l ws) ∈ Φ) (hi : Ix i n) {us : List W} (tk : TakeW ws n us) (k : ∀ r H', S K C H' ((.ref r, .l us) :: Φ) mt → Q (.ref r) H') : rSlL K (.ref p) none (some i) H Q := by
  obtain ⟨vs, g1, g2, s1⟩ := s.open h
  obtain rfl := hi.h
  refine ⟨p, vs, rfl, g1, fun r hr => k r _ ?_⟩
  rw [cutV_to]
  exact (s1.addL hr (Ex.new hr) upd_same (by rw [← tk.h]; exact KnL.take n g2)).to (fun z hz => mem3 hz) (List.Sublist.refl _)
theorem g_slFrom {i : Int} {n : Nat} (s : S K C H Φ mt) (h : (.ref p, .l ws) ∈ Φ) (hi : Ix i n) {us : List W} (tk : DropW ws n us) (k : ∀ r H', S K C H' ((.ref r, .l us) :: Φ) mt → Q (.ref r) H') : rSlL K (.ref p) (some i) none H Q := by
  obtain ⟨vs, g1, g2, s1⟩ := s.open h
  obtain rfl := hi.h
  refine ⟨p, vs, rfl, g1, fun r hr => k r _ ?_⟩
  rw [cutV_from]
  exact (s1.addL hr (Ex.new hr) upd_same (by rw [← tk.h]; exact KnL.drop n g2)).to (fun z hz => mem3 hz) (List.Sublist.refl _)
theorem g_slS {t : Str} {lo hi : Option Int} (hz : t.length ≤ 100000) (k : Q (.str (cutS t lo hi)) H) : rSlS (.str t) lo hi H Q := ⟨t, rfl, sz_of hz, k⟩
/-! lists that may change -/
theorem g_mLst (h : tl σ H fun xs H1 => NewM xs H1 Q) : tMut (tLst tl) σ H Q := h
instance : St1 (tMut (tLst tl) σ H Q) (tl σ H fun xs H1 => NewM xs H1 Q) := ⟨g_mLst⟩
theorem g_newMM (s : S K C H Φ mt) (hz : xs.length ≤ 100000) (k : ∀ p H1, S K C H1 Φ ((p, Eq (.lst xs)) :: mt) → Q (.ref p) H1) : NewM xs H Q :=
  ⟨sz_of hz, fun p hp => k p _ (s.addM hp (Ex.new hp) upd_same rfl)⟩
instance {sp : Sp} {dvs : List V} {E : XK} : St1 (tMut (tCall sp dvs E tl) σ H Q) (tCall sp dvs E tl σ H Q) := ⟨fun h => h⟩
def rCatM : R2 := rCat
theorem g_mCat (h : ta σ H fun x H1 => tb σ H1 fun y H2 => rCatM x y H2 Q) : tMut (tOp rCat ta tb) σ H Q := h
instance : St1 (tMut (tOp rCat ta tb) σ H Q) (ta σ H fun x H1 => tb σ H1 fun y H2 => rCatM x y H2 Q) := ⟨g_mCat⟩
/-- the items that a list of items told stands for -/
class Vs (ws : List W) (vs : outParam (List V)) : Prop where
  h : ∀ (K : PySem.W.Frag) (C : Addr) (H : Hp) (us : List V), RepL K C H us ws → us = vs
instance : Vs [] [] := ⟨fun _ _ _ _ r => by cases r; rfl⟩
instance {w : W} {v : V} {ws : List W} {vs : List V} [a : Sc w v] [b : Vs ws vs] : Vs (w :: ws) (v :: vs) := ⟨fun K C H us r => by cases r with | cons h r => rw [a.h K C H _ h, b.h K C H _ r]⟩
instance {ks : List Str} : Vs (ks.map W.s) (ks.map V.str) := ⟨fun K C H us r => rep_strs r⟩
instance {ks : List Int} : Vs (ks.map W.i) (ks.map V.int) := ⟨fun K C H us r => rep_map (fun K C H v x r => by cases r; rfl) ks r⟩
theorem g_catM (s : S K C H Φ mt) (h1 : (.ref p, .l ws) ∈ Φ) (h2 : (.ref q, .l ws') ∈ Φ) (hz : ws.length + ws'.length ≤ 100000) {zs : List W} (ap : AppW ws ws' zs) (hv : Vs zs vs) (k : ∀ r H', S K C H' Φ ((r, Eq (.lst vs)) :: mt) → Q (.ref r) H') : rCatM (.ref p) (.ref q) H Q := by
  obtain ⟨vs1, g1, g2, s1⟩ := s.openH h1
  obtain ⟨us, g3, g4, s2⟩ := s1.openH (zip_sub _ h2)
  refine ⟨p, q, vs1, us, rfl, rfl, g1, g3, sz_of (by omega), fun r hr => k r _ ?_⟩
  have kn : KnL (us.zip ws' ++ (vs1.zip ws ++ Φ)) (vs1 ++ us) zs := by
    rw [← ap.h]
    exact .app (KnL.mono zip_sub (knl_zip g2)) (knl_zip g4)
  have := hv.h K C H _ (s2.repL kn)
  subst this
  exact s.addM hr (Ex.new hr) upd_same rfl
def rListM (K : PySem.W.Frag) : List V → Hp → VK → Prop := rListS K
theorem g_mList (h : tl σ H fun vs H1 => rListM K vs H1 Q) : tMut (tCB (rListS K) tl) σ H Q := h
instance : St1 (tMut (tCB (rListS K) tl) σ H Q) (tl σ H fun vs H1 => rListM K vs H1 Q) := ⟨g_mList⟩
theorem g_listM (s : S K C H Φ mt) (h : (.ref p, .l ws) ∈ Φ) (hv : Vs ws vs) (k : ∀ q H', S K C H' Φ ((q, Eq (.lst vs)) :: mt) → Q (.ref q) H') : rListM K [.ref p] H Q := by
  obtain ⟨us, h1, h2, s'⟩ := s.open h
  have := hv.h K C H _ (s'.repL (knl_zip h2))
  subst this
  exact ⟨p, _, rfl, .inl h1, fun q hn => k q _ (s.addM hn (Ex.new hn) upd_same rfl)⟩
/-- a cell, handed on: told as it stands, from here on it stays -/
theorem S.freeze (s : S K C H Φ mt) (h : RmM a (Eq (.lst vs)) mt nt) (kn : KnL Φ vs ws) : S K C H ((.ref a, .l ws) :: Φ) nt := s.fixL h kn
theorem g_joinM {ks : List Str} {c : Str} (s : S K C H Φ mt) (h : (p, Eq (.lst (ks.map V.str))) ∈ mt) (hz : (ks.map (·.length)).sum + ks.length * c.length ≤ 16777216) (k : Q (.str (Txt.join c ks)) H) : rJoin K (.str c) [.ref p] H Q :=
  ⟨c, p, ks, rfl, rfl, .inl (sq_of (s.at h)), hz, k⟩
theorem g_appendS {ks : List Str} {y : Str} (s : S K C H Φ mt) (h : (p, Eq (.lst (ks.map V.str))) ∈ mt) (hz : ks.length < 100000) (hs : SetM p (Eq (.lst ((ks ++ [y]).map V.str))) mt nt) (k : ∀ H', S K C H' Φ nt → Q .non H') : rAppend (.ref p) [.str y] H Q :=
  g_append s h (by rw [List.length_map]; exact hz) (by rw [show ks.map V.str ++ [V.str y] = (ks ++ [y]).map V.str by rw [List.map_append]; rfl]; exact hs) k
theorem g_setLS {R : Hp → Prop} {ks : List Str} {y : Str} {i : Int} {j : Nat} (s : S K C H Φ mt) (h : (p, Eq (.lst (ks.map V.str))) ∈ mt) (hi : Ix i j) (hj : j < ks.length) (hs : SetM p (Eq (.lst ((ks.set j y).map V.str))) mt nt) (k : ∀ H', S K C H' Φ nt → R H') : rSetL (.ref p) (.int i) (.str y) H R := by
  obtain rfl := hi.h
  exact ⟨p, _, j, j, rfl, rfl, s.at h, ixN_nat (by rw [List.length_map]; exact hj), k _ (s.set hs (by rw [List.map_set]))⟩
theorem sum_le {ks : List Str} {n : Nat} (h : ∀ k ∈ ks, k.length ≤ n) : (ks.map (·.length)).sum ≤ ks.length * n := by
  induction ks with
  | nil => simp
  | cons a l ih =>
    have h1 := h a List.mem_cons_self
    have h2 := ih fun s hs => h s (List.mem_cons_of_mem _ hs)
    rw [List.map_cons, List.sum_cons, List.length_cons, Nat.succ_mul]
    omega
/-! int of a truth -/
theorem g_intNS {m n : Str} (h1 : m = n → Q (.int 0) H) (h2 : ¬ m = n → Q (.int 1) H) : qInt1 [.bl (!decide (V.str m = V.str n))] H Q := by
  refine g_intB ?_
  by_cases h : m = n
  · rw [decide_eq_true (h ▸ rfl)]; exact h1 h
  · rw [decide_eq_false (fun e => h (V.str.inj e))]; exact h2 h
theorem g_intD {P : Prop} {i : Decidable P} (h1 : P → Q (.int 1) H) (h2 : ¬ P → Q (.int 0) H) : qInt1 [.bl (decide P)] H Q := by
  refine g_intB ?_
  by_cases h : P
  · rw [decide_eq_true h]; exact h1 h
  · rw [decide_eq_false h]; exact h2 h
/-! f-strings -/
theorem g_jNil {acc : Str} {R : Str → Hp → Prop} (h : R acc H) : tJs [] acc σ H R := h
theorem g_jCons {ts : List TE} {acc : Str} {R : Str → Hp → Prop} (h : te σ H fun x H1 => ∃ y : Str, x = .str y ∧ (acc ++ y).length ≤ sizeLine ∧ tJs ts (acc ++ y) σ H1 R) : tJs (te :: ts) acc σ H R := h
end
/-! ### marks -/
class OiV (v : V) (o : outParam (Option Int)) : Prop where
  h : v = oi o
instance : OiV .non none := ⟨rfl⟩
instance {i : Int} : OiV (.int i) (some i) := ⟨rfl⟩
instance {o : Option Int} : OiV (oi o) o := ⟨rfl⟩
section
variable {K : PySem.W.Frag} {C : Addr} {σ : L2.St} {H H1 : Hp} {Φ : List (V × W)} {mt nt : List (Addr × (HO → Prop))} {Q : VK} {ta te : TE} {tl tr tk : TA} {v x y z v4 v5 mk : V} {vs us xs dvs : List V} {p a q : Addr} {sp : Sp} {E : XK} {lt pts : Str} {num : Int} {ks : List Str} {yr cp : Option Int} {n n' : Nat} {gV : List V → List V → List V}
def MakeW (C : Addr) (sp : Sp) (E : XK) (g : V → List V) (H1 : Hp) (Q : VK) : Prop := ∀ x dx, H1 x = none → H1 dx = none → dx ≠ x → sp (g (.ref x)) (upd (upd H1 dx (.own x)) x (.ins C dx [])) (fun v H2 => v = .non ∧ Q (.ref x) H2) E
theorem g_make (h : tl σ H fun vs H1 => MakeW C sp E (fun x => x :: (vs ++ dvs)) H1 Q) : tMake C sp dvs E tl σ H Q := h
instance : St1 (tMake C sp dvs E tl σ H Q) (tl σ H fun vs H1 => MakeW C sp E (fun x => x :: (vs ++ dvs)) H1 Q) := ⟨g_make⟩
def MakeN (C : Addr) (n n' : Nat) (sp : Sp) (gV : List V → List V → List V) (E : XK) (vs zs : List V) (H2 : Hp) (Q : VK) : Prop := vs.length = n ∧ zs.length = n' ∧ MakeW C sp E (fun x => gV (x :: vs) zs) H2 Q
theorem g_makeN (h : tl σ H fun vs H1 => tk σ H1 fun zs H2 => MakeN C n n' sp gV E vs zs H2 Q) : tMakeN C n n' sp gV E tl tk σ H Q := h
instance : St1 (tMakeN C n n' sp gV E tl tk σ H Q) (tl σ H fun vs H1 => tk σ H1 fun zs H2 => MakeN C n n' sp gV E vs zs H2 Q) := ⟨g_makeN⟩
theorem g_makeK (h : tl σ H fun vs H1 => tk σ H1 fun zs H2 => MakeN C n n' sp gV E vs zs H2 Q) : tMakeK C n n' sp gV E tl tk σ H Q := h
instance : St1 (tMakeK C n n' sp gV E tl tk σ H Q) (tl σ H fun vs H1 => tk σ H1 fun zs H2 => MakeN C n n' sp gV E vs zs H2 Q) := ⟨g_makeK⟩
theorem g_mkN (h1 : vs.length = n) (h2 : xs.length = n') (h : MakeW C sp E (fun x => gV (x :: vs) xs) H Q) : MakeN C n n' sp gV E vs xs H Q := ⟨h1, h2, h⟩
theorem mkin_l (s : S K C H Φ mt) (h : (.ref a, .l (ks.map W.s)) ∈ Φ) : MkIn H (.ref a) ks := by
  obtain ⟨vs, h1, h2, s'⟩ := s.openH h
  obtain rfl := rep_strs (s'.repL (knl_zip h2))
  exact .inr ⟨a, rfl, .inl h1⟩
theorem mkin_l0 (s : S K C H Φ mt) (h : (.ref a, .l []) ∈ Φ) : MkIn H (.ref a) [] := mkin_l (ks := []) s h
theorem mkin_t (s : S K C H Φ mt) (h : (.ref a, .t (ks.map W.s)) ∈ Φ) : MkIn H (.ref a) ks := by
  obtain ⟨⟨kb, g1, g2, g3⟩, d⟩ := s
  cases g2 _ h with
  | t hq hr => obtain rfl := rep_strs hr; exact .inr ⟨a, rfl, .inr (g1 _ _ hq)⟩
theorem mkin_m (s : S K C H Φ mt) (h : (a, Eq (.lst (ks.map V.str))) ∈ mt) : MkIn H (.ref a) ks := .inr ⟨a, rfl, .inl (s.at h)⟩
theorem mkin_n : MkIn H .non [] := .inl ⟨rfl, rfl⟩
theorem g_mark {g : V → List V} (s : S K C H Φ mt) (hv : ∀ x, g x = [x, .str lt, .int num, .str pts, mk, v4, v5]) (c4 : OiV v4 yr) (c5 : OiV v5 cp) (hm : MkIn H mk ks) (ok : (⟨lt, num, pts, ks, yr, cp⟩ : MK).Ok)
    (k : ∀ x H', S K C H' ((.ref x, .m ⟨lt, num, pts, ks, yr, cp⟩) :: Φ) mt → Q (.ref x) H') : MakeW C (spMark C) E g H Q := by
  intro x dx hx hdx hne
  rw [hv, c4.h, c5.h]
  have e1 : Ex H (upd (upd H dx (.own x)) x (.ins C dx [])) := (Ex.new hdx).trans (Ex.new (by rw [upd_ne hne.symm]; exact hx))
  exact ⟨H, x, dx, ⟨lt, num, pts, ks, yr, cp⟩, mk, rfl, ok, e1, hx, upd_same, hm.ex e1, fun H' e h => ⟨rfl, k x H' (s.addMark hx e h ok)⟩⟩
/-! methods of marks -/
def MethW (C : Addr) (m : Str) (sp : Sp) (dvs : List V) (E : XK) (t : TA) (σ : L2.St) (Q : VK) (x : V) (H1 : Hp) : Prop := ∃ a dx fs, x = .ref a ∧ H1 a = some (.ins C dx fs) ∧ fs.lookup m = none ∧ t σ H1 fun vs H2 => sp (x :: (vs ++ dvs)) H2 Q E
theorem g_meth {m : Str} (h : ta σ H fun x H1 => MethW C m sp dvs E tl σ Q x H1) : tMeth C m sp dvs E ta tl σ H Q := h
instance {m : Str} : St1 (tMeth C m sp dvs E ta tl σ H Q) (ta σ H fun x H1 => MethW C m sp dvs E tl σ Q x H1) := ⟨g_meth⟩
theorem g_methM {m : Str} {k : MK} (s : S K C H Φ mt) (h : (.ref a, .m k) ∈ Φ) (hm : m ≠ "_parts") (hm2 : m ≠ "_text") (q : tl σ H fun vs H2 => sp (.ref a :: (vs ++ dvs)) H2 Q E) : MethW C m sp dvs E tl σ Q (.ref a) H := by
  cases s.rep (.f h) with
  | m ha ok =>
    obtain ⟨dx, pa, ma, h1, h2, h3⟩ := ha
    exact ⟨a, dx, _, rfl, h1, by rw [lk_tail (beq_eq_false_iff_ne.mpr hm), lk_tail (beq_eq_false_iff_ne.mpr hm2)]; rfl, q⟩
theorem S.mark {k : MK} (s : S K C H Φ mt) (h : (.ref a, .m k) ∈ Φ) : MarkAt C H a k ∧ k.Ok := by
  cases s.rep (.f h) with
  | m ha ok => exact ⟨ha, ok⟩
end

/-! ### what values are as data: compared, shown -/
mutual
def W.data : W → PyData
  | .i k => .int k
  | .b k => .bool k
  | .n => .none
  | .s k => .str k
  | .l ks => .list (W.datas ks)
  | .t ks => .tuple (W.datas ks)
  | .m _ => .none
  | .q _ => .none
def W.datas : List W → List PyData
  | [] => []
  | x :: xs => x.data :: W.datas xs
end
mutual
def W.plain : W → Bool
  | .m _ => false
  | .q _ => false
  | .l ks => W.plains ks
  | .t ks => W.plains ks
  | .i _ => true
  | .b _ => true
  | .n => true
  | .s _ => true
def W.plains : List W → Bool
  | [] => true
  | x :: xs => x.plain && W.plains xs
end
theorem rep_dp {K : PySem.W.Frag} {C : Addr} {H : Hp} {v : V} {w : W} (r : Rep K C H v w) : w.plain = true → Dp K H v w.data :=
  Rep.rec (motive_1 := fun v w _ => w.plain = true → Dp K H v w.data) (motive_2 := fun vs ws _ => W.plains ws = true → DpAll K H vs (W.datas ws))
    (fun n _ => by simp only [W.data]; exact .int n) (fun c _ => by simp only [W.data]; exact .bl c) (fun _ => by simp only [W.data]; exact .non) (fun t _ => by simp only [W.data]; exact .str t)
    (fun h r ih p => by simp only [W.data]; exact .lst (sq_of h) (ih (by simpa only [W.plain] using p))) (fun h r ih p => by simp only [W.data]; exact .tup (st_of h) (ih (by simpa only [W.plain] using p)))
    (fun _ _ p => by simp [W.plain] at p) (fun _ p => by simp [W.plain] at p) (fun _ => by simp only [W.datas]; exact .nil)
    (fun h r ih1 ih2 p => by simp only [W.plains, Bool.and_eq_true] at p; simp only [W.datas]; exact .cons (ih1 p.1) (ih2 p.2)) r
class SOk (t : Str) : Prop where
  h : PyData.strOk t = true
  l : t.length ≤ 60000
class SOkL (ks : List Str) : Prop where
  h : ∀ k ∈ ks, PyData.strOk k = true ∧ k.length ≤ 2000
  l : ks.length ≤ 100
class IOk (n : Int) : Prop where
  h : n.natAbs.log2 < 1920
class OOk (o : Option Int) : Prop where
  h : ∀ n, o = some n → n.natAbs.log2 < 1920
/-- a value that shows, and compares: d its depth, z how long it shows -/
class Ly (w : W) (d z : outParam Nat) : Prop where
  p : w.plain = true
  c : w.data.canLay0 = true
  d1 : w.data.depth ≤ d
  s : w.data.showable = true
  n1 : w.data.hasDict = false
  z1 : w.data.shown.length ≤ z
class LyL (ws : List W) (d z n : outParam Nat) : Prop where
  p : W.plains ws = true
  c : PyData.canLayAll0 (W.datas ws) = true
  d1 : PyData.depthAll (W.datas ws) ≤ d
  s : PyData.showableAll (W.datas ws) = true
  n1 : PyData.hasDictAll (W.datas ws) = false
  z1 : ((PyData.shownAll (W.datas ws)).map (·.length)).sum ≤ z
  e : (PyData.shownAll (W.datas ws)).length ≤ n
theorem shown_strL {t : Str} (h : PyData.strOk t = true) : (reprText t).length ≤ 10 * t.length + 2 := by
  have := StrLaws.reprText_len t fun c hc => by
    unfold PyData.strOk at h
    rw [Array.all_eq_true_iff_forall_mem] at h
    have := h c (by simpa using hc)
    simp at this
    omega
  omega
theorem shown_str {t : Str} [q : SOk t] : (reprText t).length ≤ 600002 := by
  have := shown_strL q.h
  have := q.l
  omega
theorem shown_int' {n : Int} (h : n.natAbs.log2 < 1920) : (Str.ofString (toString n)).length ≤ 1921 := int_len h
instance {t : Str} [q : SOk t] : Ly (.s t) 0 600002 := ⟨rfl, by simp only [W.data, PyData.canLay0, q.h], by simp only [W.data, PyData.depth, Nat.le_refl], by simp only [W.data, PyData.showable], by simp only [W.data, PyData.hasDict], by simp only [W.data, PyData.shown]; exact shown_str⟩
instance {n : Int} [q : IOk n] : Ly (.i n) 0 1921 := ⟨rfl, by simp only [W.data, PyData.canLay0], by simp only [W.data, PyData.depth, Nat.le_refl], by simp only [W.data, PyData.showable, q.h, decide_true], by simp only [W.data, PyData.hasDict], by simp only [W.data, PyData.shown]; exact shown_int' q.h⟩
instance : Ly .n 0 4 := ⟨rfl, by simp only [W.data, PyData.canLay0], by simp only [W.data, PyData.depth, Nat.le_refl], by simp only [W.data, PyData.showable], by simp only [W.data, PyData.hasDict], by simp only [W.data, PyData.shown]; decide +kernel⟩
instance {b : Bool} : Ly (.b b) 0 5 := ⟨rfl, by simp only [W.data, PyData.canLay0], by simp only [W.data, PyData.depth, Nat.le_refl], by simp only [W.data, PyData.showable], by simp only [W.data, PyData.hasDict], by simp only [W.data, PyData.shown]; cases b <;> decide +kernel⟩
instance {o : Option Int} [q : OOk o] : Ly (W.o o) 0 1921 := by
  cases o with
  | none => exact ⟨rfl, by simp only [W.o, W.data, PyData.canLay0], by simp only [W.o, W.data, PyData.depth, Nat.le_refl], by simp only [W.o, W.data, PyData.showable], by simp only [W.o, W.data, PyData.hasDict], by simp only [W.o, W.data, PyData.shown]; decide +kernel⟩
  | some n => exact ⟨rfl, by simp only [W.o, W.data, PyData.canLay0], by simp only [W.o, W.data, PyData.depth, Nat.le_refl], by simp only [W.o, W.data, PyData.showable, q.h n rfl, decide_true], by simp only [W.o, W.data, PyData.hasDict], by simp only [W.o, W.data, PyData.shown]; exact shown_int' (q.h n rfl)⟩
instance : LyL [] 0 0 0 := ⟨rfl, by simp only [W.datas, PyData.canLayAll0], by simp [W.datas, PyData.depthAll], by simp only [W.datas, PyData.showableAll], by simp only [W.datas, PyData.hasDictAll], by simp [W.datas, PyData.shownAll], by simp [W.datas, PyData.shownAll]⟩
instance {w : W} {ws : List W} {d e z y n : Nat} [a : Ly w d z] [b : LyL ws e y n] : LyL (w :: ws) (max d e) (z + y) (n + 1) := ⟨by simp only [W.plains, a.p, b.p, Bool.and_self], by simp only [W.datas, PyData.canLayAll0, a.c, b.c, Bool.and_self], by simp only [W.datas, PyData.depthAll]; have := a.d1; have := b.d1; omega, by simp only [W.datas, PyData.showableAll, a.s, b.s, Bool.and_self], by simp only [W.datas, PyData.hasDictAll, a.n1, b.n1, Bool.or_self],
  by simp only [W.datas, PyData.shownAll, List.map_cons, List.sum_cons]; have := a.z1; have := b.z1; omega, by simp only [W.datas, PyData.shownAll, List.length_cons]; have := b.e; omega⟩
theorem datas_strs : ∀ ks : List Str, W.datas (ks.map W.s) = ks.map PyData.str
  | [] => rfl
  | k :: ks => by simp only [List.map_cons, W.datas, W.data, datas_strs ks]
theorem plains_strs : ∀ ks : List Str, W.plains (ks.map W.s) = true
  | [] => rfl
  | k :: ks => by simp only [List.map_cons, W.plains, W.plain, plains_strs ks, Bool.and_self]
theorem strs_all : ∀ ks : List Str, (∀ k ∈ ks, PyData.strOk k = true ∧ k.length ≤ 2000) → PyData.showableAll (ks.map PyData.str) = true ∧ PyData.hasDictAll (ks.map PyData.str) = false ∧ ((PyData.shownAll (ks.map PyData.str)).map (·.length)).sum ≤ ks.length * 20002 ∧ (PyData.shownAll (ks.map PyData.str)).length = ks.length
  | [], _ => by simp [PyData.showableAll, PyData.hasDictAll, PyData.shownAll]
  | k :: ks, h => by
    obtain ⟨h1, h2, h3, h4⟩ := strs_all ks fun j hj => h j (List.mem_cons_of_mem _ hj)
    have := h k List.mem_cons_self
    have h5 := shown_strL this.1
    have h6 := this.2
    refine ⟨by simp only [List.map_cons, PyData.showableAll, PyData.showable, h1, Bool.and_self], by simp only [List.map_cons, PyData.hasDictAll, PyData.hasDict, h2, Bool.or_self], ?_, by simp only [List.map_cons, PyData.shownAll, List.length_cons, h4]⟩
    simp only [List.map_cons, PyData.shownAll, PyData.shown, List.sum_cons, List.length_cons]
    omega
instance {ks : List Str} [q : SOkL ks] : LyL (ks.map W.s) 0 2000200 100 := by
  obtain ⟨h1, h2, h3, h4⟩ := strs_all ks q.h
  have hl := q.l
  exact ⟨plains_strs ks, by rw [datas_strs]; exact lay_strs ks fun s hs => (q.h s hs).1, by rw [datas_strs, depth_strs]; exact Nat.le_refl 0, by rw [datas_strs]; exact h1, by rw [datas_strs]; exact h2, by rw [datas_strs]; omega, by rw [datas_strs, h4]; exact hl⟩
instance {ws : List W} {d z n : Nat} [a : LyL ws d z n] : Ly (.l ws) (d + 1) (z + 2 * n + 3) := ⟨by simp only [W.plain, a.p], by simp only [W.data, PyData.canLay0, a.c], by simp only [W.data, PyData.depth]; have := a.d1; omega, by simp only [W.data, PyData.showable, a.s], by simp only [W.data, PyData.hasDict, a.n1],
  by simp only [W.data, PyData.shown]; have := listText_len_le (PyData.shownAll (W.datas ws)); have := a.z1; have := a.e; omega⟩
instance {ws : List W} {d z n : Nat} [a : LyL ws d z n] : Ly (.t ws) (d + 1) (z + 2 * n + 3) := ⟨by simp only [W.plain, a.p], by simp only [W.data, PyData.canLay0, a.c], by simp only [W.data, PyData.depth]; have := a.d1; omega, by simp only [W.data, PyData.showable, a.s], by simp only [W.data, PyData.hasDict, a.n1],
  by simp only [W.data, PyData.shown]; have := tupleText_len_le (PyData.shownAll (W.datas ws)); have := a.z1; have := a.e; omega⟩
instance : SOk "" := ⟨by decide +kernel, by decide +kernel⟩
section
variable {K : PySem.W.Frag} {C : Addr} {H : Hp} {Φ : List (V × W)} {mt nt : List (Addr × (HO → Prop))} {Q : VK} {x y v : V} {w w' : W} {d e z z' : Nat} {ks : List Str} {p : Addr}
inductive KnM (Φ : List (V × W)) (mt : List (Addr × (HO → Prop))) : V → W → Prop
  | k {v : V} {w : W} (h : Kn Φ v w) : KnM Φ mt v w
  | c {p : Addr} {ks : List Str} (h : (p, Eq (.lst (ks.map V.str))) ∈ mt) : KnM Φ mt (.ref p) (.l (ks.map W.s))
theorem S.repM (s : S K C H Φ mt) (h : KnM Φ mt v w) : Rep K C H v w := by
  cases h with
  | k h => exact s.rep h
  | c h => exact .l (s.at h) (RepL.map V.str W.s _ fun x _ => .s x)
theorem g_eqD (s : S K C H Φ mt) (h1 : KnM Φ mt x w) (h2 : KnM Φ mt y w') (l1 : Ly w d z) (l2 : Ly w' e z') (hd : d ≤ 64) (he : e ≤ 64) (k : Q (.bl (PyData.eqv w.data w'.data)) H) : rEqD K x y H Q :=
  ⟨_, _, rep_dp (s.repM h1) l1.p, rep_dp (s.repM h2) l2.p, by unfold SeqAt.shaped; rw [l1.c, decide_eq_true (Nat.le_trans l1.d1 hd)]; rfl, by unfold SeqAt.shaped; rw [l2.c, decide_eq_true (Nat.le_trans l2.d1 he)]; rfl, k⟩
theorem g_neD (s : S K C H Φ mt) (h1 : KnM Φ mt x w) (h2 : KnM Φ mt y w') (l1 : Ly w d z) (l2 : Ly w' e z') (hd : d ≤ 64) (he : e ≤ 64) (k : Q (.bl (!PyData.eqv w.data w'.data)) H) : rNeD K x y H Q :=
  ⟨_, _, rep_dp (s.repM h1) l1.p, rep_dp (s.repM h2) l2.p, by unfold SeqAt.shaped; rw [l1.c, decide_eq_true (Nat.le_trans l1.d1 hd)]; rfl, by unfold SeqAt.shaped; rw [l2.c, decide_eq_true (Nat.le_trans l2.d1 he)]; rfl, k⟩
theorem g_eqD0 (s : S K C H Φ mt) (h1 : KnM Φ mt x w) (h2 : KnM Φ mt y w) (l1 : Ly w d z) (hd : d ≤ 64) (k : Q (.bl true) H) : rEqD K x y H Q :=
  g_eqD s h1 h2 l1 l1 hd hd (by rw [SeqAt.eqv_refl _ l1.c]; exact k)
theorem g_neD0 (s : S K C H Φ mt) (h1 : KnM Φ mt x w) (h2 : KnM Φ mt y w) (l1 : Ly w d z) (hd : d ≤ 64) (k : Q (.bl false) H) : rNeD K x y H Q :=
  g_neD s h1 h2 l1 l1 hd hd (by rw [SeqAt.eqv_refl _ l1.c]; exact k)
theorem g_repr (s : S K C H Φ mt) (h1 : KnM Φ mt (.ref p) w) (l1 : Ly w d z) (hd : d ≤ 60) (hz : z ≤ 16000000) (k : w.data.shown.length ≤ z → Q (.str w.data.shown) H) : qRepr K [.ref p] H Q :=
  ⟨p, _, rfl, rep_dp (s.repM h1) l1.p, l1.s, l1.n1, Nat.le_trans l1.d1 hd, Nat.le_trans (Nat.le_trans l1.z1 hz) (by decide), k l1.z1⟩
theorem g_tupOfM (s : S K C H Φ mt) (h : (p, Eq (.lst (ks.map V.str))) ∈ mt) (k : ∀ q H', S K C H' ((.ref q, .t (ks.map W.s)) :: Φ) mt → Q (.ref q) H') : rTupOf K [.ref p] H Q :=
  ⟨p, _, rfl, .inl ⟨sq_of (s.at h), fun q hn => k q _ (s.addT hn (Ex.new hn) upd_same (.is _ V.str W.s fun x _ => .s x))⟩⟩
end

/-! ### == and != of an own __eq__, with anything -/
section
open PySem.W PyProof.Rows
variable {prog : Program} {w : World} {A : Around} {E : Value → Shared → Prop} {s : Shared} {K : PySem.W.Frag} {x C f L : Addr} {ox : Obj} {od : Option Obj} {b tb : Value} {h₀ : Heap} {m : Str → Option Value}
theorem ifBound_objNe {M : Model} {args : List Value} {Q : Option Value → Shared → Prop} (X : K.In s.heap) (I : PySem.W.InstAt s.heap x ox C od) (hs : PySem.W.findIn K (.ref C) "__ne__" = some (some (.builtin "object.__ne__")))
    (h : wpAny M A (call (.builtin "object.__ne__") (.ref x :: args)) (fun v => Q (some v)) E s) : wpAny M A (callSpecialIfBound? (.ref x) "__ne__" args) Q E s := by
  simp only [callSpecialIfBound?, bindSpecialIfBound?]
  refine wpAny_holding (wpAny_bind (wpAny_bind (wpAny_bind (I.type.here ((PySem.W.looks_findIn X hs).here ?_)))))
  refine wpAny_bind (wpAny_askSetting (wpAny_ite ?_))
  have fin : wpAny M A (call (.builtin "object.__ne__") ([.ref x] ++ args) >>= fun v => pure (some v)) Q E s := wpAny_bind (wpAny_mono h (fun v s' h' => wpAny_pure h') fun _ _ h' => h')
  split
  · exact wpAny_bind (wpAny_of_eq (F.cmp_object.ne.bind _) (wpAny_pure (by exact fin)))
  · exact wpAny_tryCatch (wpAny_bind (wpAny_of_eq (F.cmp_object.ne.bind _) (wpAny_pure (by exact fin))))
theorem entry_ne {Q : Fin → Shared → Prop} (hu : A.units < cLine) (X : K.In s.heap) (I : PySem.W.InstAt s.heap x ox C od) (he : PySem.W.findIn K (.ref C) "__eq__" = some (some (.ref f))) (hf : PySem.W.isFn K (.ref f) = true)
    (hcall : wpAny (model prog w) A (call (.ref f) [.ref x, b]) (fun v s' => ∃ k, v = .bool k ∧ Q (.done (.ret (.bool (!k)))) s') E s) :
    wpAny (model prog w) A (Builtin.«object.__ne__» ⟨[.ref x, b], []⟩) Q E s := by
  unfold Builtin.«object.__ne__»
  repeat (first
    | with_reducible refine wpAny_cRoomFor hu ?_
    | (refine wpAny_bind (m := callSpecialIfBound? (.ref x) (Str.ofString "__eq__") [b])
        (PySem.W.ifBound_K X I he hf (wpAny_mono hcall (fun r s' hr => by
          obtain ⟨b, rfl, hq⟩ := hr
          repeat (first | exact hq | exact wpAny_pure hq | exact wpAny_truthy_bool hq | (refine wpAny_bind (m := truthy (.bool _)) (wpAny_truthy_bool ?_)) | wp_step)) fun _ _ e => e)))
    | wp_step)
theorem ne_K {Q : Value → Shared → Prop} (hu : A.units + 1 < cLine) (F' : PyProof.Rows.Fr h₀ L s.heap m) (X₀ : K.In h₀) (I : PySem.W.InstAt s.heap x ox C od) (hb : PySem.W.Looks (model prog w) s.heap (typeOf b) tb) (hn : PySem.W.notFirst K C tb = true)
    (hm : PySem.W.mroIn K C (.type "object") = some true) (hs : PySem.W.findIn K (.ref C) "__ne__" = some (some (.builtin "object.__ne__"))) (he : PySem.W.findIn K (.ref C) "__eq__" = some (some (.ref f))) (hf : PySem.W.isFn K (.ref f) = true)
    (h : wpAny (model prog w) A.in1 (call (.ref f) [.ref x, b]) (fun v s' => ∃ k, v = .bool k ∧ Q (.bool (!k)) s') E s) : wpAny (model prog w) A (richCompare .NotEq (.ref x) b) Q E s := by
  have X := X₀.keeps F'.keep
  have one : wpAny (model prog w) A (tryCompare (.ref x) "__ne__" b) (fun r s' => ∃ v, r = some v ∧ Q v s') E s := by
    unfold tryCompare
    refine wpAny_bind (ifBound_objNe X I hs (wpAny_call (codeAny_call_builtin F.cmp_object.ne.plain F.cmpEntry_ne (PySem.W.check_slot F.cmpKind_ne F.cmpSplit_ne (I.type.andThen (PySem.W.looks_mroIn X hm)) (F.cmpArgs_ne _ _)
      (entry_ne (A := A.in1) hu X I he hf (wpAny_mono h (fun v s' hv => ?_) fun _ _ e => e))))))
    obtain ⟨k, rfl, hq⟩ := hv
    first | exact ⟨k, rfl, wpAny_pure ⟨_, rfl, hq⟩⟩ | exact ⟨k, rfl, ⟨_, rfl, hq⟩⟩
  unfold richCompare
  simp only [oneThing_ref, cmpInfo_NotEq]
  refine wpAny_holding (wpAny_bind (wpAny_cRoomFor (Nat.lt_of_succ_lt hu) ?_))
  refine wpAny_bind (I.type.here (wpAny_bind (hb.here ?_)))
  split
  · rename_i q
    have e : PySem.W.subIn K tb (.ref C) = some false := by
      rcases Bool.or_eq_true_iff.mp hn with e | e
      · rw [beq_iff_eq.mp e] at q; simp at q
      · exact beq_iff_eq.mp e
    refine wpAny_bind ((PySem.W.looks_subIn X e).here ?_)
    simp only [Bool.false_eq_true, if_false]
    refine wpAny_bind (m := tryCompare (.ref x) _ b) (wpAny_mono one (fun r s' z => ?_) fun _ _ e => e)
    obtain ⟨v, rfl, hq⟩ := z
    exact wpAny_pure hq
  · refine wpAny_bind (wpAny_pure ?_)
    simp only [Bool.false_eq_true, if_false]
    refine wpAny_bind (m := tryCompare (.ref x) _ b) (wpAny_mono one (fun r s' z => ?_) fun _ _ e => e)
    obtain ⟨v, rfl, hq⟩ := z
    exact wpAny_pure hq
/-- the kinds of things of the model that are no instances -/
inductive KdT (H : Hp) : V → String → Prop where
  | non : KdT H .non "NoneType"
  | bl (k : Bool) : KdT H (.bl k) "bool"
  | int (i : Int) : KdT H (.int i) "int"
  | str (t : Str) : KdT H (.str t) "str"
  | lst {a : Addr} {xs : List V} (e : H a = some (.lst xs)) : KdT H (.ref a) "list"
  | tup {a : Addr} {xs : List V} (e : H a = some (.tup xs)) : KdT H (.ref a) "tuple"
  | dK {a : Addr} {kvs : List (Key × V)} (e : H a = some (.dK kvs)) : KdT H (.ref a) "dict"
theorem looks_is {v : Value} {T : String} (h : s.TypeIs v T) : PySem.W.Looks (model prog w) s.heap (typeOf v) (.type T) := by
  cases v with
  | ref a => obtain ⟨o, ho, hc⟩ := h; exact fun A Q E s k q => wpAny_typeOf_ref (k _ _ ho) (by rw [hc]; exact q)
  | _ => exact PySem.W.Looks.of_pure h
theorem KdT.sub {H : Hp} {y : V} {T : String} (k : KdT H y T) : PySem.W.subIn K (.type T) (.ref C) = some false := by
  have go : ∀ l, fastBuiltinMro T = some l → (l.contains (.ref C)) = false → PySem.W.subIn K (.type T) (.ref C) = some false := fun l e h => by
    show (fastBuiltinMro T).map (·.contains (.ref C)) = some false
    rw [e, Option.map_some, h]
  cases k
  · exact go _ (by decide +kernel : fastBuiltinMro "NoneType" = some [.type "NoneType", .type "object"]) (by simp)
  · exact go _ (by decide +kernel : fastBuiltinMro "bool" = some [.type "bool", .type "int", .type "object"]) (by simp)
  · exact go _ (by decide +kernel : fastBuiltinMro "int" = some [.type "int", .type "object"]) (by simp)
  · exact go _ (by decide +kernel : fastBuiltinMro "str" = some [.type "str", .type "object"]) (by simp)
  · exact go _ (by decide +kernel : fastBuiltinMro "list" = some [.type "list", .type "object"]) (by simp)
  · exact go _ (by decide +kernel : fastBuiltinMro "tuple" = some [.type "tuple", .type "object"]) (by simp)
  · exact go _ (by decide +kernel : fastBuiltinMro "dict" = some [.type "dict", .type "object"]) (by simp)
theorem KdT.is {X : Cx} {pins : List (Addr × Obj)} {σ : L2.St} {H : Hp} {y : V} {u : Value} {T : String} (k : KdT H y T) (I : Inv X pins σ H s) (r : RelV y u) : s.TypeIs u T := by
  cases k with
  | non => cases (show u = Value.none from r); rfl
  | bl k => cases (show u = Value.bool k from r); rfl
  | int i => obtain ⟨t, rfl⟩ := (show ∃ t, u = Value.int i t from r); exact typeIs_int s i t
  | str i => obtain ⟨t, rfl⟩ := (show ∃ t, u = Value.str i t from r); exact typeIs_str s i t
  | @lst a xs e =>
    cases (show u = Value.ref a from r)
    obtain ⟨_, _, n, _, h1⟩ := (show ObjOk X.prog X.w H s.heap a (.lst xs) from I.hok a _ e)
    exact ⟨_, h1, rfl⟩
  | @tup a xs e =>
    cases (show u = Value.ref a from r)
    obtain ⟨_, _, _, o, h1, h2, _⟩ := (show ObjOk X.prog X.w H s.heap a (.tup xs) from I.hok a _ e)
    exact ⟨o, h1, h2⟩
  | @dK a xs e =>
    cases (show u = Value.ref a from r)
    obtain ⟨_, _, vs, _, o, es, ep, h1, h2, _⟩ := (show ObjOk X.prog X.w H s.heap a (.dK xs) from I.hok a _ e)
    exact ⟨o, h1, h2.1⟩
end
section
variable {X : Cx}
def KdV (C : Addr) (H : Hp) (y : V) : Prop := (∃ T, KdT H y T) ∨ ∃ b dy gs, y = .ref b ∧ H b = some (.ins C dy gs)
def rEqW (C : Addr) (sp : Sp) (E : XK) : R2 := fun x y H Q => ∃ a dx fs, x = .ref a ∧ H a = some (.ins C dx fs) ∧ KdV C H y ∧ sp [.ref a, y] H (fun v H' => (∃ k, v = .bl k) ∧ Q v H') E
def rNeW (C : Addr) (sp : Sp) (E : XK) : R2 := fun x y H Q => ∃ a dx fs, x = .ref a ∧ H a = some (.ins C dx fs) ∧ KdV C H y ∧ sp [.ref a, y] H (fun v H' => ∃ k, v = .bl k ∧ Q (.bl (!k)) H') E
theorem KdV.looks {C : Addr} {H : Hp} {y : V} {u : Value} {pins : List (Addr × Obj)} {σ : L2.St} {s : Shared} (k : KdV C H y) (I : Inv X pins σ H s) (r : RelV y u) : ∃ tb, PySem.W.Looks (model X.prog X.w) s.heap (typeOf u) tb ∧ PySem.W.notFirst X.K C tb = true := by
  rcases k with ⟨T, k⟩ | ⟨b, dy, gs, rfl, hb⟩
  · exact ⟨_, looks_is (k.is I r), by unfold PySem.W.notFirst; rw [k.sub]; simp⟩
  · cases r
    obtain ⟨mB, J', _⟩ := ins_get I.hok hb
    obtain ⟨od', J', _⟩ := J'.look
    exact ⟨_, J'.type, by simp [PySem.W.notFirst]⟩
theorem op_eqW {CX : CXT} {C f : Addr} {fd : FuncData} {ps : List Str} {sp : Sp} {E : XK} {n : Nat} (F : FnOk X.prog X.w X.K X.mg X.base CX n f fd ps sp) (hr : Room n X.A) (M : Meth X.K C "__eq__" f) (hb : Binds X.K fd ps []) (hx : Passes CX X E) :
    OpR X (compareOp .Eq) (rEqW C sp E) := by
  intro pins s σ H x y v u Q I rx ry h
  obtain ⟨a, dx, fs, rfl, ha, hk, hsp⟩ := h
  obtain ⟨tb, L2, hn⟩ := hk.looks I ry
  cases rx
  obtain ⟨mA, J, _⟩ := ins_get I.hok ha
  obtain ⟨od, J, _⟩ := J.look
  obtain ⟨m, hF⟩ := I.fr
  show wpAny _ _ (richCompare .Eq _ _) _ _ _
  refine PySem.W.cmp_K (op := .Eq) (tb := tb) hr.units0 hF I.ok.mod.kin J L2 hn M.at_ M.fn ?_
  have hl := F.len _ _ _ _ hsp
  have r2 : Vals [V.ref a, y] [Value.ref a, u] := .cons rfl (.cons ry .nil)
  refine wpAny_call (codeAny_mono (F.run X.A X.stack s H ⟨[.ref a, u], []⟩ [.ref a, u] [.ref a, y] _ E hr I.env0 (by
    have := hb s [.ref a, u] I.kIn (by simpa using hl)
    simpa using this) r2 hsp) fun r s' hq => ?_)
  cases r with
  | error e => exact hx pins σ H s e s' I hq
  | ok fl =>
    cases fl with
    | ret w =>
      obtain ⟨z, H', I', rz, ⟨k, ez⟩, q⟩ := I.after hq
      subst ez
      cases rz
      exact ⟨.bl k, H', I', rfl, q⟩
    | next => exact False.elim hq
    | brk => exact False.elim hq
    | cont => exact False.elim hq
theorem op_neW {CX : CXT} {C f : Addr} {fd : FuncData} {ps : List Str} {sp : Sp} {E : XK} {n : Nat} (F : FnOk X.prog X.w X.K X.mg X.base CX n f fd ps sp) (hr : Room (n + 1) X.A) (M : Meth X.K C "__eq__" f) (hm : PySem.W.mroIn X.K C (.type "object") = some true) (hs : PySem.W.findIn X.K (.ref C) "__ne__" = some (some (.builtin "object.__ne__"))) (hb : Binds X.K fd ps []) (hx : Passes CX X E) :
    OpR X (compareOp .NotEq) (rNeW C sp E) := by
  intro pins s σ H x y v u Q I rx ry h
  obtain ⟨a, dx, fs, rfl, ha, hk, hsp⟩ := h
  obtain ⟨tb, L2, hn⟩ := hk.looks I ry
  cases rx
  obtain ⟨mA, J, _⟩ := ins_get I.hok ha
  obtain ⟨od, J, _⟩ := J.look
  obtain ⟨m, hF⟩ := I.fr
  show wpAny _ _ (richCompare .NotEq _ _) _ _ _
  refine ne_K (tb := tb) hr.in1.units0 hF I.ok.mod.kin J L2 hn hm hs M.at_ M.fn ?_
  have hl := F.len _ _ _ _ hsp
  have r2 : Vals [V.ref a, y] [Value.ref a, u] := .cons rfl (.cons ry .nil)
  refine wpAny_call (codeAny_mono (F.run X.A.in1 X.stack s H ⟨[.ref a, u], []⟩ [.ref a, u] [.ref a, y] _ E hr.in1 I.env0.in1 (by
    have := hb s [.ref a, u] I.kIn (by simpa using hl)
    simpa using this) r2 hsp) fun r s' hq => ?_)
  cases r with
  | error e => exact hx pins σ H s e s' I hq
  | ok fl =>
    cases fl with
    | ret w =>
      obtain ⟨z, H', I', rz, k, ez, q⟩ := I.after hq
      subst ez
      cases rz
      exact ⟨k, rfl, .bl (!k), H', I', rfl, q⟩
    | next => exact False.elim hq
    | brk => exact False.elim hq
    | cont => exact False.elim hq
end
section
open PySem.W
variable {X : Cx}
def rStrOwn (C : Addr) (sp : Sp) (E : XK) : List V → Hp → VK → Prop := fun xs H Q => ∃ a dx fs, xs = [.ref a] ∧ H a = some (.ins C dx fs) ∧ sp [.ref a] H (fun v H' => (∃ t, v = .str t) ∧ Q v H') E
def rReprOwn (C : Addr) (sp : Sp) (E : XK) : List V → Hp → VK → Prop := rStrOwn C sp E
def rLenOwn (C : Addr) (sp : Sp) (E : XK) : List V → Hp → VK → Prop := fun xs H Q => ∃ a dx fs, xs = [.ref a] ∧ H a = some (.ins C dx fs) ∧ sp [.ref a] H (fun v H' => ∃ n : Int, v = .int n ∧ 0 ≤ n ∧ n < 2 ^ 63 ∧ Q v H') E
theorem call_strOwn {CX : CXT} {C f : Addr} {fd : FuncData} {ps : List Str} {sp : Sp} {E : XK} {n : Nat} (F : FnOk X.prog X.w X.K X.mg X.base CX n f fd ps sp) (hr : Room (n + 2) X.A) (M : Meth X.K C "__str__" f) (hb : Binds X.K fd ps []) (hx : Passes CX X E) : CallR X (.type "str") (rStrOwn C sp E) := by
  intro pins s σ H xs us Q I r h
  obtain ⟨a, dx, fs, rfl, ha, hsp⟩ := h
  obtain ⟨u, rfl, ru⟩ := vals1 r
  obtain rfl : u = Value.ref a := ru
  obtain ⟨mA, J, _⟩ := ins_get I.hok ha
  obtain ⟨od, J, _⟩ := J.look
  obtain ⟨m, hF⟩ := I.fr
  have hr1 : Room (n + 1) X.A.in1 := hr.in1
  have hr2 : Room n X.A.in1.in1 := hr1.in1
  have hl := F.len _ _ _ _ hsp
  have r2 : Vals [V.ref a] [Value.ref a] := .cons rfl .nil
  refine PySem.W.kso_call hr2.units0 I.kIn J M.at_ M.fn ?_
  refine wpAny_call (codeAny_mono (F.run X.A.in1.in1 X.stack s H ⟨[.ref a], []⟩ [.ref a] [.ref a] _ E hr2 I.env0.in1.in1 (by
    have := hb s [.ref a] I.kIn (by simpa using hl)
    simpa using this) r2 hsp) fun r s' hq => ?_)
  cases r with
  | error e => exact hx pins σ H s e s' I hq
  | ok fl =>
    cases fl with
    | ret w =>
      obtain ⟨z, H', I', rz, ⟨k, ez⟩, q⟩ := I.after hq
      subst ez
      obtain ⟨t, rfl⟩ := (show ∃ t, w = Value.str k t from rz)
      exact ⟨.str k, H', I', ⟨t, rfl⟩, q⟩
    | next => exact False.elim hq
    | brk => exact False.elim hq
    | cont => exact False.elim hq
theorem call_reprOwn {CX : CXT} {C f : Addr} {fd : FuncData} {ps : List Str} {sp : Sp} {E : XK} {n : Nat} (F : FnOk X.prog X.w X.K X.mg X.base CX n f fd ps sp) (hr : Room (n + 2) X.A) (M : Meth X.K C "__repr__" f) (hb : Binds X.K fd ps []) (hx : Passes CX X E) : CallR X (.builtin "repr") (rReprOwn C sp E) := by
  intro pins s σ H xs us Q I r h
  obtain ⟨a, dx, fs, rfl, ha, hsp⟩ := h
  obtain ⟨u, rfl, ru⟩ := vals1 r
  obtain rfl : u = Value.ref a := ru
  obtain ⟨mA, J, _⟩ := ins_get I.hok ha
  obtain ⟨od, J, _⟩ := J.look
  obtain ⟨m, hF⟩ := I.fr
  have hr1 : Room (n + 1) X.A.in1 := hr.in1
  have hr2 : Room n X.A.in1.in1 := hr1.in1
  have hl := F.len _ _ _ _ hsp
  have r2 : Vals [V.ref a] [Value.ref a] := .cons rfl .nil
  refine PySem.W.repr_K hr1.units0 hF I.ok.mod.kin J M.at_ M.fn ?_
  refine wpAny_call (codeAny_mono (F.run X.A.in1 X.stack s H ⟨[.ref a], []⟩ [.ref a] [.ref a] _ E (hr1.mono (by omega)) I.env0.in1 (by
    have := hb s [.ref a] I.kIn (by simpa using hl)
    simpa using this) r2 hsp) fun r s' hq => ?_)
  cases r with
  | error e => exact hx pins σ H s e s' I hq
  | ok fl =>
    cases fl with
    | ret w =>
      obtain ⟨z, H', I', rz, ⟨k, ez⟩, q⟩ := I.after hq
      subst ez
      obtain ⟨t, rfl⟩ := (show ∃ t, w = Value.str k t from rz)
      exact ⟨.str k, H', I', ⟨t, rfl⟩, q⟩
    | next => exact False.elim hq
    | brk => exact False.elim hq
    | cont => exact False.elim hq
theorem call_lenOwn {CX : CXT} {C f : Addr} {fd : FuncData} {ps : List Str} {sp : Sp} {E : XK} {n : Nat} (F : FnOk X.prog X.w X.K X.mg X.base CX n f fd ps sp) (hr : Room (n + 2) X.A) (M : Meth X.K C "__len__" f) (hb : Binds X.K fd ps []) (hx : Passes CX X E) : CallR X (.builtin "len") (rLenOwn C sp E) := by
  intro pins s σ H xs us Q I r h
  obtain ⟨a, dx, fs, rfl, ha, hsp⟩ := h
  obtain ⟨u, rfl, ru⟩ := vals1 r
  obtain rfl : u = Value.ref a := ru
  obtain ⟨mA, J, _⟩ := ins_get I.hok ha
  obtain ⟨od, J, _⟩ := J.look
  obtain ⟨m, hF⟩ := I.fr
  have hr1 : Room (n + 1) X.A.in1 := hr.in1
  have hr2 : Room n X.A.in1.in1 := hr1.in1
  have hl := F.len _ _ _ _ hsp
  have r2 : Vals [V.ref a] [Value.ref a] := .cons rfl .nil
  refine PySem.W.len_K hF I.ok.mod.kin J M.at_ M.fn ?_
  refine wpAny_call (codeAny_mono (F.run X.A.in1 X.stack s H ⟨[.ref a], []⟩ [.ref a] [.ref a] _ E (hr1.mono (by omega)) I.env0.in1 (by
    have := hb s [.ref a] I.kIn (by simpa using hl)
    simpa using this) r2 hsp) fun r s' hq => ?_)
  cases r with
  | error e => exact hx pins σ H s e s' I hq
  | ok fl =>
    cases fl with
    | ret w =>
      obtain ⟨z, H', I', rz, k, ez, h0, h1, q⟩ := I.after hq
      subst ez
      obtain ⟨t, rfl⟩ := (show ∃ t, w = Value.int k t from rz)
      obtain ⟨hh, g, d, t', os'⟩ := s'
      exact ⟨⟨h0, h1⟩, .int k, H', I'.tok _, ⟨_, rfl⟩, q⟩
    | next => exact False.elim hq
    | brk => exact False.elim hq
    | cont => exact False.elim hq
end

theorem len_l0 : (Str.ofString "").length = 0 := by decide +kernel
theorem len_l1 : (Str.ofString ".").length = 1 := by decide +kernel
theorem len_l2 : (Str.ofString "c.").length = 2 := by decide +kernel
theorem len_l3 : (Str.ofString " ").length = 1 := by decide +kernel
theorem len_l4 : (Str.ofString "<").length = 1 := by decide +kernel
theorem len_l5 : (Str.ofString ">").length = 1 := by decide +kernel
theorem log_s {a : Int} (h1 : -1606938044258990275541962092341162602522202993782792835301376 < a) (h2 : a < 1606938044258990275541962092341162602522202993782792835301376) : a.natAbs.log2 < 1920 := by
  have h : a.natAbs < 2 ^ 200 := by omega
  exact Nat.lt_of_lt_of_le (PySem.Flt.log2_lt_of (by decide) h) (by decide)
theorem sub_skip {Φ Ψ : List (V × W)} {x : V × W} (h : ∀ q ∈ Ψ, q ∈ Φ) : ∀ q ∈ Ψ, q ∈ x :: Φ := fun q hq => List.mem_cons_of_mem _ (h q hq)
theorem sub_cons {Φ Ψ : List (V × W)} {x : V × W} (h0 : x ∈ Φ) (h : ∀ q ∈ Ψ, q ∈ Φ) : ∀ q ∈ x :: Ψ, q ∈ Φ := fun q hq => by
  rcases List.mem_cons.mp hq with rfl | hq
  · exact h0
  · exact h q hq
theorem g_norm {tz : TS} {D : Ends} {σ σ' : L2.St} {i : Nat} {v : Option V} {H : Hp} (e : SetAt σ i v σ') (h : tz D σ' H) : tz D (σ.set i v) H := by rw [e.h]; exact h
local macro_rules | `(tactic| tb_rel) => `(tactic| with_reducible (first | assumption | exact List.mem_cons_self | (apply List.mem_cons_of_mem; tb_rel)))
local macro_rules | `(tactic| kt_at_in) => `(tactic| with_reducible (first | exact KnL.nil | exact Kn.i _ | exact Kn.s _ | exact Kn.n | exact Kn.b _ | exact Kn.o _ | (apply Kn.f; tb_rel) | (apply KnL.cons; kt_at_in; kt_at_in) | exact KnL.is _ V.str W.s (fun _ _ => Kn.s _) | exact KnL.is _ V.int W.i (fun _ _ => Kn.i _)))
local macro_rules | `(tactic| kt_at_item) => `(tactic| with_reducible (first | exact SetM.hd | (apply SetM.tl; kt_at_item)))
local macro_rules | `(tactic| kt_at_method) => `(tactic| with_reducible (first | exact RmM.hd | (apply RmM.tl; kt_at_method)))
local macro_rules | `(tactic| kt_at_method) => `(tactic| with_reducible (first | exact mkin_n | (apply mkin_m; assumption; tb_rel) | (apply mkin_l; assumption; tb_rel) | (apply mkin_t; assumption; tb_rel) | (apply mkin_l0; assumption; tb_rel)))
local macro_rules | `(tactic| kt_at_notin) => `(tactic| with_reducible (first | exact (fun _ h => h) | (refine sub_cons ?_ ?_; (focus (tb_rel)); kt_at_notin) | (refine sub_skip ?_; kt_at_notin)))
local macro_rules | `(tactic| kt_eqs) => `(tactic| with_reducible (first | exact List.Sublist.refl _ | exact List.nil_sublist _ | (refine List.Sublist.cons_cons _ ?_; kt_eqs) | (refine List.Sublist.cons _ ?_; kt_eqs)))
/-- the state, as it is wanted -/
local macro_rules | `(tactic| kt_ors) => `(tactic| first | with_reducible assumption | (refine S.to (by with_reducible assumption) ?_ ?_; (focus (kt_at_notin)); (focus (kt_eqs))))
local macro_rules | `(tactic| kcf_m) => `(tactic| first | with_reducible assumption | (with_reducible exact log_s (by omega) (by omega)) | omega | (with_unfolding_all decide) | (simp only [List.length_cons, List.length_nil, List.length_map, List.length_append, len_one, len_app, len_l0, len_l1, len_l2, len_l3, len_l4, len_l5]; done) | (simp only [List.length_cons, List.length_nil, List.length_map, List.length_append, len_one, len_app, len_l0, len_l1, len_l2, len_l3, len_l4, len_l5]; omega))
/-- one step: what stands at the head -/
local macro_rules | `(tactic| kt_at_get) => `(tactic| with_reducible first
  | refine st_go ?_
  | ((show ite _ _ _); first
    | (apply g_iteVI <;> intro _)
    | (apply g_iteVS <;> intro _)
    | (apply g_iteON <;> intros)
    | (apply g_iteD <;> intro _)
    | (apply g_iteB <;> intro _))
  | ((show rIxL _ _ _ _ _); first
    | (apply g_ixL; (focus (assumption)); (focus (tb_rel)); (focus (with_unfolding_all rfl)); (focus (infer_instance)))
    | (apply g_ixM; (focus (assumption)); (focus (tb_rel)); (focus (with_unfolding_all rfl)))
    | (apply g_ixLr; (focus (assumption)); (focus (tb_rel)); (focus (with_unfolding_all rfl)); (focus (first | exact isL | exact isT | exact isM)); intro _ _)
    | (apply g_ixAI; (focus (assumption)); (focus (tb_rel)); (focus (infer_instance)); (focus (kcf_m)); (focus (kcf_m)); intro _ h; simp only [List.mem_cons, List.not_mem_nil, or_false] at h)
    | (apply g_ixAO; (focus (assumption)); (focus (tb_rel)); (focus (infer_instance)); (focus (kcf_m)); (focus (kcf_m)); intro _ _)
    | (apply g_ixAS; (focus (assumption)); (focus (tb_rel)); (focus (infer_instance)); (focus (kcf_m)); (focus (kcf_m)); intro _ _)
    | (apply g_ixLI; (focus (assumption)); (focus (tb_rel)); (focus (kcf_m)); (focus (kcf_m)); intro _ _ _)
    | (apply g_ixLS; (focus (assumption)); (focus (tb_rel)); (focus (kcf_m)); (focus (kcf_m)); intro _ _ _))
  | ((show rIxT _ _ _ _ _); first
    | (apply g_ixT; (focus (assumption)); (focus (tb_rel)); (focus (with_unfolding_all rfl)); (focus (infer_instance)))
    | (apply g_ixTr; (focus (assumption)); (focus (tb_rel)); (focus (with_unfolding_all rfl)); (focus (first | exact isL | exact isT | exact isM)); intro _ _))
  | (apply g_ixSn; (focus (infer_instance)); (focus (kcf_m)); (focus (kcf_m)); (focus (kcf_m)); intro _ _ _)
  | (apply g_ixS; (focus (kcf_m)); (focus (kcf_m)); (focus (kcf_m)); intro _ _ _)
  | (apply g_newL; (focus (assumption)); (focus (kt_at_in)); (focus (kcf_m)); intro _ _ _)
  | (apply g_newT; (focus (assumption)); (focus (kt_at_in)); (focus (kcf_m)); intro _ _ _)
  | ((show rI _ _ _ _ _ _); first
    | (apply g_rMod; (focus (kcf_m)))
    | (apply g_rModN; (focus (kcf_m)))
    | (apply g_rDiv; (focus (kcf_m)); (focus (kcf_m)))
    | (apply g_rDivW; (focus (kcf_m)); (focus (kcf_m)))
    | (apply g_rPow; (focus (kcf_m)); (focus (kcf_m)); (focus (omega)); (focus (omega)))
    | (apply g_rMul; (focus (omega)); (focus (omega)))
    | (apply g_rMulR; (focus (omega)); (focus (omega))))
  | (apply g_rEq; (focus (with_unfolding_all exact rfl)))
  | (apply g_rNe; (focus (with_unfolding_all exact rfl)))
  | (apply g_rU)
  | (apply g_strAdd; (focus (kcf_m)))
  | (apply g_strI; (focus (kcf_m)); intro _)
  | (apply g_lenS; (focus (kcf_m)))
  | (apply g_intNS <;> intro _)
  | (apply g_intD <;> intro _)
  | (apply g_lenL; (focus (assumption)); (focus (tb_rel)))
  | (apply g_lenT; (focus (assumption)); (focus (tb_rel)))
  | (apply g_lenM; (focus (assumption)); (focus (tb_rel)))
  | (apply g_listL; (focus (assumption)); (focus (tb_rel)); intro _ _ _)
  | (apply g_listT; (focus (assumption)); (focus (tb_rel)); intro _ _ _)
  | (apply g_tupOfS; (focus (assumption)); (focus (tb_rel)); intro _ _ _)
  | (apply g_tyM; (focus (assumption)); (focus (tb_rel)))
  | (apply g_appendS; (focus (assumption)); (focus (tb_rel)); (focus (kcf_m)); (focus (kt_at_item)); intro _ _)
  | (apply g_append; (focus (assumption)); (focus (tb_rel)); (focus (kcf_m)); (focus (kt_at_item)); intro _ _)
  | (apply g_setLS; (focus (assumption)); (focus (tb_rel)); (focus (infer_instance)); (focus (kcf_m)); (focus (kt_at_item)); intro _ _)
  | (apply g_setL; (focus (assumption)); (focus (tb_rel)); (focus (infer_instance)); (focus (kcf_m)); (focus (infer_instance)); (focus (kt_at_item)); intro _ _)
  | (apply g_cat; (focus (assumption)); (focus (tb_rel)); (focus (tb_rel)); (focus (kcf_m)); (focus (infer_instance)); intro _ _ _)
  | (apply g_slTo; (focus (assumption)); (focus (tb_rel)); (focus (infer_instance)); (focus (infer_instance)); intro _ _ _)
  | (apply g_slFrom; (focus (assumption)); (focus (tb_rel)); (focus (infer_instance)); (focus (infer_instance)); intro _ _ _)
  | (apply g_slS; (focus (kcf_m)))
  | (apply g_eqD0; (focus (assumption)); (focus (first | (apply KnM.k; kt_at_in) | (apply KnM.c; tb_rel))); (focus (first | (apply KnM.k; kt_at_in) | (apply KnM.c; tb_rel))); (focus (infer_instance)); (focus (kcf_m)))
  | (apply g_neD0; (focus (assumption)); (focus (first | (apply KnM.k; kt_at_in) | (apply KnM.c; tb_rel))); (focus (first | (apply KnM.k; kt_at_in) | (apply KnM.c; tb_rel))); (focus (infer_instance)); (focus (kcf_m)))
  | (apply g_eqD; (focus (assumption)); (focus (first | (apply KnM.k; kt_at_in) | (apply KnM.c; tb_rel))); (focus (first | (apply KnM.k; kt_at_in) | (apply KnM.c; tb_rel))); (focus (infer_instance)); (focus (infer_instance)); (focus (kcf_m)); (focus (kcf_m)))
  | (apply g_neD; (focus (assumption)); (focus (first | (apply KnM.k; kt_at_in) | (apply KnM.c; tb_rel))); (focus (first | (apply KnM.k; kt_at_in) | (apply KnM.c; tb_rel))); (focus (infer_instance)); (focus (infer_instance)); (focus (kcf_m)); (focus (kcf_m)))
  | (apply g_repr; (focus (assumption)); (focus (first | (apply KnM.k; kt_at_in) | (apply KnM.c; tb_rel))); (focus (infer_instance)); (focus (kcf_m)); (focus (kcf_m)); intro _)
  | (apply g_tupOfM; (focus (assumption)); (focus (tb_rel)); intro _ _ _)
  | (apply g_mkN; (focus (with_unfolding_all rfl)); (focus (with_unfolding_all rfl)))
  | (apply g_mark; (focus (assumption)); (focus (intro _; with_unfolding_all rfl)); (focus (infer_instance)); (focus (infer_instance)); (focus (kt_at_method)); (focus (assumption)); intro _ _ _)
  | (apply g_methM; (focus (assumption)); (focus (tb_rel)); (focus (decide +kernel)); (focus (decide +kernel)))
  | (apply g_newMM; (focus (assumption)); (focus (kcf_m)); intro _ _ _)
  | (apply g_catM; (focus (assumption)); (focus (tb_rel)); (focus (tb_rel)); (focus (kcf_m)); (focus (infer_instance)); (focus (infer_instance)); intro _ _ _)
  | (apply g_listM; (focus (assumption)); (focus (tb_rel)); (focus (infer_instance)); intro _ _ _)
  | (apply g_rngI; (focus (kcf_m)); (focus (kcf_m)))
  | (apply g_rngII; (focus (kcf_m)); (focus (kcf_m)); (focus (kcf_m)); (focus (kcf_m)))
  | (apply g_wlkL; (focus (assumption)); (focus (tb_rel)))
  | refine g_wlkU (by assumption) (by tb_rel) ?_
  | (apply g_norm; (focus (infer_instance))))
local macro_rules | `(tactic| kxt_pos) => `(tactic| simp only [L2.start, L2.cxOf, List.map_cons, List.map_nil, List.length_cons, List.length_nil, Nat.zero_add, Nat.reduceAdd, Nat.reduceSub, List.reduceReplicate, List.replicate_zero, List.cons_append, List.nil_append, List.append_nil])
local macro_rules | `(tactic| kopn_word) => `(tactic| repeat' (first | kt_at_get | kt_len | fail "go"))

/-! ### loops over lists that are told item by item: gone through turn by turn -/
section
variable {K : PySem.W.Frag} {C : Addr} {σ σ0 : L2.St} {H : Hp} {Φ : List (V × W)} {mt nt : List (Addr × (HO → Prop))} {Q : VK} {D : Ends} {tb : TS} {te : TE} {tt : TT} {v y : V} {ws rest : List W} {w : W} {g : TG} {a p : Addr} {vs : List Nat} {acc us : List V} {accW : List W}
def ForIt (K : PySem.W.Frag) (C a : Addr) (ws : List W) (g : TG) (tb : TS) (D : Ends) : List W → L2.St → Hp → Prop
  | [], σ, H => ∃ Φ mt, S K C H Φ mt ∧ (.ref a, .l ws) ∈ Φ ∧ D.nx σ H
  | w :: rest, σ, H => ∃ Φ mt, S K C H Φ mt ∧ (.ref a, .l ws) ∈ Φ ∧ ∀ v, S K C H ((v, w) :: Φ) mt → g v σ H fun σ2 H2 => tb { D with nx := ForIt K C a ws g tb D rest, ct := ForIt K C a ws g tb D rest, bk := D.nx } σ2 H2
class Expl (ws : List W) : Prop where
  h : True
instance : Expl [] := ⟨trivial⟩
instance {w : W} {ws : List W} [Expl ws] : Expl (w :: ws) := ⟨trivial⟩
theorem g_forU (_ : S K C H Φ mt) (_ : (.ref a, .l ws) ∈ Φ) (_ : Expl ws) (h : ForIt K C a ws g tb D ws σ H) : ForW (Itl K a) g tb D σ H := by
  refine ⟨fun j m σ H => m = ws.length - j ∧ j ≤ ws.length ∧ ForIt K C a ws g tb D (ws.drop j) σ H, ⟨ws.length, by simp, Nat.zero_le _, h⟩, ?_⟩
  rintro j m σ' H' ⟨rfl, hi, p⟩
  by_cases hlt : j < ws.length
  · rw [List.drop_eq_getElem_cons hlt] at p
    obtain ⟨Φ', mt', s', m', p⟩ := p
    obtain ⟨vs, v, h1, h2, h3⟩ := s'.grow m' j (List.getElem?_eq_getElem hlt)
    refine .inr ⟨⟨vs, v, h1, h2⟩, ForIt K C a ws g tb D (ws.drop (j + 1)), fun σ2 H2 p' => ⟨ws.length - (j + 1), by omega, rfl, hlt, p'⟩, fun x H2 y => ?_⟩
    obtain ⟨e, y⟩ := y
    subst e
    obtain ⟨vs2, v2, g1, g2, g3⟩ := s'.grow m' j (List.getElem?_eq_getElem hlt)
    have := y vs2 g1
    rw [g2] at this
    cases this
    exact p _ g3
  · have e : j = ws.length := by omega
    subst e
    rw [List.drop_length] at p
    obtain ⟨Φ', mt', s', m', p⟩ := p
    obtain ⟨vs, hv, hlen, _⟩ := s'.open m'
    exact .inl ⟨⟨vs, hv, by omega⟩, p⟩
theorem fi_nil (s : S K C H Φ mt) (h : (.ref a, .l ws) ∈ Φ) (k : D.nx σ H) : ForIt K C a ws g tb D [] σ H := ⟨Φ, mt, s, h, k⟩
theorem fi_sc (s : S K C H Φ mt) (h : (.ref a, .l ws) ∈ Φ) (sc : Sc w v) (k : g v σ H fun σ2 H2 => tb { D with nx := ForIt K C a ws g tb D rest, ct := ForIt K C a ws g tb D rest, bk := D.nx } σ2 H2) : ForIt K C a ws g tb D (w :: rest) σ H :=
  ⟨Φ, mt, s, h, fun u s' => by
    have := sc.h K C H u (s'.rep (.f List.mem_cons_self))
    subst this
    exact k⟩
theorem fi_ref (s : S K C H Φ mt) (h : (.ref a, .l ws) ∈ Φ) (hw : IsRef w) (k : ∀ q, S K C H ((.ref q, w) :: Φ) mt → g (.ref q) σ H fun σ2 H2 => tb { D with nx := ForIt K C a ws g tb D rest, ct := ForIt K C a ws g tb D rest, bk := D.nx } σ2 H2) : ForIt K C a ws g tb D (w :: rest) σ H :=
  ⟨Φ, mt, s, h, fun u s' => by
    obtain ⟨q, rfl⟩ := isRef_of hw (s'.rep (.f List.mem_cons_self))
    exact k q s'⟩
/-- targets of several names, from a tuple that is told -/
def TI (K : PySem.W.Frag) (C : Addr) (H : Hp) (Φ : List (V × W)) (mt : List (Addr × (HO → Prop))) (ws : List W) (t : TGs) (σ : L2.St) (N : L2.St → Hp → Prop) : Prop := ∀ xs : List V, xs.length = ws.length → S K C H (xs.zip ws ++ Φ) mt → t xs σ H N
theorem g_tupT {n : Nat} {t : TGs} {N : L2.St → Hp → Prop} (s : S K C H Φ mt) (h : (.ref a, .t ws) ∈ Φ) (hn : ws.length = n) (k : TI K C H Φ mt ws t σ N) : gTup K n t (.ref a) σ H N := by
  obtain ⟨xs, h1, h2, s'⟩ := s.openT h
  exact ⟨a, xs, rfl, h1, h2.trans hn, k xs h2 s'⟩
theorem ti_nil {N : L2.St → Hp → Prop} (k : S K C H Φ mt → N σ H) : TI K C H Φ mt [] gNil σ N := fun xs hl s => by
  cases xs with
  | nil => exact ⟨rfl, k s⟩
  | cons => cases hl
theorem ti_any {i : Nat} {u : TGs} {N : L2.St → Hp → Prop} (k : ∀ v, S K C H ((v, w) :: Φ) mt → TI K C H ((v, w) :: Φ) mt ws u (σ.set i (some v)) N) : TI K C H Φ mt (w :: ws) (gCons (gName i) u) σ N := fun xs hl s => by
  cases xs with
  | nil => cases hl
  | cons x xs =>
    have s1 : S K C H (xs.zip ws ++ ((x, w) :: Φ)) mt := s.to (fun q hq => by
      rcases List.mem_append.mp hq with h | h
      · exact List.mem_cons_of_mem _ (List.mem_append_left _ h)
      · rcases List.mem_cons.mp h with rfl | h
        · exact List.mem_cons_self
        · exact List.mem_cons_of_mem _ (List.mem_append_right _ h)) (List.Sublist.refl _)
    exact ⟨x, xs, rfl, k x (s1.to (fun q hq => List.mem_append_right _ hq) (List.Sublist.refl _)) xs (Nat.succ.inj hl) s1⟩
theorem ti_sc {i : Nat} {u : TGs} {N : L2.St → Hp → Prop} (sc : Sc w v) (k : TI K C H Φ mt ws u (σ.set i (some v)) N) : TI K C H Φ mt (w :: ws) (gCons (gName i) u) σ N := fun xs hl s => by
  cases xs with
  | nil => cases hl
  | cons x xs =>
    have := sc.h K C H x (s.rep (.f List.mem_cons_self))
    subst this
    exact ⟨_, xs, rfl, k xs (Nat.succ.inj hl) (s.to (fun q hq => List.mem_cons_of_mem _ hq) (List.Sublist.refl _))⟩
theorem ti_ref {i : Nat} {u : TGs} {N : L2.St → Hp → Prop} (hw : IsRef w) (k : ∀ q, TI K C H ((.ref q, w) :: Φ) mt ws u (σ.set i (some (.ref q))) N) : TI K C H Φ mt (w :: ws) (gCons (gName i) u) σ N :=
  ti_any fun v s => by
    obtain ⟨q, rfl⟩ := isRef_of hw (s.rep (.f List.mem_cons_self))
    exact k q
/-- [.. for .. in .. if ..] -/
def LcApp (D : Addr) (y : V) (N : Hp → Prop) (H4 : Hp) : Prop := ∃ acc, H4 D = some (.lst acc) ∧ acc.length < sizeLine ∧ N (upd H4 D (.lst (acc ++ [y])))
def LcIt (K : PySem.W.Frag) (C a : Addr) (ws : List W) (g : TG) (tt : TT) (te : TE) (σ0 : L2.St) (vs : List Nat) (D : Addr) (Q : VK) : List W → Hp → Prop
  | [], H => ∃ Φ mt, S K C H Φ mt ∧ (.ref a, .l ws) ∈ Φ ∧ Q (.ref D) H
  | w :: rest, H => ∃ Φ mt, S K C H Φ mt ∧ (.ref a, .l ws) ∈ Φ ∧ ∀ v, S K C H ((v, w) :: Φ) mt → g v σ0 H fun σ2 H2 => wipe σ2 vs = σ0 ∧ tt σ2 H2 fun b H3 => if b = true then te σ2 H3 fun y H4 => LcApp D y (LcIt K C a ws g tt te σ0 vs D Q rest) H4 else LcIt K C a ws g tt te σ0 vs D Q rest H3
theorem g_lcU (hw : Wp σ vs σ0) (s : S K C H Φ mt) (_ : (.ref a, .l ws) ∈ Φ) (_ : Expl ws) (h : ∀ D H1, S K C H1 Φ ((D, Eq (.lst [])) :: mt) → LcIt K C a ws g tt te σ0 vs D Q ws H1) : LcW (Itl K a) g tt te vs σ H Q := by
  have hw := hw.h
  subst hw
  intro D hD
  have h0 := h D _ (s.addM hD (Ex.new hD) upd_same rfl)
  refine ⟨fun j m H => m = ws.length - j ∧ j ≤ ws.length ∧ LcIt K C a ws g tt te (wipe σ vs) vs D Q (ws.drop j) H, ⟨ws.length, by simp, Nat.zero_le _, h0⟩, ?_⟩
  rintro j m H' ⟨rfl, hi, p⟩
  by_cases hlt : j < ws.length
  · rw [List.drop_eq_getElem_cons hlt] at p
    obtain ⟨Φ', mt', s', m', p⟩ := p
    obtain ⟨us, v, h1, h2, h3⟩ := s'.grow m' j (List.getElem?_eq_getElem hlt)
    refine .inr ⟨⟨us, v, h1, h2⟩, LcIt K C a ws g tt te (wipe σ vs) vs D Q (ws.drop (j + 1)), fun H2 p' => ⟨ws.length - (j + 1), by omega, rfl, hlt, p'⟩, fun x H2 y => ?_⟩
    obtain ⟨e, y⟩ := y
    subst e
    obtain ⟨vs2, v2, g1, g2, g3⟩ := s'.grow m' j (List.getElem?_eq_getElem hlt)
    have := y vs2 g1
    rw [g2] at this
    cases this
    exact p _ g3
  · have e : j = ws.length := by omega
    subst e
    rw [List.drop_length] at p
    obtain ⟨Φ', mt', s', m', p⟩ := p
    obtain ⟨us, hv, hlen, _⟩ := s'.open m'
    exact .inl ⟨⟨us, hv, by omega⟩, p⟩
theorem li_nil (s : S K C H Φ mt) (h : (.ref a, .l ws) ∈ Φ) {D : Addr} (hr : RmM D (Eq (.lst acc)) mt nt) (kn : KnL Φ acc accW) (k : S K C H ((.ref D, .l accW) :: Φ) nt → Q (.ref D) H) : LcIt K C a ws g tt te σ0 vs D Q [] H := ⟨Φ, mt, s, h, k (s.fixL hr kn)⟩
theorem li_sc {D : Addr} (s : S K C H Φ mt) (h : (.ref a, .l ws) ∈ Φ) (sc : Sc w v) (k : g v σ0 H fun σ2 H2 => wipe σ2 vs = σ0 ∧ tt σ2 H2 fun b H3 => if b = true then te σ2 H3 fun y H4 => LcApp D y (LcIt K C a ws g tt te σ0 vs D Q rest) H4 else LcIt K C a ws g tt te σ0 vs D Q rest H3) : LcIt K C a ws g tt te σ0 vs D Q (w :: rest) H :=
  ⟨Φ, mt, s, h, fun u s' => by
    have := sc.h K C H u (s'.rep (.f List.mem_cons_self))
    subst this
    exact k⟩
theorem li_ref {D : Addr} (s : S K C H Φ mt) (h : (.ref a, .l ws) ∈ Φ) (hw : IsRef w) (k : ∀ q, S K C H ((.ref q, w) :: Φ) mt → g (.ref q) σ0 H fun σ2 H2 => wipe σ2 vs = σ0 ∧ tt σ2 H2 fun b H3 => if b = true then te σ2 H3 fun y H4 => LcApp D y (LcIt K C a ws g tt te σ0 vs D Q rest) H4 else LcIt K C a ws g tt te σ0 vs D Q rest H3) : LcIt K C a ws g tt te σ0 vs D Q (w :: rest) H :=
  ⟨Φ, mt, s, h, fun u s' => by
    obtain ⟨q, rfl⟩ := isRef_of hw (s'.rep (.f List.mem_cons_self))
    exact k q s'⟩
theorem g_lcApp {D : Addr} {N : Hp → Prop} (s : S K C H Φ mt) (h : (D, Eq (.lst acc)) ∈ mt) (hz : acc.length ≤ 90000) (hs : SetM D (Eq (.lst (acc ++ [y]))) mt nt) (k : ∀ H', S K C H' Φ nt → N H') : LcApp D y N H :=
  ⟨acc, s.at h, sz_lt (by omega), k _ (s.set hs rfl)⟩
theorem g_wp {P : Prop} (hw : Wp σ vs σ0) (k : P) : wipe σ vs = σ0 ∧ P := ⟨hw.h, k⟩
/-! cells of texts, by open places -/
theorem g_ixMS {ks : List Str} {i : Int} (s : S K C H Φ mt) (h : (p, Eq (.lst (ks.map V.str))) ∈ mt) (h0 : 0 ≤ i) (h1 : i < ks.length) (k : ∀ y, atI ks i = some y → y ∈ ks → Q (.str y) H) : rIxL K (.ref p) (.int i) H Q := by
  obtain ⟨j, rfl⟩ : ∃ j : Nat, i = (j : Int) := ⟨i.toNat, by omega⟩
  have hj : j < ks.length := by omega
  exact ⟨p, _, _, _, rfl, rfl, sq_of (s.at h), atI_nat (by rw [List.getElem?_map, List.getElem?_eq_getElem hj]; rfl), k _ (atI_nat (List.getElem?_eq_getElem hj)) (List.getElem_mem hj)⟩
theorem g_slToM {ks : List Str} {i : Int} {n : Nat} (s : S K C H Φ mt) (h : (p, Eq (.lst (ks.map V.str))) ∈ mt) (hi : Ix i n) (k : ∀ r H', S K C H' ((.ref r, .l ((ks.take n).map W.s)) :: Φ) mt → Q (.ref r) H') : rSlL K (.ref p) none (some i) H Q := by
  obtain rfl := hi.h
  refine ⟨p, _, rfl, sq_of (s.at h), fun r hr => k r _ ?_⟩
  rw [cutV_to, ← List.map_take]
  exact s.addL hr (Ex.new hr) upd_same (.is _ V.str W.s fun x _ => .s x)
theorem g_lenMS {ks : List Str} (s : S K C H Φ mt) (h : (p, Eq (.lst (ks.map V.str))) ∈ mt) (k : Q (.int (ks.length : Int)) H) : rLenS K [.ref p] H Q :=
  g_lenM s h (by rw [List.length_map]; exact k)
theorem S.fixIn {q : Addr} {X : HO → Prop} {ks : List Str} {Ψ : List (V × W)} (s : S K C H Ψ ((p, X) :: (q, Eq (.lst (ks.map V.str))) :: mt)) (hs : ∀ z ∈ Φ, z ∈ Ψ) : S K C H ((.ref q, .l (ks.map W.s)) :: Φ) ((p, X) :: mt) :=
  (s.fixL (.tl .hd) (.is ks V.str W.s fun x _ => .s x)).to (fun z hz => by
    rcases List.mem_cons.mp hz with rfl | hz
    · exact List.mem_cons_self
    · exact List.mem_cons_of_mem _ (hs z hz)) (List.Sublist.refl _)
theorem eqv_none {mks : List Str} (h : (W.l (mks.map W.s)).data.eqv (W.l []).data = true) : mks = [] := by
  simp only [W.data, W.datas, datas_strs, PyData.eqv] at h
  cases mks with
  | nil => rfl
  | cons k ks => simp [PyData.eqvAll] at h
theorem ne_len {mks : List Str} (h : PyData.eqv (W.l (mks.map W.s)).data (W.l []).data = false) : 0 < mks.length := by
  cases mks with
  | nil => simp [W.data, W.datas, PyData.eqv, PyData.eqvAll] at h
  | cons => simp
/-! the script -/
theorem S.start {ns : List Int} (h : SqL K H a (ns.map V.int)) : S K C H [(.ref a, .q ns)] [] :=
  ⟨⟨H, Ex.refl _, fun q hq => by rw [List.mem_singleton.mp hq]; exact .q h, fun q hq => by cases hq⟩, List.Pairwise.nil⟩
theorem g_lenQ {ns : List Int} (s : S K C H Φ mt) (h : (.ref p, .q ns) ∈ Φ) (k : Q (.int (ns.length : Int)) H) : rLenS K [.ref p] H Q := by
  cases s.rep (.f h) with
  | q hq => exact ⟨p, _, rfl, .inl hq, by rw [List.length_map]; exact k⟩
theorem g_ixQ {ns : List Int} {i : Int} (s : S K C H Φ mt) (h : (.ref p, .q ns) ∈ Φ) (h0 : 0 ≤ i) (h1 : i < ns.length) (k : ∀ n, n ∈ ns → Q (.int n) H) : rIxL K (.ref p) (.int i) H Q := by
  obtain ⟨j, rfl⟩ : ∃ j : Nat, i = (j : Int) := ⟨i.toNat, by omega⟩
  have hj : j < ns.length := by omega
  cases s.rep (.f h) with
  | q hq => exact ⟨p, _, _, _, rfl, rfl, hq, atI_nat (by rw [List.getElem?_map, List.getElem?_eq_getElem hj]; rfl), k _ (List.getElem_mem hj)⟩
/-- a row, as a list that may change -/
theorem S.openRow {lt pts : Str} {num : Int} {w4 w5 w6 : W} (s : S K C H Φ mt) (h : (.ref p, .l [.s lt, .i num, .s pts, w4, w5, w6]) ∈ Φ) {v5 v6 : V} (h4 : IsRef w4) (h5 : Sc w5 v5) (h6 : Sc w6 v6) : ∃ ma, SqL K H p [.str lt, .int num, .str pts, .ref ma, v5, v6] ∧ S K C H ((.ref ma, w4) :: Φ) mt := by
  obtain ⟨⟨kb, g1, g2, g3⟩, d⟩ := s
  cases g2 _ h with
  | l hq hr =>
    cases hr with | cons r1 hr => cases hr with | cons r2 hr => cases hr with | cons r3 hr => cases hr with | cons r4 hr => cases hr with | cons r5 hr => cases hr with | cons r6 hr => cases hr with | nil =>
      cases r1; cases r2; cases r3
      obtain ⟨ma, rfl⟩ := isRef_of h4 r4
      have e5 := h5.h K C _ _ r5
      have e6 := h6.h K C _ _ r6
      subst e5; subst e6
      refine ⟨ma, sq_of (g1 _ _ hq), ⟨kb, g1, fun q hq => ?_, g3⟩, d⟩
      rcases List.mem_cons.mp hq with rfl | hq
      · exact r4
      · exact g2 q hq
theorem g_listRow {lt pts : Str} {num : Int} {w4 w5 w6 : W} {v5 v6 : V} (s : S K C H Φ mt) (h : (.ref p, .l [.s lt, .i num, .s pts, w4, w5, w6]) ∈ Φ) (h4 : IsRef w4) (h5 : Sc w5 v5) (h6 : Sc w6 v6) (k : ∀ q ma H', S K C H' ((.ref ma, w4) :: Φ) ((q, Eq (.lst [.str lt, .int num, .str pts, .ref ma, v5, v6])) :: mt) → Q (.ref q) H') : rListM K [.ref p] H Q := by
  obtain ⟨ma, h1, s'⟩ := s.openRow h h4 h5 h6
  exact ⟨p, _, rfl, .inl h1, fun q hn => k q ma _ (s'.addM hn (Ex.new hn) upd_same rfl)⟩
end
section
variable {K : PySem.W.Frag} {C : Addr} {σ σ' : L2.St} {H : Hp} {Φ : List (V × W)} {mt : List (Addr × (HO → Prop))} {ws : List W} {t : TGs} {N : L2.St → Hp → Prop} {i : Nat} {v : Option V} {te : TE} {Q : VK} {tt : TT} {R : Bool → Hp → Prop}
instance (priority := high) {vs : List Nat} {σ0 : L2.St} [q : SetAt σ i v σ'] [r : Wp σ' vs σ0] : St1 (wipe (σ.set i v) vs = σ0 ∧ tt (σ.set i v) H R) (tt σ' H R) := ⟨fun h => by rw [q.h]; exact ⟨r.h, h⟩⟩
instance {P : Prop} {vs : List Nat} {σ0 : L2.St} [r : Wp σ vs σ0] : St1 (wipe σ vs = σ0 ∧ P) P := ⟨fun h => ⟨r.h, h⟩⟩
instance (priority := high) [q : SetAt σ i v σ'] : St1 (TI K C H Φ mt ws t (σ.set i v) N) (TI K C H Φ mt ws t σ' N) := ⟨fun h => by rw [q.h]; exact h⟩
end
local macro_rules | `(tactic| kt_at_in) => `(tactic| with_reducible (first | exact KnL.nil | exact Kn.i _ | exact Kn.s _ | exact Kn.n | exact Kn.b _ | exact Kn.o _ | (apply Kn.f; tb_rel) | (apply KnL.cons; kt_at_in; kt_at_in) | exact KnL.is _ V.str W.s (fun _ _ => Kn.s _) | exact KnL.is _ V.int W.i (fun _ _ => Kn.i _)))
local macro_rules | `(tactic| kt_at_get) => `(tactic| with_reducible first
  | refine st_go ?_
  | ((show ForW _ _ _ _ _ _); apply g_forU; (focus (assumption)); (focus (tb_rel)); (focus (infer_instance)))
  | ((show LcW _ _ _ _ _ _ _ _); apply g_lcU; (focus (infer_instance)); (focus (assumption)); (focus (tb_rel)); (focus (infer_instance)); intro _ _ _)
  | ((show ForIt _ _ _ _ _ _ _ _ _ _); first
    | (apply fi_nil; (focus (assumption)); (focus (tb_rel)))
    | (apply fi_sc; (focus (assumption)); (focus (tb_rel)); (focus (infer_instance)))
    | (apply fi_ref; (focus (assumption)); (focus (tb_rel)); (focus (first | exact isL | exact isT | exact isM)); intro _ _))
  | ((show LcIt _ _ _ _ _ _ _ _ _ _ _ _ _); first
    | (apply li_nil; (focus (assumption)); (focus (tb_rel)); (focus (kt_at_method)); (focus (kt_at_in)); intro _)
    | (apply li_sc; (focus (assumption)); (focus (tb_rel)); (focus (infer_instance)))
    | (apply li_ref; (focus (assumption)); (focus (tb_rel)); (focus (first | exact isL | exact isT | exact isM)); intro _ _))
  | ((show LcApp _ _ _ _); apply g_lcApp; (focus (assumption)); (focus (tb_rel)); (focus (kcf_m)); (focus (kt_at_item)); intro _ _)
  | ((show rIxL _ _ _ _ _); apply g_ixMS; (focus (assumption)); (focus (tb_rel)); (focus (kcf_m)); (focus (kcf_m)); intro _ _ _)
  | ((show rSlL _ _ _ _ _ _); apply g_slToM; (focus (assumption)); (focus (tb_rel)); (focus (infer_instance)); intro _ _ _)
  | ((show rLenS _ _ _ _); apply g_lenMS; (focus (assumption)); (focus (tb_rel)))
  | ((show rLenS _ _ _ _); apply g_lenQ; (focus (assumption)); (focus (tb_rel)))
  | ((show rIxL _ _ _ _ _); apply g_ixQ; (focus (assumption)); (focus (tb_rel)); (focus (kcf_m)); (focus (kcf_m)); intro _ _)
  | ((show gTup _ _ _ _ _ _ _); apply g_tupT; (focus (assumption)); (focus (tb_rel)); (focus (with_unfolding_all exact rfl)))
  | ((show TI _ _ _ _ _ _ _ _ _); first
    | (apply ti_nil; intro _)
    | (apply ti_sc; (focus (infer_instance)))
    | (apply ti_ref; (focus (first | exact isL | exact isT | exact isM)); intro _))
  | ((show rListM _ _ _ _); apply g_listRow; (focus (assumption)); (focus (tb_rel)); (focus (first | exact isL | exact isT | exact isM)); (focus (infer_instance)); (focus (infer_instance)); intro _ _ _ _))


theorem words_len {m : MK} (ok : m.Ok) : m.words.length ≤ 6 ∧ ∀ s ∈ m.words, s.length ≤ 5000 := by
  have hk := ok.k
  have hh := head_len ok
  have e0 : (Str.empty).length = 0 := rfl
  have hcl : (("c." : Str)).length = 2 := by decide +kernel
  have hm : ∀ s ∈ m.mks, s.length ≤ 5000 := fun s h => by have := (ok.ks s h).2; omega
  have hy : ∀ y, m.yr = some y → (Str.ofString (toString y)).length ≤ 1921 := fun y h => int_len (log_s (by have := ok.y y h; omega) (by have := ok.y y h; omega))
  have hc : ∀ y, m.cp = some y → (Str.ofString (toString y)).length ≤ 1921 := fun y h => int_len (ok.c y h).2
  unfold MK.words
  constructor
  · cases m.yr <;> cases m.cp <;> simp only [List.length_append, List.length_cons, List.length_nil] <;> omega
  · intro s hs
    simp only [List.mem_append, List.mem_cons] at hs
    rcases hs with ((rfl | hs) | hs) | hs
    · exact hh
    · exact hm s hs
    · cases h : m.yr with
      | none => rw [h] at hs; cases hs
      | some y => rw [h] at hs; rw [List.mem_singleton.mp hs]; have := hy y h; omega
    · cases h : m.cp with
      | none => rw [h] at hs; cases hs
      | some y =>
        rw [h] at hs
        rw [List.mem_singleton.mp hs, fold_len]
        simp only [List.map_cons, List.map_nil, List.sum_cons, List.sum_nil, hcl, e0]
        have := hc y h
        omega
theorem text_len {m : MK} (ok : m.Ok) : m.text.length ≤ 50000 := by
  obtain ⟨h1, h2⟩ := words_len ok
  have h3 := StrLaws.join_length_le " " m.words
  have h4 := sum_le h2
  have hb : ((" " : Str)).length = 1 := by decide +kernel
  have e : m.text = Str.join " " m.words := StrLaws.glued_eq_join _ _
  rw [hb] at h3
  rw [e]
  have : m.words.length * 5000 ≤ 6 * 5000 := Nat.mul_le_mul_right _ h1
  omega
theorem strOk_iff {t : Str} : PyData.strOk t = true ↔ ∀ c ∈ sg t, c < 0x110000 := by
  unfold PyData.strOk
  rw [← Array.all_toList, List.all_eq_true]
  exact ⟨fun h c hc => of_decide_eq_true (h c hc), fun h c hc => decide_eq_true (h c hc)⟩
theorem strOk_app {a b : Str} (h1 : PyData.strOk a = true) (h2 : PyData.strOk b = true) : PyData.strOk (a ++ b) = true := by
  rw [strOk_iff] at *
  intro c hc
  rw [sg_app] at hc
  exact (List.mem_append.mp hc).elim (h1 c) (h2 c)
theorem strOk_lit (s : String) : PyData.strOk (Str.ofString s) = true := by
  rw [strOk_iff, PySem.Str.ofString_eq_toList]
  intro c hc
  have hc : c ∈ s.toList.map Char.toNat := by simpa using hc
  obtain ⟨d, _, rfl⟩ := List.mem_map.mp hc
  have := d.valid
  rcases this with h | ⟨_, h⟩
  · exact Nat.lt_of_lt_of_le h (by decide)
  · exact h
theorem strOk_join {sep : Str} (hs : PyData.strOk sep = true) : ∀ {ws : List Str}, (∀ w ∈ ws, PyData.strOk w = true) → PyData.strOk (Str.join sep ws) = true
  | [], _ => by show PyData.strOk Str.empty = true; decide +kernel
  | [x], h => h x List.mem_cons_self
  | x :: y :: r, h => strOk_app (strOk_app (h x List.mem_cons_self) hs) (strOk_join hs fun w hw => h w (List.mem_cons_of_mem _ hw))
theorem text_ok {m : MK} (ok : m.Ok) : PyData.strOk m.text = true := by
  have e : m.text = Str.join " " m.words := StrLaws.glued_eq_join _ _
  rw [e]
  refine strOk_join (strOk_lit " ") fun s hs => ?_
  have hl := strOk_of (letters_in ok.l) abc_ok
  have hp := points_str ok.p
  have he : PyData.strOk Str.empty = true := by decide +kernel
  have hh : PyData.strOk m.head = true := by
    unfold MK.head
    by_cases h : m.pts = ("" : Str)
    · rw [if_pos h]; exact strOk_app (strOk_app he hl) (strOk_lit _)
    · rw [if_neg h]; exact strOk_app (strOk_app (strOk_app (strOk_app he hl) (strOk_lit _)) (strOk_lit _)) hp
  unfold MK.words at hs
  simp only [List.mem_append, List.mem_cons] at hs
  rcases hs with ((rfl | hs) | hs) | hs
  · exact hh
  · exact maker_str (ok.ks s hs).1
  · cases h : m.yr with
    | none => rw [h] at hs; cases hs
    | some y => rw [h] at hs; rw [List.mem_singleton.mp hs]; exact strOk_lit _
  · cases h : m.cp with
    | none => rw [h] at hs; cases hs
    | some y => rw [h] at hs; rw [List.mem_singleton.mp hs]; exact strOk_app (strOk_app he (strOk_lit _)) (strOk_lit _)
theorem sok_l {t : Str} (h : lettersOk t 3 = true) : SOk t := ⟨strOk_of (letters_in h) abc_ok, by have := letters_len h; omega⟩
theorem sok_p {t : Str} (h : pointsOk t = true) (hl : t.length ≤ 1000) : SOk t := ⟨points_str h, by omega⟩
theorem sok_k {m : MK} (ok : m.Ok) : SOkL m.mks := ⟨fun k h => ⟨maker_str (ok.ks k h).1, by have := (ok.ks k h).2; omega⟩, by have := ok.k; omega⟩
theorem iok_n {m : MK} (ok : m.Ok) : IOk m.num := ⟨log_s (by have := ok.n; omega) (by have := ok.n; omega)⟩
theorem ook_y {m : MK} (ok : m.Ok) : OOk m.yr := ⟨fun n h => log_s (by have := ok.y n h; omega) (by have := ok.y n h; omega)⟩
theorem ook_c {m : MK} (ok : m.Ok) : OOk m.cp := ⟨fun n h => (ok.c n h).2⟩
theorem sok_t {m : MK} (ok : m.Ok) : SOk m.text := ⟨text_ok ok, Nat.le_trans (text_len ok) (by decide)⟩
/-! f-strings, part by part -/
section
variable {K : PySem.W.Frag} {C : Addr} {σ : L2.St} {H : Hp} {te : TE} {ts : List TE} {Q : VK} {R : Str → Hp → Prop} {acc y : Str} {i : Int}
theorem e_app {s : Str} : Str.empty ++ s = s := str_ext (by rw [sg_app]; rfl)
def JW (ts : List TE) (acc : Str) (R : Str → Hp → Prop) (σ : L2.St) (x : V) (H1 : Hp) : Prop := ∃ y : Str, x = .str y ∧ (acc ++ y).length ≤ sizeLine ∧ tJs ts (acc ++ y) σ H1 R
theorem g_jNilR (h : R acc H) : tJs [] acc σ H R := h
instance : St1 (tJs [] acc σ H R) (R acc H) := ⟨g_jNilR⟩
theorem g_jConsR (h : te σ H fun x H1 => JW ts acc R σ x H1) : tJs (te :: ts) acc σ H R := h
instance : St1 (tJs (te :: ts) acc σ H R) (te σ H fun x H1 => JW ts acc R σ x H1) := ⟨g_jConsR⟩
theorem g_jw0 (hz : y.length ≤ 100000) (h : tJs ts y σ H R) : JW ts Str.empty R σ (.str y) H := ⟨y, rfl, by rw [e_app]; exact sz_of hz, by rw [e_app]; exact h⟩
theorem g_jw (hz : (acc ++ y).length ≤ 100000) (h : tJs ts (acc ++ y) σ H R) : JW ts acc R σ (.str y) H := ⟨y, rfl, sz_of hz, h⟩
def FmtW (x : V) (H1 : Hp) (Q : VK) : Prop := (∃ s : Str, x = .str s ∧ s.length ≤ sizeLine ∧ Q (.str s) H1) ∨ ∃ i : Int, x = .int i ∧ i.natAbs.log2 < 1920 ∧ Q (.str (toString i)) H1
theorem g_fmtW (h : te σ H fun x H1 => FmtW x H1 Q) : tFmt te σ H Q := h
instance : St1 (tFmt te σ H Q) (te σ H fun x H1 => FmtW x H1 Q) := ⟨g_fmtW⟩
theorem g_fmtS (hz : y.length ≤ 100000) (k : Q (.str y) H) : FmtW (.str y) H Q := .inl ⟨y, rfl, sz_of hz, k⟩
theorem g_fmtI (hz : i.natAbs.log2 < 1920) (k : (Str.ofString (toString i)).length ≤ 1921 → Q (.str (toString i)) H) : FmtW (.int i) H Q := .inr ⟨i, rfl, hz, k (int_len hz)⟩
end
local macro_rules | `(tactic| kt_at_get) => `(tactic| with_reducible first
  | (apply g_jw0; (focus (kcf_m)))
  | (apply g_jw; (focus (kcf_m)))
  | (apply g_fmtS; (focus (kcf_m)))
  | (apply g_fmtI; (focus (kcf_m)); intro _))
abbrev MK.row (m : MK) : W := .l [.s m.lt, .i m.num, .s m.pts, .l (m.mks.map W.s), W.o m.yr, W.o m.cp]
/-! ### methods of marks, by facts -/
section
variable {K : PySem.W.Frag} {C : Addr} {σ : L2.St} {H H1 : Hp} {Φ : List (V × W)} {mt nt : List (Addr × (HO → Prop))} {Q : VK} {ta te : TE} {tl tr tk : TA} {v x y z : V} {vs us xs dvs : List V} {p a q : Addr} {sp : Sp} {E : XK} {m n : MK} {w : W}
def W.isq : W → Bool
  | .q _ => true
  | _ => false
def FldW (K : PySem.W.Frag) (f : Str) (x : V) (H1 : Hp) (Q : VK) : Prop := ∃ a C dx fs v, x = .ref a ∧ H1 a = some (.ins C dx fs) ∧ Cls K C ∧ NoAttr K C f ∧ fs.lookup f = some v ∧ Q v H1
theorem g_fld {f : Str} (h : ta σ H fun x H1 => FldW K f x H1 Q) : tFld K ta f σ H Q := h
instance {f : Str} : St1 (tFld K ta f σ H Q) (ta σ H fun x H1 => FldW K f x H1 Q) := ⟨g_fld⟩
theorem S.openM (s : S K C H Φ mt) (h : (.ref a, .m m) ∈ Φ) : ∃ dx pa ma, H a = some (.ins C dx [("_parts", .ref pa), ("_text", .str m.text)]) ∧ S K C H ((.ref pa, .t [.s m.lt, .i m.num, .s m.pts, .t (m.mks.map W.s), W.o m.yr, W.o m.cp]) :: (.ref ma, .t (m.mks.map W.s)) :: Φ) mt := by
  obtain ⟨⟨kb, h1, h2, h3⟩, d⟩ := s
  cases h2 _ h with
  | m hm ok =>
    obtain ⟨dx, pa, ma, g1, g2, g3⟩ := hm
    have r1 : Rep K C kb (.ref ma) (.t (m.mks.map W.s)) := .t g3 (RepL.map V.str W.s _ fun x _ => .s x)
    have ro : ∀ o : Option Int, Rep K C kb (oi o) (W.o o) := fun o => by cases o; exact .n; exact .i _
    have r2 : Rep K C kb (.ref pa) (.t [.s m.lt, .i m.num, .s m.pts, .t (m.mks.map W.s), W.o m.yr, W.o m.cp]) := .t g2 (.cons (.s _) (.cons (.i _) (.cons (.s _) (.cons r1 (.cons (ro _) (.cons (ro _) .nil))))))
    refine ⟨dx, pa, ma, h1 _ _ g1, ⟨kb, h1, fun q hq => ?_, h3⟩, d⟩
    rcases List.mem_cons.mp hq with rfl | hq
    · exact r2
    · rcases List.mem_cons.mp hq with rfl | hq
      · exact r1
      · exact h2 q hq
theorem g_fldText (s : S K C H Φ mt) (h : (.ref a, .m m) ∈ Φ) (hc : Cls K C) (hn : NoAttr K C "_text") (k : Q (.str m.text) H) : FldW K "_text" (.ref a) H Q := by
  obtain ⟨dx, pa, ma, h1, _⟩ := s.openM h
  exact ⟨a, C, dx, _, _, rfl, h1, hc, hn, by kernel_rfl, k⟩
theorem g_fldParts (s : S K C H Φ mt) (h : (.ref a, .m m) ∈ Φ) (hc : Cls K C) (hn : NoAttr K C "_parts") (k : ∀ p, S K C H ((.ref p, .t [.s m.lt, .i m.num, .s m.pts, .t (m.mks.map W.s), W.o m.yr, W.o m.cp]) :: Φ) mt → Q (.ref p) H) : FldW K "_parts" (.ref a) H Q := by
  obtain ⟨dx, pa, ma, h1, s'⟩ := s.openM h
  exact ⟨a, C, dx, _, _, rfl, h1, hc, hn, by kernel_rfl, k _ (s'.to (fun q hq => by
    rcases List.mem_cons.mp hq with rfl | hq
    · exact List.mem_cons_self
    · exact List.mem_cons_of_mem _ (List.mem_cons_of_mem _ hq)) (List.Sublist.refl _))⟩
theorem S.insM (s : S K C H Φ mt) (h : (.ref a, .m m) ∈ Φ) : ∃ dx fs, H a = some (.ins C dx fs) := by
  obtain ⟨dx, pa, ma, h1, _⟩ := s.openM h
  exact ⟨_, _, h1⟩
def spGet (K : PySem.W.Frag) (C : Addr) (f : MK → V) : Sp := fun vs H Q _ => ∃ x m Φ mt, vs = [.ref x] ∧ (.ref x, .m m) ∈ Φ ∧ S K C H Φ mt ∧ ∀ H', S K C H' Φ mt → Q (f m) H'
def spGetT (K : PySem.W.Frag) (C : Addr) (f : MK → List W) : Sp := fun vs H Q _ => ∃ x m Φ mt, vs = [.ref x] ∧ (.ref x, .m m) ∈ Φ ∧ S K C H Φ mt ∧ ∀ p H', S K C H' ((.ref p, .t (f m)) :: Φ) mt → Q (.ref p) H'
theorem use_get {f : MK → V} (s : S K C H Φ mt) (h : (.ref a, .m m) ∈ Φ) (k : ∀ H', S K C H' Φ mt → Q (f m) H') : spGet K C f [.ref a] H Q E := ⟨a, m, Φ, mt, rfl, h, s, k⟩
theorem use_getT {f : MK → List W} (s : S K C H Φ mt) (h : (.ref a, .m m) ∈ Φ) (k : ∀ p H', S K C H' ((.ref p, .t (f m)) :: Φ) mt → Q (.ref p) H') : spGetT K C f [.ref a] H Q E := ⟨a, m, Φ, mt, rfl, h, s, k⟩
theorem g_methN {mn : Str} (s : S K C H Φ mt) (h : (.ref a, .m m) ∈ Φ) (h1 : mn ≠ "_parts") (h2 : mn ≠ "_text") (q : tl σ H fun vs H2 => sp (.ref a :: vs) H2 Q E) : MethW C mn sp [] E tl σ Q (.ref a) H :=
  g_methM s h h1 h2 (by simpa only [List.append_nil] using q)
theorem g_meth0 {mn : Str} {f : MK → V} (s : S K C H Φ mt) (h : (.ref a, .m m) ∈ Φ) (h1 : mn ≠ "_parts") (h2 : mn ≠ "_text") (k : ∀ H', S K C H' Φ mt → Q (f m) H') : MethW C mn (spGet K C f) [] E tNil σ Q (.ref a) H :=
  g_methM s h h1 h2 (use_get (E := E) s h k)
theorem g_methT {mn : Str} {f : MK → List W} (s : S K C H Φ mt) (h : (.ref a, .m m) ∈ Φ) (h1 : mn ≠ "_parts") (h2 : mn ≠ "_text") (k : ∀ p H', S K C H' ((.ref p, .t (f m)) :: Φ) mt → Q (.ref p) H') : MethW C mn (spGetT K C f) [] E tNil σ Q (.ref a) H :=
  g_methM s h h1 h2 (use_getT (E := E) s h k)
theorem g_strOwn {f : MK → V} (s : S K C H Φ mt) (h : (.ref a, .m m) ∈ Φ) (hf : ∃ t, f m = .str t) (k : ∀ H', S K C H' Φ mt → Q (f m) H') : rStrOwn C (spGet K C f) E [.ref a] H Q := by
  obtain ⟨dx, fs, h1⟩ := s.insM h
  exact ⟨a, dx, fs, rfl, h1, use_get s h fun H' s' => ⟨hf, k H' s'⟩⟩
theorem g_reprOwn {f : MK → V} (s : S K C H Φ mt) (h : (.ref a, .m m) ∈ Φ) (hf : ∃ t, f m = .str t) (k : ∀ H', S K C H' Φ mt → Q (f m) H') : rReprOwn C (spGet K C f) E [.ref a] H Q := g_strOwn s h hf k
theorem g_lenOwn {f : MK → V} {n : Nat} (s : S K C H Φ mt) (h : (.ref a, .m m) ∈ Φ) (hf : f m = .int n) (hz : n < 100000) (k : ∀ H', S K C H' Φ mt → Q (.int n) H') : rLenOwn C (spGet K C f) E [.ref a] H Q := by
  obtain ⟨dx, fs, h1⟩ := s.insM h
  exact ⟨a, dx, fs, rfl, h1, use_get s h fun H' s' => ⟨n, hf, by omega, by omega, by rw [hf]; exact k H' s'⟩⟩
theorem kE_self (m : MK) : kE m m = true := by unfold kE; simp
instance {m : MK} {A B : Prop} : St1 (if kE m m = true then A else B) A := ⟨fun h => by rw [if_pos (kE_self m)]; exact h⟩
theorem dec_vint {a b : Int} : decide (V.int a = V.int b) = decide (a = b) := by
  by_cases h : a = b
  · rw [h, decide_eq_true rfl, decide_eq_true rfl]
  · rw [decide_eq_false h, decide_eq_false (fun z => h (V.int.inj z))]
theorem kE_comm (m n : MK) : kE m n = kE n m := by
  unfold kE
  simp only [eq_comm]
theorem eqv_strs : ∀ ks js : List Str, PyData.eqvAll (ks.map PyData.str) (js.map PyData.str) = decide (ks = js)
  | [], [] => by simp [PyData.eqvAll]
  | [], _ :: _ => by simp [PyData.eqvAll]
  | _ :: _, [] => by simp [PyData.eqvAll]
  | k :: ks, j :: js => by
    simp only [List.map_cons, PyData.eqvAll, PyData.eqv, eqv_strs ks js, List.cons.injEq]
    by_cases h : k = j <;> simp [h]
theorem eqv_o {o p : Option Int} (h1 : ∀ i, o = some i → i ≠ 0) (h2 : ∀ i, p = some i → i ≠ 0) : PyData.eqv (W.o o).data (W.o p).data = decide (o.getD 0 = p.getD 0) := by
  cases o with
  | none => cases p with
    | none => simp [W.o, W.data, PyData.eqv]
    | some j => have := h2 j rfl; simp [W.o, W.data, PyData.eqv]; exact fun h => this h.symm
  | some i => cases p with
    | none => have := h1 i rfl; simp [W.o, W.data, PyData.eqv, this]
    | some j => simp [W.o, W.data, PyData.eqv]; rw [Bool.eq_iff_iff]; simp
theorem eqv_row {m n : MK} (okm : m.Ok) (okn : n.Ok) : PyData.eqv m.row.data n.row.data = kE m n := by
  unfold MK.row kE
  simp only [W.data, W.datas, datas_strs, PyData.eqv, PyData.eqvAll, eqv_strs, Bool.and_true]
  rw [eqv_o (fun i h => by have := okm.y i h; omega) (fun i h => by have := okn.y i h; omega), eqv_o (fun i h => by have := (okm.c i h).1; omega) (fun i h => by have := (okn.c i h).1; omega)]
  rw [Bool.eq_iff_iff]
  simp only [Bool.and_eq_true, decide_eq_true_eq, beq_iff_eq]
theorem row_ly {m : MK} (ok : m.Ok) : ∃ d z, Ly m.row d z ∧ d ≤ 3 := by
  have i1 : SOk m.lt := sok_l ok.l
  have i2 : SOk m.pts := sok_p ok.p ok.pz
  have i3 : SOkL m.mks := sok_k ok
  have i4 : IOk m.num := iok_n ok
  have i5 : OOk m.yr := ook_y ok
  have i6 : OOk m.cp := ook_c ok
  exact ⟨_, _, (inferInstance : Ly (.l [.s m.lt, .i m.num, .s m.pts, .l (m.mks.map W.s), W.o m.yr, W.o m.cp]) _ _), by decide⟩
theorem g_eqRow (s : S K C H Φ mt) (h1 : (x, m.row) ∈ Φ) (h2 : (y, n.row) ∈ Φ) (okm : m.Ok) (okn : n.Ok) (k : Q (.bl (kE m n)) H) : rEqD K x y H Q := by
  obtain ⟨d, z, l1, h3⟩ := row_ly okm
  obtain ⟨e, z', l2, h4⟩ := row_ly okn
  refine g_eqD s (.k (.f h1)) (.k (.f h2)) l1 l2 (by omega) (by omega) ?_
  rw [eqv_row okm okn]
  exact k
theorem g_neRow (s : S K C H Φ mt) (h1 : (x, m.row) ∈ Φ) (h2 : (y, n.row) ∈ Φ) (okm : m.Ok) (okn : n.Ok) (k : Q (.bl (!kE m n)) H) : rNeD K x y H Q := by
  obtain ⟨d, z, l1, h3⟩ := row_ly okm
  obtain ⟨e, z', l2, h4⟩ := row_ly okn
  refine g_neD s (.k (.f h1)) (.k (.f h2)) l1 l2 (by omega) (by omega) ?_
  rw [eqv_row okm okn]
  exact k
/-- a mark held against anything -/
def eqMW (m : MK) : W → Bool
  | .m n => kE m n
  | _ => false
def spEqS (K : PySem.W.Frag) (C : Addr) : Sp := fun vs H Q _ => ∃ x y m w Φ mt, vs = [.ref x, y] ∧ (.ref x, .m m) ∈ Φ ∧ KnM Φ mt y w ∧ w.isq = false ∧ S K C H Φ mt ∧ ∀ H', S K C H' Φ mt → Q (.bl (eqMW m w)) H'
theorem kdv_of (r : Rep K C H y w) (hq : w.isq = false) : KdV C H y := by
  cases r with
  | i n => exact .inl ⟨_, .int n⟩
  | b c => exact .inl ⟨_, .bl c⟩
  | n => exact .inl ⟨_, .non⟩
  | s t => exact .inl ⟨_, .str t⟩
  | l h _ => exact .inl ⟨_, .lst h⟩
  | t h _ => exact .inl ⟨_, .tup h⟩
  | m h _ => obtain ⟨dx, pa, ma, h1, _⟩ := h; exact .inr ⟨_, _, _, rfl, h1⟩
  | q _ => cases hq
theorem g_eqW (s : S K C H Φ mt) (h : (.ref a, .m m) ∈ Φ) (h2 : KnM Φ mt y w) (hq : w.isq = false) (k : ∀ H', S K C H' Φ mt → Q (.bl (eqMW m w)) H') : rEqW C (spEqS K C) E (.ref a) y H Q := by
  obtain ⟨dx, fs, h1⟩ := s.insM h
  exact ⟨a, dx, fs, rfl, h1, kdv_of (s.repM h2) hq, a, y, m, w, Φ, mt, rfl, h, h2, hq, s, fun H' s' => ⟨⟨_, rfl⟩, k H' s'⟩⟩
theorem g_neW (s : S K C H Φ mt) (h : (.ref a, .m m) ∈ Φ) (h2 : KnM Φ mt y w) (hq : w.isq = false) (k : ∀ H', S K C H' Φ mt → Q (.bl (!eqMW m w)) H') : rNeW C (spEqS K C) E (.ref a) y H Q := by
  obtain ⟨dx, fs, h1⟩ := s.insM h
  exact ⟨a, dx, fs, rfl, h1, kdv_of (s.repM h2) hq, a, y, m, w, Φ, mt, rfl, h, h2, hq, s, fun H' s' => ⟨_, rfl, k H' s'⟩⟩
theorem KdT.tyx {T : String} (k : KdT H y T) : TyX K H y (.type T) := by
  cases k with
  | non => exact .base .non
  | bl k => exact .base (.bl k)
  | int i => exact .base (.int i)
  | str t => exact .base (.str t)
  | lst e => exact .base (.lst e)
  | tup e => exact .base (.tup e)
  | dK e => exact .base (.dK e)
theorem KdT.notC {T : String} (k : KdT H y T) (ki : ((PySem.W.clsIn K C).isSome && PySem.W.typeIn K (.ref C) == some (.type "type")) = true) : PySem.W.kitOne K (.type T) (.ref C) = some false := by
  unfold PySem.W.kitOne PySem.W.kitCls
  rw [if_neg (by simp)]
  show (if _ then _ else _) = _
  rw [if_pos ki]
  exact k.sub
end
section
variable {P : Program} {w : World} {K : PySem.W.Frag} {mg : Str → Option Value} {base : Heap} {Z : Adr} {C : Addr}
theorem ok_Mark_eq (T : Txt K mg Z) : FnOk P w K mg base CX0 1 Z.a_Mark_eq Z.d_Mark_eq ["self", "other"] (spEqS K Z.C_Mark) := by
  refine T.F_Mark_eq.ok sc_Mark_eq (fun vs H Q E h => ?_) (fun cdv A outer s H vs Q E hr h => ?_)
  · obtain ⟨_, _, _, _, _, _, rfl, _⟩ := h; rfl
  · obtain ⟨x, y, m, w, Φ, mt, rfl, hx, hy, hq, s, kk⟩ := h
    refine ⟨_, (pss_one (ps_ret (pe_and (pe_callB (isiK K) (by rfl) T.n_isinstance (by decide +kernel) (pa_cons (pv 1) (pa_cons (pe_glob (v := .ref Z.C_Mark) rfl T.g_Mark rfl) pa_nil))) (pe_one (pe_cmpR (eqDK K hr.units) (fldK K (pv 0) rfl) (fldK K (pv 1) rfl) (nomark _)))))), ?_⟩
    have no : ∀ {T1 : String}, KdT H y T1 → eqMW m w = false → tRet (tAndV (tCB (rIsi K) (tCons (tVar 1) (tCons (tC (.ref Z.C_Mark)) tNil))) (tOp (rEqD K) (tFld K (tVar 0) "_parts") (tFld K (tVar 1) "_parts"))) { nx := fun _ H' => Q .non H', rt := Q } [some (.ref x), some y] H := fun k e =>
      ⟨_, rfl, _, _, _, _, false, rfl, .own Z.C_Mark, k.tyx, k.notC T.ki_Mark, false, rfl, iteF (by have := kk H s; rw [e] at this; exact this)⟩
    have r := s.repM hy
    cases hw : w with
    | m n =>
      subst hw
      obtain ⟨⟨dx, pa, ma, h1, h2, h3⟩, okm⟩ := s.mark hx
      cases r with
      | m hn okn =>
        obtain ⟨dy, pb, mb, g1, g2, g3⟩ := hn
        refine ⟨_, rfl, _, _, _, _, true, rfl, .own Z.C_Mark, .base (.ins g1 T.cl_Mark T.t1_Mark T.t2_Mark T.t3_Mark T.t4_Mark), kit_self, true, rfl, iteT ?_⟩
        refine ⟨_, rfl, x, Z.C_Mark, dx, _, _, rfl, h1, T.cl_Mark, T.na_Mark_parts, by kernel_rfl, _, rfl, _, Z.C_Mark, dy, _, _, rfl, g1, T.cl_Mark, T.na_Mark_parts, by kernel_rfl, m.data, n.data, dp_data h2 h3, dp_data g2 g3, shaped_ok okm, shaped_ok okn, ?_⟩
        rw [eqv_d okm okn]
        exact kk H s
    | q _ => rw [hw] at hq; cases hq
    | i _ => subst hw; cases r; exact no (.int _) rfl
    | b _ => subst hw; cases r; exact no (.bl _) rfl
    | n => subst hw; cases r; exact no .non rfl
    | s _ => subst hw; cases r; exact no (.str _) rfl
    | l _ => subst hw; cases r with | l h _ => exact no (.lst h) rfl
    | t _ => subst hw; cases r with | t h _ => exact no (.tup h) rfl
end
local macro_rules | `(tactic| kt_at_get) => `(tactic| with_reducible first
  | (apply g_fldText; (focus (assumption)); (focus (tb_rel)); (focus (assumption)); (focus (assumption)))
  | (apply g_fldParts; (focus (assumption)); (focus (tb_rel)); (focus (assumption)); (focus (assumption)); intro _ _)
  | (apply g_meth0; (focus (assumption)); (focus (tb_rel)); (focus (decide +kernel)); (focus (decide +kernel)); intro _ _; try dsimp only)
  | (apply g_methT; (focus (assumption)); (focus (tb_rel)); (focus (decide +kernel)); (focus (decide +kernel)); intro _ _ _; try dsimp only)
  | ((show MethW _ _ _ _ _ _ _ _ _ _); apply g_methN; (focus (assumption)); (focus (tb_rel)); (focus (decide +kernel)); (focus (decide +kernel)))
  | (apply g_strOwn; (focus (assumption)); (focus (tb_rel)); (focus (exact ⟨_, rfl⟩)); intro _ _; try dsimp only)
  | (apply g_reprOwn; (focus (assumption)); (focus (tb_rel)); (focus (exact ⟨_, rfl⟩)); intro _ _; try dsimp only)
  | (apply g_lenOwn; (focus (assumption)); (focus (tb_rel)); (focus (exact rfl)); (focus (kcf_m)); intro _ _; try dsimp only)
  | ((show rEqD _ _ _ _ _); apply g_eqRow; (focus (assumption)); (focus (tb_rel)); (focus (tb_rel)); (focus (assumption)); (focus (assumption)))
  | ((show rNeD _ _ _ _ _); apply g_neRow; (focus (assumption)); (focus (tb_rel)); (focus (tb_rel)); (focus (assumption)); (focus (assumption)))
  | (apply g_eqW; (focus (assumption)); (focus (tb_rel)); (focus (first | (apply KnM.k; kt_at_in) | (apply KnM.c; tb_rel))); (focus (with_unfolding_all exact rfl)); intro _ _; try simp only [eqMW, MK.row, kE_self])
  | (apply g_neW; (focus (assumption)); (focus (tb_rel)); (focus (first | (apply KnM.k; kt_at_in) | (apply KnM.c; tb_rel))); (focus (with_unfolding_all exact rfl)); intro _ _; try simp only [eqMW, MK.row, kE_self]))
section
variable {P : Program} {w : World} {K : PySem.W.Frag} {mg : Str → Option Value} {base : Heap} {Z : Adr} {C : Addr}
theorem ok_Mark_letters (T : Txt K mg Z) : FnOk P w K mg base CX0 1 Z.a_Mark_letters Z.d_Mark_letters ["self"] (spGet K Z.C_Mark (fun m => .str m.lt)) := by
  refine T.F_Mark_letters.ok sc_Mark_letters (fun vs H Q E h => ?_) (fun cdv A outer s H vs Q E hr h => ?_)
  · obtain ⟨_, _, _, _, rfl, _⟩ := h; rfl
  · obtain ⟨x, m, Φ, mt, rfl, hx, s, kk⟩ := h
    refine ⟨_, (pss_one (ps_ret (pe_ix (ixT K) (fldK K (pv 0) rfl) pe_int (fun _ _ => rfl)))), ?_⟩
    have hc := T.cl_Mark
    have hn1 := T.na_Mark_parts
    have hn2 := T.na_Mark_text
    kxt_pos
    kopn_word
    exact kk _ (by kt_ors)
theorem ok_Mark_number (T : Txt K mg Z) : FnOk P w K mg base CX0 1 Z.a_Mark_number Z.d_Mark_number ["self"] (spGet K Z.C_Mark (fun m => .int m.num)) := by
  refine T.F_Mark_number.ok sc_Mark_number (fun vs H Q E h => ?_) (fun cdv A outer s H vs Q E hr h => ?_)
  · obtain ⟨_, _, _, _, rfl, _⟩ := h; rfl
  · obtain ⟨x, m, Φ, mt, rfl, hx, s, kk⟩ := h
    refine ⟨_, (pss_one (ps_ret (pe_ix (ixT K) (fldK K (pv 0) rfl) pe_int (fun _ _ => rfl)))), ?_⟩
    have hc := T.cl_Mark
    have hn1 := T.na_Mark_parts
    have hn2 := T.na_Mark_text
    kxt_pos
    kopn_word
    exact kk _ (by kt_ors)
theorem ok_Mark_points (T : Txt K mg Z) : FnOk P w K mg base CX0 1 Z.a_Mark_points Z.d_Mark_points ["self"] (spGet K Z.C_Mark (fun m => .str m.pts)) := by
  refine T.F_Mark_points.ok sc_Mark_points (fun vs H Q E h => ?_) (fun cdv A outer s H vs Q E hr h => ?_)
  · obtain ⟨_, _, _, _, rfl, _⟩ := h; rfl
  · obtain ⟨x, m, Φ, mt, rfl, hx, s, kk⟩ := h
    refine ⟨_, (pss_one (ps_ret (pe_ix (ixT K) (fldK K (pv 0) rfl) pe_int (fun _ _ => rfl)))), ?_⟩
    have hc := T.cl_Mark
    have hn1 := T.na_Mark_parts
    have hn2 := T.na_Mark_text
    kxt_pos
    kopn_word
    exact kk _ (by kt_ors)
theorem ok_Mark_makers (T : Txt K mg Z) : FnOk P w K mg base CX0 1 Z.a_Mark_makers Z.d_Mark_makers ["self"] (spGetT K Z.C_Mark (fun m => m.mks.map W.s)) := by
  refine T.F_Mark_makers.ok sc_Mark_makers (fun vs H Q E h => ?_) (fun cdv A outer s H vs Q E hr h => ?_)
  · obtain ⟨_, _, _, _, rfl, _⟩ := h; rfl
  · obtain ⟨x, m, Φ, mt, rfl, hx, s, kk⟩ := h
    refine ⟨_, (pss_one (ps_ret (pe_ix (ixT K) (fldK K (pv 0) rfl) pe_int (fun _ _ => rfl)))), ?_⟩
    have hc := T.cl_Mark
    have hn1 := T.na_Mark_parts
    have hn2 := T.na_Mark_text
    kxt_pos
    kopn_word
    exact kk _ _ (by kt_ors)
theorem ok_Mark_year (T : Txt K mg Z) : FnOk P w K mg base CX0 1 Z.a_Mark_year Z.d_Mark_year ["self"] (spGet K Z.C_Mark (fun m => oi m.yr)) := by
  refine T.F_Mark_year.ok sc_Mark_year (fun vs H Q E h => ?_) (fun cdv A outer s H vs Q E hr h => ?_)
  · obtain ⟨_, _, _, _, rfl, _⟩ := h; rfl
  · obtain ⟨x, m, Φ, mt, rfl, hx, s, kk⟩ := h
    refine ⟨_, (pss_one (ps_ret (pe_ix (ixT K) (fldK K (pv 0) rfl) pe_int (fun _ _ => rfl)))), ?_⟩
    have hc := T.cl_Mark
    have hn1 := T.na_Mark_parts
    have hn2 := T.na_Mark_text
    kxt_pos
    kopn_word
    exact kk _ (by kt_ors)
theorem ok_Mark_parts (T : Txt K mg Z) : FnOk P w K mg base CX0 1 Z.a_Mark_parts Z.d_Mark_parts ["self"] (spGetT K Z.C_Mark (fun m => [.s m.lt, .i m.num, .s m.pts, .t (m.mks.map W.s), W.o m.yr, W.o m.cp])) := by
  refine T.F_Mark_parts.ok sc_Mark_parts (fun vs H Q E h => ?_) (fun cdv A outer s H vs Q E hr h => ?_)
  · obtain ⟨_, _, _, _, rfl, _⟩ := h; rfl
  · obtain ⟨x, m, Φ, mt, rfl, hx, s, kk⟩ := h
    refine ⟨_, (pss_one (ps_ret (fldK K (pv 0) rfl))), ?_⟩
    have hc := T.cl_Mark
    have hn1 := T.na_Mark_parts
    have hn2 := T.na_Mark_text
    kxt_pos
    kopn_word
    exact kk _ _ (by kt_ors)
theorem ok_Mark_str (T : Txt K mg Z) : FnOk P w K mg base CX0 1 Z.a_Mark_str Z.d_Mark_str ["self"] (spGet K Z.C_Mark (fun m => .str m.text)) := by
  refine T.F_Mark_str.ok sc_Mark_str (fun vs H Q E h => ?_) (fun cdv A outer s H vs Q E hr h => ?_)
  · obtain ⟨_, _, _, _, rfl, _⟩ := h; rfl
  · obtain ⟨x, m, Φ, mt, rfl, hx, s, kk⟩ := h
    refine ⟨_, (pss_one (ps_ret (pe_callTy (call_strS) (by rfl) T.n_str (by decide +kernel) (pa_cons (fldK K (pv 0) rfl) pa_nil)))), ?_⟩
    have hc := T.cl_Mark
    have hn1 := T.na_Mark_parts
    have hn2 := T.na_Mark_text
    have hz : m.text.length ≤ 50000 := text_len (s.mark hx).2
    kxt_pos
    kopn_word
    exact kk _ (by kt_ors)
theorem ok_Mark_repr (T : Txt K mg Z) : FnOk P w K mg base CX0 1 Z.a_Mark_repr Z.d_Mark_repr ["self"] (spGet K Z.C_Mark (fun m => .str (("<" : Str) ++ m.text ++ (">" : Str)))) := by
  refine T.F_Mark_repr.ok sc_Mark_repr (fun vs H Q E h => ?_) (fun cdv A outer s H vs Q E hr h => ?_)
  · obtain ⟨_, _, _, _, rfl, _⟩ := h; rfl
  · obtain ⟨x, m, Φ, mt, rfl, hx, s, kk⟩ := h
    refine ⟨_, (pss_one (ps_ret (pe_joinedq (.cons pe_str (.cons (pe_fmt (fldK K (pv 0) rfl)) (.cons pe_str .nil)))))), ?_⟩
    have hc := T.cl_Mark
    have hn1 := T.na_Mark_parts
    have hn2 := T.na_Mark_text
    have hz : m.text.length ≤ 50000 := text_len (s.mark hx).2
    kxt_pos
    kopn_word
    exact kk _ (by kt_ors)
theorem ok_Mark_len (T : Txt K mg Z) : FnOk P w K mg base CX0 1 Z.a_Mark_len Z.d_Mark_len ["self"] (spGet K Z.C_Mark (fun m => .int (m.text.length : Int))) := by
  refine T.F_Mark_len.ok sc_Mark_len (fun vs H Q E h => ?_) (fun cdv A outer s H vs Q E hr h => ?_)
  · obtain ⟨_, _, _, _, rfl, _⟩ := h; rfl
  · obtain ⟨x, m, Φ, mt, rfl, hx, s, kk⟩ := h
    refine ⟨_, (pss_one (ps_ret (pe_callB (call_lenS) (by rfl) T.n_len (by decide +kernel) (pa_cons (fldK K (pv 0) rfl) pa_nil)))), ?_⟩
    have hc := T.cl_Mark
    have hn1 := T.na_Mark_parts
    have hn2 := T.na_Mark_text
    have hz : m.text.length ≤ 50000 := text_len (s.mark hx).2
    kxt_pos
    kopn_word
    exact kk _ (by kt_ors)
end

def MK.Small (m : MK) : Prop := m.pts.length ≤ 50 ∧ ∀ s ∈ m.mks, s.length ≤ 50
theorem sg_e : sg ("" : Str) = [] := by decide +kernel
theorem sg_e2 : sg Str.empty = [] := rfl
/-! ### rules: dicts of the top, cuts of texts, a star among targets, a def that stands in a slot -/
section
variable (K : PySem.W.Frag) {X : Cx}
theorem ixKD (w : World) (hK : X.K = K := by rfl) (hw : X.w = w := by rfl) : IxR X (rIxD K w) := by subst hK; subst hw; exact ix_kdict
def rInKD (K : PySem.W.Frag) (w : World) : R2 := fun x y H Q => ∃ (z : Str) (d : Addr) (r : Option Value), x = .str z ∧ y = .ref d ∧ (∃ es n, KDict K w d es n) ∧ PySem.W.nsIn K d z = some r ∧ Q (.bl r.isSome) H
theorem inKD (w : World) (hK : X.K = K := by rfl) (hw : X.w = w := by rfl) : OpR X (compareOp .In) (rInKD K w) := by
  subst hK; subst hw
  intro pins s σ H x y v u Q I rx ry h
  obtain ⟨z, d, r, rfl, rfl, ⟨es, n, D⟩, e, q⟩ := h
  exact op_in_kd D pins s σ H _ _ v u Q I rx ry ⟨z, r, rfl, rfl, e, q⟩
theorem bm0K {o : Expr} {to : TE} {name : Str} {apos cpos : Pos} {T id : String} {r : V → List V → Hp → VK → Prop} (pa : PlainAttrs T) (slot : Slot T name id) (hty : typeOf (.builtin id) = pure (.type "method_descriptor")) (hm : MtR X id r) (ho : PE X o to)
    (hK : X.K = K := by rfl) (hbase : attributeBase o name X.env (eval o X.env) = eval o X.env := by rfl) (hline : (apos.endLine == cpos.line) = true := by rfl) : PE X (.Call (.Attribute o name apos) [] [] cpos) (tBM0 K T r to) := by subst hK; exact pe_bm0 pa slot hty hm ho hbase hline
def qSplit : V → List V → Hp → VK → Prop := fun x xs H Q => ∃ a b, x = .str a ∧ xs = [.str b] ∧ (b.length == 0) = false ∧ a.length + 2 ≤ sizeLine ∧ rNewStrs (Txt.split a b) H Q
theorem mt_splitQ : MtR X "str.split" qSplit := mt_split
def qLstripC : V → List V → Hp → VK → Prop := fun x xs H Q => ∃ a b, x = .str a ∧ xs = [.str b] ∧ a.length ≤ sizeLine ∧ Q (.str (Txt.lstripChars a b)) H
theorem mt_lstripQ : MtR X "str.lstrip" qLstripC := mt_lstripChars
def qPart : V → List V → Hp → VK → Prop := fun x xs H Q => ∃ a b, x = .str a ∧ xs = [.str b] ∧ (b.length == 0) = false ∧ a.length ≤ sizeLine ∧
  ∀ p, H p = none → Q (.ref p) (upd H p (.tup [.str (Txt.partition a b).1, .str (Txt.partition a b).2.1, .str (Txt.partition a b).2.2]))
theorem partK {o e : Expr} {to te : TE} {apos pos : Pos} (ho : PE X o to) (he : PE X e te) (hs : starEach [e] X.env = [(false, eval e X.env)] := by rfl) (hbase : attributeBase o "partition" X.env (eval o X.env) = eval o X.env := by rfl) (hline : (apos.endLine == pos.line) = true := by rfl) :
    PE X (.Call (.Attribute o "partition" apos) [e] [] pos) (tM1 qPart to te) := pe_partition ho he hs hbase hline
def qRepS : R2 := fun x y H Q => ∃ (t : Str) (n : Int), x = .str t ∧ y = .int n ∧ PySem.MulOk t n ∧ Q (.str (PySem.Txt.mul t n)) H
theorem op_repS : OpR X (binaryOp .Mult) qRepS := by
  intro pins s σ H x y v u Q I rx ry h
  obtain ⟨t, n, rfl, rfl, h1, q⟩ := h
  obtain ⟨tk, rfl⟩ := rx
  obtain ⟨tk2, rfl⟩ := ry
  exact PySem.SB.mul h1 fun t' k => ⟨.str (PySem.Txt.mul t n), H, I.tok _, ⟨_, rfl⟩, q⟩
end
section
variable {X : Cx} {pos p : Pos}
theorem pgs_star {e : Expr} {es : List Expr} {t : TG} {u : TGs} (h1 : PG X e t) (h2 : PGs X es u)
    (hs : (assignEach (.Starred e p :: es) X.env).map (·.2) = assign e X.env :: (assignEach es X.env).map (·.2) := by rfl) : PGs X (.Starred e p :: es) (gCons t u) := by
  refine ⟨fun pins s σ H vs us Q I r h => ?_⟩
  obtain ⟨v, vr, e1, h⟩ := h
  subst e1
  cases r with
  | cons r rr =>
    rw [hs]
    refine assignInOrder_cons (thn (h1.run pins s σ H _ _ _ I r h) fun _ s1 ⟨σ1, H1, I1, q1⟩ => ?_)
    exact h2.run pins s1 σ1 H1 _ _ Q I1 rr q1
/-- (a, .., *b) = a list -/
def gTupStar (K : PySem.W.Frag) (n : Nat) (t : TGs) : TG := fun v σ H Q => ∃ a xs, v = .ref a ∧ SqL K H a xs ∧ n ≤ xs.length + 1 ∧ xs.length ≤ 16000 ∧ 0 < n ∧ ∀ d, H d = none → t (xs.take (n - 1) ++ [.ref d]) σ (upd H d (.lst (xs.drop (n - 1)))) Q
theorem vals_take {vs : List V} {us : List Value} (r : Vals vs us) : ∀ n, Vals (vs.take n) (us.take n) := by
  induction r with
  | nil => intro n; rw [List.take_nil, List.take_nil]; exact .nil
  | cons h r ih =>
    intro n
    cases n with
    | zero => exact .nil
    | succ n => exact .cons h (ih n)
theorem vals_drop {vs : List V} {us : List Value} (r : Vals vs us) : ∀ n, Vals (vs.drop n) (us.drop n) := by
  induction r with
  | nil => intro n; rw [List.drop_nil, List.drop_nil]; exact .nil
  | cons h r ih =>
    intro n
    cases n with
    | zero => exact .cons h r
    | succ n => exact ih n
theorem pg_tupStar {es : List Expr} {k n : Nat} {t : TGs} (hc : X.calm = true) (h : PGs X es t)
    (hn : (assignEach es X.env).length = n := by rfl) (hst : (assignEach es X.env).findIdx? (·.1) = some (n - 1) := by rfl) : PG X (.Tuple es k pos) (gTupStar X.K n t) := by
  refine ⟨fun pins s σ H v u Q I r hw => ?_⟩
  obtain ⟨a, xs, rfl, hq, hl, hz, h0, hw⟩ := hw
  cases r
  obtain ⟨its, rv, hl', hsz⟩ := I.list hq
  have hlen : its.length = xs.length := rv.length.symm
  have hh := I.ok.hd hc
  obtain ⟨o9, n9, ho9, hc9, _, hd9⟩ := hl'
  have hlt : a ≠ s.heap.objs.size := Nat.ne_of_lt (Heap.lt_size ho9)
  rw [assign_Tuple]
  refine wpAny_bind (wpAny_standAt ?_)
  unfold unpack
  rw [hn, hst]
  refine wpAny_bind (wpAny_holding ?_)
  unfold unpackItems
  refine wpAny_bind ?_
  unfold notIterableAtAll
  have hl2 : s.heap.IsList a its.toArray := ⟨o9, ho9, hc9, n9, hd9⟩
  refine wpAny_bind (wpAny_specialOf hl2.typeIs PySem.F.slot_list_iter.lookup ?_)
  refine wpAny_pure ?_
  simp only [Bool.false_eq_true, if_false]
  refine wpAny_bind (wpAny_holding (wpAny_pyIter_list hl2 ?_))
  refine wpAny_bind (wpAny_holding (PySem.W.kun_draw hlt (n - 1) 0 _ _ ⟨_, Heap.get?_push_size _ rfl, rfl, rfl⟩ (hl2.push _) (by simp; omega) fun h₁ hit₁ hs₁ => ?_))
  have hl₁ : h₁.IsList a its.toArray := (hl2.push _).extBut hs₁.extBut hlt
  rw [Nat.zero_add] at hit₁
  have hit₁' := hit₁
  obtain ⟨oi, hoi, _⟩ := hit₁'
  have hl₁' := hl₁
  obtain ⟨ol, hol, _⟩ := hl₁'
  rw [List.drop_zero]
  have hfl : (its.toArray.toList.take (n - 1)).length = n - 1 := by rw [List.length_take]; simp; omega
  rw [if_neg (show ¬ ((its.toArray.toList.take (n - 1)).length < n - 1) by rw [hfl]; omega)]
  refine wpAny_bind (wpAny_holding (PySem.W.kun_collect (s := { s with heap := h₁ }) (T := "list_iterator") (.inr (.inr (.inl rfl))) (Walks.list (A := X.A.in1) hh s.heap.objs.size a hlt its.toArray) (fun j u st => st.1.typeIs) (k := n - 1) (by simp; omega) ⟨hit₁, hl₁⟩ (Heap.lt_size hoi) (Heap.lt_size hol) (fun h₂ tk hk => ?_) (by rw [sizeLine_eq]; simp; omega)))
  show wpAny _ _ (if (its.toArray.toList.drop (n - 1)).length < n - 1 - (n - 1) then _ else _) _ _ _
  rw [if_neg (by omega)]
  show wpAny _ _ (newList ((its.toArray.toList.drop (n - 1)).take ((its.toArray.toList.drop (n - 1)).length - (n - 1 - (n - 1)))) >>= fun d => pure (its.toArray.toList.take (n - 1) ++ [d] ++ (its.toArray.toList.drop (n - 1)).drop ((its.toArray.toList.drop (n - 1)).length - (n - 1 - (n - 1))))) _ _ _
  have e1 : (its.toArray.toList.drop (n - 1)).take ((its.toArray.toList.drop (n - 1)).length - (n - 1 - (n - 1))) = its.drop (n - 1) := by
    rw [show its.toArray.toList = its by simp, Nat.sub_self, Nat.sub_zero, List.take_length]
  have e2 : (its.toArray.toList.drop (n - 1)).drop ((its.toArray.toList.drop (n - 1)).length - (n - 1 - (n - 1))) = [] := by
    rw [show its.toArray.toList = its by simp, Nat.sub_self, Nat.sub_zero, List.drop_length]
  rw [e1, e2]
  have I1 : Inv X pins σ H { s with heap := h₂, toks := tk } := I.kept (t' := tk) fun b o e => hk b o (Nat.ne_of_lt (Heap.lt_size e)) (hs₁.extBut b o (Nat.ne_of_lt (Heap.lt_size e)) (Heap.get?_push_of_some _ e))
  refine wpAny_bind (wpAny_newList ?_ )
  refine wpAny_pure ?_
  have hf : H h₂.objs.size = none := I1.hok.fresh (Nat.le_refl _)
  have I2 : Inv X pins σ (upd H h₂.objs.size (.lst (xs.drop (n - 1)))) { s with heap := h₂.push { cls := .type "list", data := .seq (its.drop (n - 1)).toArray }, toks := tk } :=
    I1.laid (t' := tk) (fun b u e => Heap.get?_push_of_some _ e) (Nat.le_refl _) ⟨by rw [List.length_drop, sizeLine_eq]; omega, its.drop (n - 1), 0, vals_drop rv _, Heap.get?_push_size _ rfl⟩
  exact h.run pins _ σ _ _ _ Q I2 (by simpa using ((vals_take rv (n - 1)).append (Paired.cons (show RelV (.ref h₂.objs.size) (.ref h₂.objs.size) from rfl) .nil))) (hw _ hf)
/-- f(e, ..), f a local name that holds one of some defs -/
def tCallVd (R : Addr → Sp → Prop) (i : Nat) (E : XK) (t : TA) : TE := fun σ H Q => ∃ f sp, R f sp ∧ σ[i]? = some (some (.ref f)) ∧ t σ H fun vs H1 => sp vs H1 Q E
structure DynF (P : Program) (w : World) (K : PySem.W.Frag) (mg : Str → Option Value) (base : Heap) (CX : CXT) (k : Nat) (R : Addr → Sp → Prop) : Prop where
  to : ∀ f sp, R f sp → FnR P w K mg base CX k f sp ∧ PySem.W.keepIn K (.ref f) = true
theorem pe_callVd {CX : CXT} {R : Addr → Sp → Prop} {k i : Nat} {E : XK} {x : Str} {e : Expr} {es : List Expr} {t : TA} (F : DynF X.prog X.w X.K X.mg X.base CX k R) (hr : Room k X.A) (hx : Passes CX X E) (hN : X.N[i]? = some x) (hv : Vis X.env.scope x) (ha : PA X (e :: es) t)
    (hd : (x == ("__debug__" : Str)) = false := by decide) (hcd : (x == ("__classdict__" : Str)) = false := by decide)
    (he : starEach (e :: es) X.env = (false, eval e X.env) :: starEach es X.env := by rfl) (hpl : (backTo pos (starEach es X.env)).any (·.1) = false := by rfl) : PE X (.Call (.Name x p) (e :: es) [] pos) (tCallVd R i E t) := by
  refine ⟨fun pins s σ H Q I h => ?_⟩
  obtain ⟨f, sp, hR, hs, h⟩ := h
  obtain ⟨F1, hk⟩ := F.to f sp hR
  exact (ItX.pe_callV F1 hr hk hx hN hv ha hd hcd he hpl).run pins s σ H Q I ⟨hs, h⟩
end

/-! ### the states of a text that is read, and their steps -/
inductive Plc where
  | letters | number | point | points | blank | c | letter | maker | year | copy | copied
deriving DecidableEq
def Plc.str : Plc → Str
  | .letters => "letters"
  | .number => "number"
  | .point => "point"
  | .points => "points"
  | .blank => "blank"
  | .c => "c"
  | .letter => "letter"
  | .maker => "maker"
  | .year => "year"
  | .copy => "copy"
  | .copied => "copied"
def fst (c : Nat) : Bool := decide (c ∈ sg sFIG) && !decide (c = 48)
def stepPoint (c : Nat) : Option (Plc × Int) := if c = 48 then some (.point, 0) else if fst c = true then some (.points, 0) else none
def stepLetter (m : Int) (c : Nat) : Option (Plc × Int) := if c = 48 then some (.letter, m) else if fst c = true then some (.maker, m + 1) else none
def stepCopied (c : Nat) : Option (Plc × Int) := if c ∈ sg sFIG then some (.copied, 0) else none
def step : Plc → Int → Nat → Option (Plc × Int)
  | .letters, m, c => if c ∈ sg sABC ∧ m < 3 then some (.letters, m + 1) else if fst c = true ∧ 0 < m then some (.number, 1) else none
  | .number, m, c => if c ∈ sg sFIG ∧ m < 4 then some (.number, m + 1) else if c = 46 then some (.point, 0) else if c = 32 then some (.blank, 0) else none
  | .point, _, c => stepPoint c
  | .points, _, c => if c = 32 then some (.blank, 0) else stepPoint c
  | .blank, m, c => if c = 99 then some (.c, m) else if c ∈ sg sABC ∧ m < 3 then some (.letter, m) else if c ∈ sg "12" ∧ m < 4 then some (.year, 1) else none
  | .c, m, c => if c = 46 then some (.copy, 0) else if m < 3 then stepLetter m c else none
  | .letter, m, c => stepLetter m c
  | .maker, m, c => if c = 32 then some (.blank, m) else stepLetter (m - 1) c
  | .year, m, c => if m < 4 then (if c ∈ sg sFIG then some (.year, m + 1) else none) else if c = 32 then some (.blank, 4) else none
  | .copy, m, c => if m = 0 ∧ c = 49 then some (.copy, 1) else if m = 0 then (if fst c = true then some (.copied, 0) else none) else stepCopied c
  | .copied, _, c => stepCopied c
theorem n46 : ¬ (46 ∈ sFIG.cps) := by decide +kernel
theorem n32 : ¬ (32 ∈ sFIG.cps) := by decide +kernel
theorem n48 : 48 ∈ sFIG.cps := by decide +kernel
theorem n49 : 49 ∈ sFIG.cps := by decide +kernel
theorem one_iff {c d : Nat} {t : Str} (h : sg t = [d]) : (one c = t) ↔ c = d := by
  constructor
  · intro e
    have := congrArg sg e
    rw [h] at this
    exact (List.cons.inj this).1
  · intro e
    subst e
    exact str_ext h.symm
theorem one0 {c : Nat} : (one c = Str.ofString "0") ↔ c = 48 := one_iff (by decide +kernel)
theorem one1 {c : Nat} : (one c = Str.ofString "1") ↔ c = 49 := one_iff (by decide +kernel)
theorem oned {c : Nat} : (one c = Str.ofString ".") ↔ c = 46 := one_iff (by decide +kernel)
theorem oneb {c : Nat} : (one c = Str.ofString " ") ↔ c = 32 := one_iff (by decide +kernel)
theorem onec {c : Nat} : (one c = Str.ofString "c") ↔ c = 99 := one_iff (by decide +kernel)
section
variable {K : PySem.W.Frag} {C : Addr} {σ : L2.St} {H : Hp} {Φ : List (V × W)} {mt : List (Addr × (HO → Prop))} {Q : VK} {E : XK} {p : Plc} {m : Int} {c : Nat}
def StepQ (K : PySem.W.Frag) (C : Addr) (Φ : List (V × W)) (mt : List (Addr × (HO → Prop))) (o : Option (Plc × Int)) (Q : VK) : Prop := match o with
  | none => ∀ H', S K C H' Φ mt → Q .non H'
  | some (q, k) => ∀ r H', S K C H' ((.ref r, .t [.s q.str, .i k]) :: Φ) mt → Q (.ref r) H'
def spStep (K : PySem.W.Frag) (C : Addr) (p : Plc) : Sp := fun vs H Q _ => ∃ (m : Int) (c : Nat) (Φ : List (V × W)) (mt : List (Addr × (HO → Prop))), vs = [.int m, .str (one c)] ∧ S K C H Φ mt ∧ StepQ K C Φ mt (step p m c) Q
theorem use_step (s : S K C H Φ mt) (h : StepQ K C Φ mt (step p m c) Q) : spStep K C p [.int m, .str (one c)] H Q E := ⟨m, c, Φ, mt, rfl, s, h⟩
def spFst (K : PySem.W.Frag) (C : Addr) : Sp := fun vs H Q _ => ∃ (c : Nat) (Φ : List (V × W)) (mt : List (Addr × (HO → Prop))), vs = [.str (one c)] ∧ S K C H Φ mt ∧ ∀ H', S K C H' Φ mt → Q (.bl (fst c)) H'
theorem use_fst (s : S K C H Φ mt) (h : ∀ H', S K C H' Φ mt → Q (.bl (fst c)) H') : spFst K C [.str (one c)] H Q E := ⟨c, Φ, mt, rfl, s, h⟩
end
local macro_rules | `(tactic| kt_len) => `(tactic| with_reducible first
  | (apply use_fst; (focus (assumption)); intro _ _)
  | (apply use_step; (focus (assumption))))
section
variable {P : Program} {w : World} {K : PySem.W.Frag} {mg : Str → Option Value} {base : Heap} {Z : Adr} {C : Addr}
theorem ok_is_first (T : Txt K mg Z) : FnOk P w K mg base CX0 1 Z.a_is_first Z.d_is_first ["sign"] (spFst K Z.C_Mark) := by
  refine T.F_is_first.ok sc_is_first (fun vs H Q E h => ?_) (fun cdv A outer s H vs Q E hr h => ?_)
  · obtain ⟨_, _, _, rfl, _⟩ := h; rfl
  · obtain ⟨c, Φ, mt, rfl, s, kk⟩ := h
    refine ⟨_, (pss_one (ps_ret (pe_and (pe_cmpR op_inq (pv 0) (pe_gs rfl T.c_FIGURES) (by rfl)) (pe_one (pe_cmpR op_ne (pv 0) pe_str (nomark _)))))), ?_⟩
    kxt_pos
    kopn_word
    · rename_i h1
      have e : (!decide (V.str (one c) = V.str (Str.ofString "0"))) = fst c := by
        have e2 : decide (V.str (one c) = V.str (Str.ofString "0")) = decide (c = 48) := decide_eq_decide.mpr ⟨fun h => one0.mp (V.str.inj h), fun h => congrArg V.str (one0.mpr h)⟩
        have h1' : c ∈ sg sFIG := h1
        rw [e2]
        unfold fst
        rw [decide_eq_true h1', Bool.true_and]
      show Q (V.bl (!decide (V.str (one c) = V.str (Str.ofString "0")))) _
      rw [e]
      exact kk _ (by assumption)
    · rename_i h1
      have e : fst c = false := by
        have h1' : ¬ c ∈ sg sFIG := h1
        unfold fst
        rw [decide_eq_false h1', Bool.false_and]
      rw [e] at kk
      exact kk _ (by assumption)
theorem ok_behind_point (T : Txt K mg Z) : FnOk P w K mg base CX0 3 Z.a_behind_point Z.d_behind_point ["_", "sign"] (spStep K Z.C_Mark .point) := by
  refine T.F_behind_point.ok sc_behind_point (fun vs H Q E h => ?_) (fun cdv A outer s H vs Q E hr h => ?_)
  · obtain ⟨_, _, _, _, rfl, _⟩ := h; rfl
  · obtain ⟨m, c, Φ, mt, rfl, s, kk⟩ := h
    refine ⟨_, (pss_cons (ps_if (pt_cmpR op_eq (pv 1) pe_str (nomark _)) (pss_one (ps_ret (pe_tup (pa_cons pe_str (pa_cons pe_int pa_nil))))) pss_nil)
      (pss_one (ps_ret (pe_ifExp (pt_val (pe_call (ok_is_first T) (hr.mono (by decide)) rfl T.g_is_first T.F_is_first.kp T.b_is_first .nil pass0 (pa_cons (pv 1) pa_nil))) (pe_tup (pa_cons pe_str (pa_cons pe_int pa_nil))) pe_non)))), ?_⟩
    kxt_pos
    kopn_word
    all_goals
      (try simp only [one0, one1, oned, oneb, onec] at *)
      (try simp [step, *] at kk)
      first
        | exact kk _ _ (by assumption)
        | exact kk _ (by assumption)
        | exact kk
        | (exfalso; omega)
        | (simp [stepPoint, stepLetter, stepCopied, n46, n32, n48, n49, *] at kk; first | exact kk _ _ (by assumption) | exact kk _ (by assumption))
theorem ok_behind_letter (T : Txt K mg Z) : FnOk P w K mg base CX0 3 Z.a_behind_letter Z.d_behind_letter ["many", "sign"] (spStep K Z.C_Mark .letter) := by
  refine T.F_behind_letter.ok sc_behind_letter (fun vs H Q E h => ?_) (fun cdv A outer s H vs Q E hr h => ?_)
  · obtain ⟨_, _, _, _, rfl, _⟩ := h; rfl
  · obtain ⟨m, c, Φ, mt, rfl, s, kk⟩ := h
    refine ⟨_, (pss_cons (ps_if (pt_cmpR op_eq (pv 1) pe_str (nomark _)) (pss_one (ps_ret (pe_tup (pa_cons pe_str (pa_cons (pv 0) pa_nil))))) pss_nil)
      (pss_one (ps_ret (pe_ifExp (pt_val (pe_call (ok_is_first T) (hr.mono (by decide)) rfl T.g_is_first T.F_is_first.kp T.b_is_first .nil pass0 (pa_cons (pv 1) pa_nil))) (pe_tup (pa_cons pe_str (pa_cons (pe_op op_add (pv 0) pe_int) pa_nil))) pe_non)))), ?_⟩
    kxt_pos
    kopn_word
    all_goals
      (try simp only [one0, one1, oned, oneb, onec] at *)
      (try simp [step, *] at kk)
      first
        | exact kk _ _ (by assumption)
        | exact kk _ (by assumption)
        | exact kk
        | (exfalso; omega)
        | (simp [stepPoint, stepLetter, stepCopied, n46, n32, n48, n49, *] at kk; first | exact kk _ _ (by assumption) | exact kk _ (by assumption))
theorem ok_behind_copied (T : Txt K mg Z) : FnOk P w K mg base CX0 3 Z.a_behind_copied Z.d_behind_copied ["_", "sign"] (spStep K Z.C_Mark .copied) := by
  refine T.F_behind_copied.ok sc_behind_copied (fun vs H Q E h => ?_) (fun cdv A outer s H vs Q E hr h => ?_)
  · obtain ⟨_, _, _, _, rfl, _⟩ := h; rfl
  · obtain ⟨m, c, Φ, mt, rfl, s, kk⟩ := h
    refine ⟨_, (pss_one (ps_ret (pe_ifExp (pt_cmpR op_inq (pv 1) (pe_gs rfl T.c_FIGURES) (by rfl)) (pe_tup (pa_cons pe_str (pa_cons pe_int pa_nil))) pe_non))), ?_⟩
    kxt_pos
    kopn_word
    all_goals
      (try simp only [one0, one1, oned, oneb, onec] at *)
      (try simp [step, *] at kk)
      first
        | exact kk _ _ (by assumption)
        | exact kk _ (by assumption)
        | exact kk
        | (exfalso; omega)
        | (simp [stepPoint, stepLetter, stepCopied, n46, n32, n48, n49, *] at kk; first | exact kk _ _ (by assumption) | exact kk _ (by assumption))
theorem ok_behind_letters (T : Txt K mg Z) : FnOk P w K mg base CX0 3 Z.a_behind_letters Z.d_behind_letters ["many", "sign"] (spStep K Z.C_Mark .letters) := by
  refine T.F_behind_letters.ok sc_behind_letters (fun vs H Q E h => ?_) (fun cdv A outer s H vs Q E hr h => ?_)
  · obtain ⟨_, _, _, _, rfl, _⟩ := h; rfl
  · obtain ⟨m, c, Φ, mt, rfl, s, kk⟩ := h
    refine ⟨_, (pss_cons (ps_if (PW.pt (pw_and (pt_cmpR op_inq (pv 1) (pe_gs rfl T.c_SMALL) (by rfl)) (pw_and1 (pt_cmpR op_lt (pv 0) (pe_gi rfl T.c_MOST_LETTERS) (nomark _))))) (pss_one (ps_ret (pe_tup (pa_cons pe_str (pa_cons (pe_op op_add (pv 0) pe_int) pa_nil))))) pss_nil)
      (pss_one (ps_ret (pe_ifExp (PW.pt (pw_and (pt_val (pe_call (ok_is_first T) (hr.mono (by decide)) rfl T.g_is_first T.F_is_first.kp T.b_is_first .nil pass0 (pa_cons (pv 1) pa_nil))) (pw_and1 (pt_cmpR op_gt (pv 0) pe_int (nomark _))))) (pe_tup (pa_cons pe_str (pa_cons pe_int pa_nil))) pe_non)))), ?_⟩
    kxt_pos
    kopn_word
    all_goals
      (try simp only [one0, one1, oned, oneb, onec] at *)
      (try simp [step, *] at kk)
      first
        | exact kk _ _ (by assumption)
        | exact kk _ (by assumption)
        | exact kk
        | (exfalso; omega)
        | (simp [stepPoint, stepLetter, stepCopied, n46, n32, n48, n49, *] at kk; first | exact kk _ _ (by assumption) | exact kk _ (by assumption))
theorem ok_behind_number (T : Txt K mg Z) : FnOk P w K mg base CX0 3 Z.a_behind_number Z.d_behind_number ["many", "sign"] (spStep K Z.C_Mark .number) := by
  refine T.F_behind_number.ok sc_behind_number (fun vs H Q E h => ?_) (fun cdv A outer s H vs Q E hr h => ?_)
  · obtain ⟨_, _, _, _, rfl, _⟩ := h; rfl
  · obtain ⟨m, c, Φ, mt, rfl, s, kk⟩ := h
    refine ⟨_, (pss_cons (ps_if (PW.pt (pw_and (pt_cmpR op_inq (pv 1) (pe_gs rfl T.c_FIGURES) (by rfl)) (pw_and1 (pt_cmpR op_lt (pv 0) pe_int (nomark _))))) (pss_one (ps_ret (pe_tup (pa_cons pe_str (pa_cons (pe_op op_add (pv 0) pe_int) pa_nil))))) pss_nil)
      (pss_cons (ps_if (pt_cmpR op_eq (pv 1) pe_str (nomark _)) (pss_one (ps_ret (pe_tup (pa_cons pe_str (pa_cons pe_int pa_nil))))) pss_nil)
      (pss_one (ps_ret (pe_ifExp (pt_cmpR op_eq (pv 1) pe_str (nomark _)) (pe_tup (pa_cons pe_str (pa_cons pe_int pa_nil))) pe_non))))), ?_⟩
    kxt_pos
    kopn_word
    all_goals
      (try simp only [one0, one1, oned, oneb, onec] at *)
      (try simp [step, *] at kk)
      first
        | exact kk _ _ (by assumption)
        | exact kk _ (by assumption)
        | exact kk
        | (exfalso; omega)
        | (simp [stepPoint, stepLetter, stepCopied, n46, n32, n48, n49, *] at kk; first | exact kk _ _ (by assumption) | exact kk _ (by assumption))
theorem ok_behind_points (T : Txt K mg Z) : FnOk P w K mg base CX0 4 Z.a_behind_points Z.d_behind_points ["many", "sign"] (spStep K Z.C_Mark .points) := by
  refine T.F_behind_points.ok sc_behind_points (fun vs H Q E h => ?_) (fun cdv A outer s H vs Q E hr h => ?_)
  · obtain ⟨_, _, _, _, rfl, _⟩ := h; rfl
  · obtain ⟨m, c, Φ, mt, rfl, s, kk⟩ := h
    refine ⟨_, (pss_one (ps_ret (pe_ifExp (pt_cmpR op_eq (pv 1) pe_str (nomark _)) (pe_tup (pa_cons pe_str (pa_cons pe_int pa_nil))) (pe_call (ok_behind_point T) (hr.mono (by decide)) rfl T.g_behind_point T.F_behind_point.kp T.b_behind_point .nil pass0 (pa_cons (pv 0) (pa_cons (pv 1) pa_nil)))))), ?_⟩
    kxt_pos
    kopn_word
    all_goals
      (try simp only [one0, one1, oned, oneb, onec] at *)
      (try simp [step, *] at kk)
      first
        | exact kk _ _ (by assumption)
        | exact kk _ (by assumption)
        | exact kk
        | (exfalso; omega)
        | (simp [stepPoint, stepLetter, stepCopied, n46, n32, n48, n49, *] at kk; first | exact kk _ _ (by assumption) | exact kk _ (by assumption))
theorem ok_behind_blank (T : Txt K mg Z) : FnOk P w K mg base CX0 3 Z.a_behind_blank Z.d_behind_blank ["many", "sign"] (spStep K Z.C_Mark .blank) := by
  refine T.F_behind_blank.ok sc_behind_blank (fun vs H Q E h => ?_) (fun cdv A outer s H vs Q E hr h => ?_)
  · obtain ⟨_, _, _, _, rfl, _⟩ := h; rfl
  · obtain ⟨m, c, Φ, mt, rfl, s, kk⟩ := h
    refine ⟨_, (pss_cons (ps_if (pt_cmpR op_eq (pv 1) pe_str (nomark _)) (pss_one (ps_ret (pe_tup (pa_cons pe_str (pa_cons (pv 0) pa_nil))))) pss_nil)
      (pss_cons (ps_if (PW.pt (pw_and (pt_cmpR op_inq (pv 1) (pe_gs rfl T.c_SMALL) (by rfl)) (pw_and1 (pt_cmpR op_lt (pv 0) (pe_gi rfl T.c_MOST_MAKERS) (nomark _))))) (pss_one (ps_ret (pe_tup (pa_cons pe_str (pa_cons (pv 0) pa_nil))))) pss_nil)
      (pss_one (ps_ret (pe_ifExp (PW.pt (pw_and (pt_cmpR op_inq (pv 1) pe_str (by rfl)) (pw_and1 (pt_cmpR op_lt (pv 0) (pe_gi rfl T.c_BEHIND_YEAR) (nomark _))))) (pe_tup (pa_cons pe_str (pa_cons pe_int pa_nil))) pe_non))))), ?_⟩
    kxt_pos
    kopn_word
    all_goals
      (try simp only [one0, one1, oned, oneb, onec] at *)
      (try simp [step, *] at kk)
      first
        | exact kk _ _ (by assumption)
        | exact kk _ (by assumption)
        | exact kk
        | (exfalso; omega)
        | (simp [stepPoint, stepLetter, stepCopied, n46, n32, n48, n49, *] at kk; first | exact kk _ _ (by assumption) | exact kk _ (by assumption))
theorem ok_behind_c (T : Txt K mg Z) : FnOk P w K mg base CX0 4 Z.a_behind_c Z.d_behind_c ["many", "sign"] (spStep K Z.C_Mark .c) := by
  refine T.F_behind_c.ok sc_behind_c (fun vs H Q E h => ?_) (fun cdv A outer s H vs Q E hr h => ?_)
  · obtain ⟨_, _, _, _, rfl, _⟩ := h; rfl
  · obtain ⟨m, c, Φ, mt, rfl, s, kk⟩ := h
    refine ⟨_, (pss_cons (ps_if (pt_cmpR op_eq (pv 1) pe_str (nomark _)) (pss_one (ps_ret (pe_tup (pa_cons pe_str (pa_cons pe_int pa_nil))))) pss_nil)
      (pss_one (ps_ret (pe_ifExp (pt_cmpR op_lt (pv 0) (pe_gi rfl T.c_MOST_MAKERS) (nomark _)) (pe_call (ok_behind_letter T) (hr.mono (by decide)) rfl T.g_behind_letter T.F_behind_letter.kp T.b_behind_letter .nil pass0 (pa_cons (pv 0) (pa_cons (pv 1) pa_nil))) pe_non)))), ?_⟩
    kxt_pos
    kopn_word
    all_goals
      (try simp only [one0, one1, oned, oneb, onec] at *)
      (try simp [step, *] at kk)
      first
        | exact kk _ _ (by assumption)
        | exact kk _ (by assumption)
        | exact kk
        | (exfalso; omega)
        | (simp [stepPoint, stepLetter, stepCopied, n46, n32, n48, n49, *] at kk; first | exact kk _ _ (by assumption) | exact kk _ (by assumption))
theorem ok_behind_maker (T : Txt K mg Z) : FnOk P w K mg base CX0 4 Z.a_behind_maker Z.d_behind_maker ["many", "sign"] (spStep K Z.C_Mark .maker) := by
  refine T.F_behind_maker.ok sc_behind_maker (fun vs H Q E h => ?_) (fun cdv A outer s H vs Q E hr h => ?_)
  · obtain ⟨_, _, _, _, rfl, _⟩ := h; rfl
  · obtain ⟨m, c, Φ, mt, rfl, s, kk⟩ := h
    refine ⟨_, (pss_one (ps_ret (pe_ifExp (pt_cmpR op_eq (pv 1) pe_str (nomark _)) (pe_tup (pa_cons pe_str (pa_cons (pv 0) pa_nil))) (pe_call (ok_behind_letter T) (hr.mono (by decide)) rfl T.g_behind_letter T.F_behind_letter.kp T.b_behind_letter .nil pass0 (pa_cons (pe_op op_sub (pv 0) pe_int) (pa_cons (pv 1) pa_nil)))))), ?_⟩
    kxt_pos
    kopn_word
    all_goals
      (try simp only [one0, one1, oned, oneb, onec] at *)
      (try simp [step, *] at kk)
      first
        | exact kk _ _ (by assumption)
        | exact kk _ (by assumption)
        | exact kk
        | (exfalso; omega)
        | (simp [stepPoint, stepLetter, stepCopied, n46, n32, n48, n49, *] at kk; first | exact kk _ _ (by assumption) | exact kk _ (by assumption))
theorem ok_behind_year (T : Txt K mg Z) : FnOk P w K mg base CX0 3 Z.a_behind_year Z.d_behind_year ["many", "sign"] (spStep K Z.C_Mark .year) := by
  refine T.F_behind_year.ok sc_behind_year (fun vs H Q E h => ?_) (fun cdv A outer s H vs Q E hr h => ?_)
  · obtain ⟨_, _, _, _, rfl, _⟩ := h; rfl
  · obtain ⟨m, c, Φ, mt, rfl, s, kk⟩ := h
    refine ⟨_, (pss_cons (ps_if (pt_cmpR op_lt (pv 0) pe_int (nomark _)) (pss_one (ps_ret (pe_ifExp (pt_cmpR op_inq (pv 1) (pe_gs rfl T.c_FIGURES) (by rfl)) (pe_tup (pa_cons pe_str (pa_cons (pe_op op_add (pv 0) pe_int) pa_nil))) pe_non))) pss_nil)
      (pss_one (ps_ret (pe_ifExp (pt_cmpR op_eq (pv 1) pe_str (nomark _)) (pe_tup (pa_cons pe_str (pa_cons (pe_gi rfl T.c_BEHIND_YEAR) pa_nil))) pe_non)))), ?_⟩
    kxt_pos
    kopn_word
    all_goals
      (try simp only [one0, one1, oned, oneb, onec] at *)
      (try simp [step, *] at kk)
      first
        | exact kk _ _ (by assumption)
        | exact kk _ (by assumption)
        | exact kk
        | (exfalso; omega)
        | (simp [stepPoint, stepLetter, stepCopied, n46, n32, n48, n49, *] at kk; first | exact kk _ _ (by assumption) | exact kk _ (by assumption))
theorem ok_behind_copy (T : Txt K mg Z) : FnOk P w K mg base CX0 4 Z.a_behind_copy Z.d_behind_copy ["many", "sign"] (spStep K Z.C_Mark .copy) := by
  refine T.F_behind_copy.ok sc_behind_copy (fun vs H Q E h => ?_) (fun cdv A outer s H vs Q E hr h => ?_)
  · obtain ⟨_, _, _, _, rfl, _⟩ := h; rfl
  · obtain ⟨m, c, Φ, mt, rfl, s, kk⟩ := h
    refine ⟨_, (pss_cons (ps_if (PW.pt (pw_and (pt_cmpR op_eq (pv 0) pe_int (nomark _)) (pw_and1 (pt_cmpR op_eq (pv 1) pe_str (nomark _))))) (pss_one (ps_ret (pe_tup (pa_cons pe_str (pa_cons pe_int pa_nil))))) pss_nil)
      (pss_cons (ps_if (pt_cmpR op_eq (pv 0) pe_int (nomark _)) (pss_one (ps_ret (pe_ifExp (pt_val (pe_call (ok_is_first T) (hr.mono (by decide)) rfl T.g_is_first T.F_is_first.kp T.b_is_first .nil pass0 (pa_cons (pv 1) pa_nil))) (pe_tup (pa_cons pe_str (pa_cons pe_int pa_nil))) pe_non))) pss_nil)
      (pss_one (ps_ret (pe_call (ok_behind_copied T) (hr.mono (by decide)) rfl T.g_behind_copied T.F_behind_copied.kp T.b_behind_copied .nil pass0 (pa_cons (pv 0) (pa_cons (pv 1) pa_nil))))))), ?_⟩
    kxt_pos
    kopn_word
    all_goals
      (try simp only [one0, one1, oned, oneb, onec] at *)
      (try simp [step, *] at kk)
      first
        | exact kk _ _ (by assumption)
        | exact kk _ (by assumption)
        | exact kk
        | (exfalso; omega)
        | (simp [stepPoint, stepLetter, stepCopied, n46, n32, n48, n49, *] at kk; first | exact kk _ _ (by assumption) | exact kk _ (by assumption))
end

/-! ### a text walked -/
def endl : Plc → Bool
  | .point | .points | .letter | .maker | .copied => true
  | _ => false
def runF : Plc → Int → List Nat → Nat × Plc × Int
  | p, m, [] => (0, p, m)
  | p, m, c :: cs => match step p m c with
    | none => (0, p, m)
    | some (q, k) => ((runF q k cs).1 + 1, (runF q k cs).2)
theorem runF_cons {p : Plc} {m : Int} {c : Nat} {cs : List Nat} {q : Plc} {k : Int} (h : step p m c = some (q, k)) : runF p m (c :: cs) = ((runF q k cs).1 + 1, (runF q k cs).2) := by
  rw [runF, h]
theorem runF_none {p : Plc} {m : Int} {c : Nat} {cs : List Nat} (h : step p m c = none) : runF p m (c :: cs) = (0, p, m) := by
  rw [runF, h]
theorem fst_of {c : Nat} (h : c ∈ sg sFIG) (h0 : c ≠ 48) : fst c = true := by
  unfold fst
  rw [decide_eq_true h, decide_eq_false h0]
  rfl
theorem not_blank {c : Nat} (h : c ∈ sg sFIG) : c ≠ 32 := fun e => by subst e; exact absurd h (by decide +kernel)
theorem step_fig (p : Plc) (m : Int) {c : Nat} (h : endl p = true) (hc : c ∈ sg sFIG) : ∃ q k, step p m c = some (q, k) ∧ endl q = true ∧ ∀ d ∈ sg sFIG, step q k d = step p m d := by
  have hb := not_blank hc
  have f1 : c ≠ 48 → fst c = true := fst_of hc
  have nb : ∀ {d : Nat}, d ∈ sg sFIG → d ≠ 32 := fun hd => not_blank hd
  cases p with
  | point =>
    by_cases h0 : c = 48
    · exact ⟨.point, 0, by simp [step, stepPoint, h0], rfl, fun d hd => rfl⟩
    · exact ⟨.points, 0, by simp [step, stepPoint, h0, f1 h0], rfl, fun d hd => by simp [step, nb hd]⟩
  | points =>
    by_cases h0 : c = 48
    · exact ⟨.point, 0, by simp [step, stepPoint, h0], rfl, fun d hd => by simp [step, nb hd]⟩
    · exact ⟨.points, 0, by simp [step, stepPoint, h0, hb, f1 h0], rfl, fun d hd => rfl⟩
  | letter =>
    by_cases h0 : c = 48
    · exact ⟨.letter, m, by simp [step, stepLetter, h0], rfl, fun d hd => rfl⟩
    · exact ⟨.maker, m + 1, by simp [step, stepLetter, h0, f1 h0], rfl, fun d hd => by simp [step, nb hd]⟩
  | maker =>
    by_cases h0 : c = 48
    · exact ⟨.letter, m - 1, by simp [step, stepLetter, h0], rfl, fun d hd => by simp [step, nb hd]⟩
    · exact ⟨.maker, m, by simp [step, stepLetter, h0, hb, f1 h0], rfl, fun d hd => rfl⟩
  | copied => exact ⟨.copied, 0, by simp only [step, stepCopied]; rw [if_pos hc], rfl, fun d hd => rfl⟩
  | letters => cases h
  | number => cases h
  | blank => cases h
  | c => cases h
  | year => cases h
  | copy => cases h
theorem runF_skip : ∀ (j : Nat) (cs : List Nat) (p : Plc) (m : Int), endl p = true → (∀ i, i ≤ j → ∃ c, cs[i]? = some c ∧ c ∈ sg sFIG) → runF p m cs = (j + (runF p m (cs.drop j)).1, (runF p m (cs.drop j)).2)
  | 0, cs, p, m, _, _ => by rw [List.drop_zero, Nat.zero_add]
  | j + 1, cs, p, m, hp, h => by
    obtain ⟨c, h0, hc⟩ := h 0 (Nat.zero_le _)
    cases cs with
    | nil => simp at h0
    | cons c' cs =>
      obtain rfl : c' = c := by simpa using h0
      obtain ⟨q, k, e1, e2, e3⟩ := step_fig p m hp hc
      have ih := runF_skip j cs q k e2 fun i hi => by
        obtain ⟨d, h1, h2⟩ := h (i + 1) (by omega)
        exact ⟨d, by simpa using h1, h2⟩
      rw [runF_cons e1, ih, List.drop_succ_cons]
      obtain ⟨d, h1, h2⟩ := h (j + 1) (Nat.le_refl _)
      have h1' : cs[j]? = some d := by simpa using h1
      have hj : j < cs.length := (List.getElem?_eq_some_iff.mp h1').1
      have e4 : cs.drop j = d :: cs.drop (j + 1) := by
        rw [List.drop_eq_getElem_cons hj]
        rw [List.getElem?_eq_getElem hj] at h1'
        rw [Option.some.inj h1']
      have e5 : runF q k (cs.drop j) = runF p m (cs.drop j) := by
        rw [e4, runF, runF, e3 d h2]
        cases e6 : step p m d with
        | none =>
          exfalso
          obtain ⟨q2, k2, e7, _⟩ := step_fig p m hp h2
          rw [e6] at e7
          cases e7
        | some x => rfl
      rw [e5]
      exact Prod.ext (by show j + _ + 1 = j + 1 + _; omega) rfl
/-- how many figures stand ahead -/
def lead (cs : List Nat) : Nat := (cs.takeWhile fun c => sFIG.cps.contains c).length
theorem lead_le (cs : List Nat) : lead cs ≤ cs.length := by
  unfold lead
  exact (List.takeWhile_prefix _).length_le
theorem lead_fig : ∀ (cs : List Nat) (i : Nat), i < lead cs → ∃ c, cs[i]? = some c ∧ c ∈ sg sFIG
  | [], i, h => by simp [lead] at h
  | c :: cs, i, h => by
    unfold lead at h
    by_cases hc : sFIG.cps.contains c = true
    · rw [List.takeWhile_cons_of_pos hc] at h
      cases i with
      | zero => exact ⟨c, rfl, by simpa using hc⟩
      | succ i =>
        obtain ⟨d, h1, h2⟩ := lead_fig cs i (by rw [List.length_cons] at h; exact Nat.lt_of_succ_lt_succ h)
        exact ⟨d, by simpa using h1, h2⟩
    · rw [List.takeWhile_cons_of_neg hc] at h
      simp at h
theorem lstrip_len (t : Str) : (Txt.lstripChars t sFIG).length = t.length - lead (sg t) := by
  rw [← sg_len]
  show (sg (Txt.stripBy _ true false t)).length = _
  rw [stripBy_eq]
  show (List.length (Array.extract _ _ _).toList) = _
  rw [Array.toList_extract, List.extract_eq_take_drop]
  simp only [stripLo, stripHi, if_true, Bool.false_eq_true, if_false]
  rw [List.length_take, List.length_drop]
  have : (sg t).length = t.length := sg_len t
  show min (t.length - lead (sg t)) ((sg t).length - lead (sg t)) = _
  omega
theorem sg_from (s : Str) (k : Nat) : sg (cutS s (some (k : Int)) none) = (sg s).drop k := by
  show (List.toArray _).toList = _
  rw [HT.sIx_nat, show HT.sIx s.length s.length none = s.length from rfl]
  have hl : s.cps.toList.length = s.length := Array.length_toList
  have hl2 : (sg s).length = s.length := Array.length_toList
  by_cases h : k ≤ s.length
  · rw [Nat.min_eq_left h, List.take_of_length_le (by rw [List.length_drop]; omega)]
  · rw [Nat.min_eq_right (by omega), List.drop_of_length_le (by omega), List.drop_of_length_le (by omega)]
    simp

def fa (Z : Adr) : Plc → Addr
  | .letters => Z.a_behind_letters
  | .number => Z.a_behind_number
  | .point => Z.a_behind_point
  | .points => Z.a_behind_points
  | .blank => Z.a_behind_blank
  | .c => Z.a_behind_c
  | .letter => Z.a_behind_letter
  | .maker => Z.a_behind_maker
  | .year => Z.a_behind_year
  | .copy => Z.a_behind_copy
  | .copied => Z.a_behind_copied
def RStep (K : PySem.W.Frag) (Z : Adr) (f : Addr) (sp : Sp) : Prop := ∃ p, f = fa Z p ∧ sp = spStep K Z.C_Mark p
section
variable {K : PySem.W.Frag} {C : Addr} {σ : L2.St} {H : Hp} {Φ : List (V × W)} {mt : List (Addr × (HO → Prop))} {Q : VK} {E : XK} {p : Plc} {m : Int} {c : Nat} {Z : Adr} {i : Nat} {t : TA} {tt : Str} {r : Addr}
instance [q : At σ i (.ref (fa Z p))] : St1 (tCallVd (RStep K Z) i E t σ H Q) (t σ H fun vs H1 => spStep K Z.C_Mark p vs H1 Q E) := ⟨fun h => ⟨fa Z p, _, ⟨p, rfl, rfl⟩, q.h, h⟩⟩
theorem g_ixKD {w : World} {d : Addr} {f : Plc → Addr} (hk : ∀ p, KDct K w d p.str (.ref (f p))) (k : Q (.ref (f p)) H) : rIxD K w (.ref d) (.str p.str) H Q := ⟨d, _, _, rfl, rfl, hk p, k⟩
theorem g_inKD {w : World} {d : Addr} (hd : ∃ es n, KDict K w d es n) (hk : ∀ p : Plc, ∃ r, PySem.W.nsIn K d p.str = some r ∧ r.isSome = endl p) (k : Q (.bl (endl p)) H) : rInKD K w (.str p.str) (.ref d) H Q := by
  obtain ⟨r, h1, h2⟩ := hk p
  exact ⟨_, d, r, rfl, rfl, hd, h1, by rw [h2]; exact k⟩
def spLast (K : PySem.W.Frag) (C : Addr) : Sp := fun vs H Q _ => ∃ (t : Str) (i : Nat) (Φ : List (V × W)) (mt : List (Addr × (HO → Prop))), vs = [.str t, .int i] ∧ i ≤ t.length ∧ t.length ≤ 90000 ∧ S K C H Φ mt ∧ ∀ H', S K C H' Φ mt → Q (.int ((i + (lead ((sg t).drop i) - 1) : Nat) : Int)) H'
theorem use_last (s : S K C H Φ mt) (h1 : i ≤ tt.length) (h2 : tt.length ≤ 90000) (k : ∀ H', S K C H' Φ mt → Q (.int ((i + (lead ((sg tt).drop i) - 1) : Nat) : Int)) H') : spLast K C [.str tt, .int i] H Q E := ⟨tt, i, Φ, mt, rfl, h1, h2, s, k⟩
def spWalked (K : PySem.W.Frag) (C : Addr) : Sp := fun vs H Q _ => ∃ (t : Str) (Φ : List (V × W)) (mt : List (Addr × (HO → Prop))), vs = [.str t] ∧ t.length ≤ 90000 ∧ S K C H Φ mt ∧
  ∀ r H', S K C H' ((.ref r, .t [.i ((runF .letters 0 (sg t)).1 : Int), .t [.s (runF .letters 0 (sg t)).2.1.str, .i (runF .letters 0 (sg t)).2.2]]) :: Φ) mt → Q (.ref r) H'
def spStp (K : PySem.W.Frag) (C : Addr) : Sp := fun vs H Q _ => ∃ (r : Addr) (p : Plc) (m : Int) (c : Nat) (Φ : List (V × W)) (mt : List (Addr × (HO → Prop))), vs = [.ref r, .str (one c)] ∧ (.ref r, .t [.s p.str, .i m]) ∈ Φ ∧ S K C H Φ mt ∧ StepQ K C Φ mt (step p m c) Q
theorem isi_str {K : PySem.W.Frag} {H : Hp} {Q : VK} {u : Str} {b : Bool} (h : PySem.W.kitOne K (.type "str") (.type "str") = some b) (k : Q (.bl b) H) : rIsi K [.str u, .ty "str"] H Q := ⟨_, _, _, _, b, rfl, .ty _, .base (.str u), h, k⟩

theorem g_lstripQ {a b : Str} (hz : a.length ≤ 100000) (k : Q (.str (Txt.lstripChars a b)) H) : qLstripC (.str a) [.str b] H Q := ⟨a, b, rfl, rfl, sz_of hz, k⟩
theorem g_tyS {P : Prop} {u : Str} (k : P) : TyW K "str" (.str u) H P := ⟨rfl, k⟩
end
local macro_rules | `(tactic| kt_len) => `(tactic| with_reducible first
  | (apply use_last; (focus (assumption)); (focus (assumption)); (focus (assumption)); intro _ _))
local macro_rules | `(tactic| kt_at_get) => `(tactic| with_reducible first
  | refine st_go ?_
  | (apply g_ixKD; (focus (assumption)))
  | (apply g_inKD; (focus (assumption)); (focus (assumption)))
  | (apply isi_str; (focus (exact kit_ty (r := true) (by decide +kernel))))
  | (apply g_tyS)
  | (apply g_lstripQ; (focus (kcf_m))))
section
variable {P : Program} {w : World} {K : PySem.W.Frag} {mg : Str → Option Value} {base : Heap} {Z : Adr} {C : Addr}
theorem kdS (T : Txt K mg Z) : ∀ p, KDct K Z.wd Z.k_STEPS p.str (.ref (fa Z p)) := fun p => by
  cases p
  · exact T.kd_STEPS_letters
  · exact T.kd_STEPS_number
  · exact T.kd_STEPS_point
  · exact T.kd_STEPS_points
  · exact T.kd_STEPS_blank
  · exact T.kd_STEPS_c
  · exact T.kd_STEPS_letter
  · exact T.kd_STEPS_maker
  · exact T.kd_STEPS_year
  · exact T.kd_STEPS_copy
  · exact T.kd_STEPS_copied
theorem kdct_in {a : Addr} {x : Str} {v : V} (h : KDct K w a x v) : ∃ r, PySem.W.nsIn K a x = some r ∧ r.isSome = true := by
  obtain ⟨_, _, u, _, _, h, _⟩ := h
  exact ⟨some u, h, rfl⟩
theorem inE (T : Txt K mg Z) : ∀ p : Plc, ∃ r, PySem.W.nsIn K Z.k_ENDLESS p.str = some r ∧ r.isSome = endl p := fun p => by
  cases p
  · exact ⟨none, T.kn_ENDLESS_letters, rfl⟩
  · exact ⟨none, T.kn_ENDLESS_number, rfl⟩
  · exact kdct_in T.kd_ENDLESS_point
  · exact kdct_in T.kd_ENDLESS_points
  · exact ⟨none, T.kn_ENDLESS_blank, rfl⟩
  · exact ⟨none, T.kn_ENDLESS_c, rfl⟩
  · exact kdct_in T.kd_ENDLESS_letter
  · exact kdct_in T.kd_ENDLESS_maker
  · exact ⟨none, T.kn_ENDLESS_year, rfl⟩
  · exact ⟨none, T.kn_ENDLESS_copy, rfl⟩
  · exact kdct_in T.kd_ENDLESS_copied
theorem fnr {k j : Nat} {f : Addr} {fd : FuncData} {ps : List Str} {sp : Sp} (F : FnOk P w K mg base CX0 j f fd ps sp) (hb : Binds K fd ps []) (h : j ≤ k) : FnR P w K mg base CX0 k f sp :=
  ((F.raw hb .nil).imp fun vs H Q E h => by rw [List.append_nil]; exact h).mono h
theorem dynStep (T : Txt K mg Z) : DynF P w K mg base CX0 4 (RStep K Z) := ⟨fun f sp h => by
  obtain ⟨p, rfl, rfl⟩ := h
  cases p
  · exact ⟨fnr (ok_behind_letters T) T.b_behind_letters (by decide), T.F_behind_letters.kp⟩
  · exact ⟨fnr (ok_behind_number T) T.b_behind_number (by decide), T.F_behind_number.kp⟩
  · exact ⟨fnr (ok_behind_point T) T.b_behind_point (by decide), T.F_behind_point.kp⟩
  · exact ⟨fnr (ok_behind_points T) T.b_behind_points (by decide), T.F_behind_points.kp⟩
  · exact ⟨fnr (ok_behind_blank T) T.b_behind_blank (by decide), T.F_behind_blank.kp⟩
  · exact ⟨fnr (ok_behind_c T) T.b_behind_c (by decide), T.F_behind_c.kp⟩
  · exact ⟨fnr (ok_behind_letter T) T.b_behind_letter (by decide), T.F_behind_letter.kp⟩
  · exact ⟨fnr (ok_behind_maker T) T.b_behind_maker (by decide), T.F_behind_maker.kp⟩
  · exact ⟨fnr (ok_behind_year T) T.b_behind_year (by decide), T.F_behind_year.kp⟩
  · exact ⟨fnr (ok_behind_copy T) T.b_behind_copy (by decide), T.F_behind_copy.kp⟩
  · exact ⟨fnr (ok_behind_copied T) T.b_behind_copied (by decide), T.F_behind_copied.kp⟩⟩
theorem ok_last_figure (T : Txt K mg Z) : FnOk P w K mg base CX0 1 Z.a_last_figure Z.d_last_figure ["text", "at"] (spLast K Z.C_Mark) := by
  refine T.F_last_figure.ok sc_last_figure (fun vs H Q E h => ?_) (fun cdv A outer s H vs Q E hr h => ?_)
  · obtain ⟨_, _, _, _, rfl, _⟩ := h; rfl
  · obtain ⟨t, i, Φ, mt, rfl, h1, h2, s, kk⟩ := h
    refine ⟨_, (pss_cons (ps_set (i := 2) sc_last_figure.nd rfl (.inl rfl) (pe_slice sl_str (pv 0) (po_some (pv 1)) po_none))
      (pss_one (ps_ret (pe_op op_add (pv 1) (pe_callB (call_maxq rfl) (by rfl) T.n_max (by decide +kernel) (pa_cons pe_int (pa_cons (pe_op op_sub (pe_op op_sub (pe_callB (call_lenS) (by rfl) T.n_len (by decide +kernel) (pa_cons (pv 2) pa_nil)) (pe_callB (call_lenS) (by rfl) T.n_len (by decide +kernel) (pa_cons (bmK K PySem.F.plainAttrs_str PySem.F.slot_str_lstrip PySem.F.type_str_lstrip mt_lstripQ (pv 2) (pa_cons (pe_gs rfl T.c_FIGURES) pa_nil)) pa_nil))) pe_int) pa_nil))))))), ?_⟩
    have e1 : sg (cutS t (some (i : Int)) none) = (sg t).drop i := sg_from t i
    have e2 : (cutS t (some (i : Int)) none).length = t.length - i := by rw [← sg_len, e1, List.length_drop, sg_len]
    have e3 : (Txt.lstripChars (cutS t (some (i : Int)) none) (Str.ofString "0123456789")).length = t.length - i - lead ((sg t).drop i) := by
      have := lstrip_len (cutS t (some (i : Int)) none)
      rw [e1, e2] at this
      exact this
    have e4 : lead ((sg t).drop i) ≤ t.length - i := by
      have := lead_le ((sg t).drop i)
      rw [List.length_drop, sg_len] at this
      exact this
    have z1 : (cutS t (some (i : Int)) none).length ≤ 100000 := by omega
    have z2 : (Txt.lstripChars (cutS t (some (i : Int)) none) (Str.ofString "0123456789")).length ≤ 100000 := by omega
    kxt_pos
    kopn_word
    rw [e2, e3]
    have e5 : (i : Int) + (if ((t.length - i : Nat) : Int) - ((t.length - i - lead ((sg t).drop i) : Nat) : Int) - 1 > 0 then ((t.length - i : Nat) : Int) - ((t.length - i - lead ((sg t).drop i) : Nat) : Int) - 1 else 0) = ((i + (lead ((sg t).drop i) - 1) : Nat) : Int) := by
      split <;> omega
    rw [e5]
    exact kk _ (by kt_ors)
theorem ok_walked (T : Txt K mg Z) : FnOk P Z.wd K mg base CX0 5 Z.a_walked Z.d_walked ["text"] (spWalked K Z.C_Mark) := by
  refine T.F_walked.ok sc_walked (fun vs H Q E h => ?_) (fun cdv A outer s H vs Q E hr h => ?_)
  · obtain ⟨_, _, _, rfl, _⟩ := h; rfl
  · obtain ⟨t, Φ, mt, rfl, hz, s, kk⟩ := h
    refine ⟨_, (pss_cut (ps_if (pt_not (pt_val (pe_callB (isiK K) (by rfl) T.n_isinstance (by decide +kernel) (pa_cons (pv 0) (pa_cons (pe_bltn (v := .ty "str") (by rfl) T.n_str (by decide +kernel) rfl) pa_nil))))) (pss_one ps_never) pss_nil)
      (pss_cons (ps_set (i := 1) sc_walked.nd rfl (.inl rfl) (pe_cmpR op_gt (pe_callB (call_lenS) (by rfl) T.n_len (by decide +kernel) (pa_cons (pv 0) pa_nil)) (pe_gi rfl T.c_MOST_WITHOUT_RUNS) (nomark _)))
      (pss_cons (ps_asg (pe_glob (v := .ref Z.k_START) rfl T.c_START rfl) (pg_tup rfl (pgs_cons (pg_name (i := 2) sc_walked.nd rfl (.inl rfl)) (pgs_cons (pg_name (i := 3) sc_walked.nd rfl (.inl rfl)) pgs_nil))))
      (pss_cons (ps_set (i := 4) sc_walked.nd rfl (.inl rfl) pe_int)
      (pss_cons (ps_while PassesOwn.never (pt_cmpR op_lt (pv 4) (pe_callB (call_lenS) (by rfl) T.n_len (by decide +kernel) (pa_cons (pv 0) pa_nil)) (nomark _)) (pss_cut (ps_if (PW.pt (pw_and (pt_val (pv 1)) (pw_and1 (pt_cmpR (inKD K Z.wd) (pv 2) (pe_glob (v := .ref Z.k_ENDLESS) rfl T.c_ENDLESS rfl) (by rfl))))) (pss_one (ps_set (i := 4) sc_walked.nd rfl (.inl rfl) (pe_call (ok_last_figure T) (hr.mono (by decide)) rfl T.g_last_figure T.F_last_figure.kp T.b_last_figure .nil pass0 (pa_cons (pv 0) (pa_cons (pv 4) pa_nil))))) pss_nil)
      (pss_cons (ps_set (i := 5) sc_walked.nd rfl (.inl rfl) (pe_ix (ixKD K Z.wd) (pe_glob (v := .ref Z.k_STEPS) rfl T.c_STEPS rfl) (pv 2) (fun _ _ => rfl)))
      (pss_cons (ps_set (i := 6) sc_walked.nd rfl (.inl rfl) (pe_callVd (i := 5) (dynStep T) (hr.mono (by decide)) pass0 rfl (.inl rfl) (pa_cons (pv 3) (pa_cons (pe_ix ix_str (pv 0) (pv 4) (fun _ _ => rfl)) pa_nil))))
      (pss_cut (ps_if (pt_cmpR op_isNq (pv 6) pe_non (nomark _)) (pss_one (ps_ret (pe_tup (pa_cons (pv 4) (pa_cons (pe_tup (pa_cons (pv 2) (pa_cons (pv 3) pa_nil))) pa_nil))))) pss_nil)
      (pss_cons (ps_asg (pv 6) (pg_tup rfl (pgs_cons (pg_name (i := 2) sc_walked.nd rfl (.inl rfl)) (pgs_cons (pg_name (i := 3) sc_walked.nd rfl (.inl rfl)) pgs_nil))))
      (pss_one (ps_aug (i := 4) sc_walked.nd rfl (.inl rfl) pe_int ip_add))))))))
      (pss_one (ps_ret (pe_tup (pa_cons (pv 4) (pa_cons (pe_tup (pa_cons (pv 2) (pa_cons (pv 3) pa_nil))) pa_nil)))))))))), ?_⟩
    have hS := kdS T
    have hE := inE T
    have hE0 := T.kd_ENDLESS
    have hS0 := T.t_START
    kxt_pos
    refine ⟨fun σ' H' => σ' = [some (.str t), none, none, none, none, none, none] ∧ S K Z.C_Mark H' Φ mt, ?_, ?_⟩
    · kopn_word
      exact ⟨rfl, by kt_ors⟩
    rintro _ H1 ⟨rfl, s1⟩
    kopn_word
    refine ⟨_, _, rfl, hS0 _, rfl, _, _, rfl, _, _, rfl, rfl, ?_⟩
    kopn_word
    have hlen : (sg t).length = t.length := sg_len t
    refine q_while (fun μ σ' H' => ∃ (i : Nat) (p : Plc) (m : Int) (v5 v6 : Option V), σ' = [some (.str t), some (.bl (decide ((40 : Int) < (t.length : Int)))), some (.str p.str), some (.int m), some (.int (i : Int)), v5, v6] ∧ i ≤ t.length ∧ μ = t.length - i ∧ S K Z.C_Mark H' Φ mt ∧
      runF .letters 0 (sg t) = (i + (runF p m ((sg t).drop i)).1, (runF p m ((sg t).drop i)).2)) t.length ⟨0, .letters, 0, _, _, rfl, Nat.zero_le _, rfl, by assumption, by rw [List.drop_zero, Nat.zero_add]⟩ ?_
    rintro μ σ' H' ⟨i, p, m, v5, v6, rfl, hi, rfl, s3, hrun⟩
    refine ⟨decide ((i : Int) < (t.length : Int)), et_test (ev_op (ev_var rfl) (ev_lenS (ev_var rfl) (by omega)) rv_I0), fun hlt H4 e4 => ⟨fun σ2 H2 => ∃ (i' : Nat) (p : Plc) (m : Int) (v5 v6 : Option V), σ2 = [some (.str t), some (.bl (decide ((40 : Int) < (t.length : Int)))), some (.str p.str), some (.int m), some (.int (i' : Int)), v5, v6] ∧ i < i' ∧ i' ≤ t.length ∧ S K Z.C_Mark H2 Φ mt ∧
      runF .letters 0 (sg t) = (i' + (runF p m ((sg t).drop i')).1, (runF p m ((sg t).drop i')).2), ?_, ?_⟩, fun hge H4 e4 => ?_⟩
    · rintro σ2 H2 ⟨i', p', m', v5', v6', rfl, h1, h2, h3, h4⟩
      exact ⟨t.length - i', by omega, i', p', m', v5', v6', rfl, h2, rfl, h3, h4⟩
    · have hlt' : i < t.length := by have := of_decide_eq_true hlt; omega
      have s4 := s3.ext e4
      refine ⟨fun σ' H' => ∃ j : Nat, σ' = [some (.str t), some (.bl (decide ((40 : Int) < (t.length : Int)))), some (.str p.str), some (.int m), some (.int ((i + j : Nat) : Int)), v5, v6] ∧ i + j < t.length ∧ S K Z.C_Mark H' Φ mt ∧
        runF .letters 0 (sg t) = (i + j + (runF p m ((sg t).drop (i + j))).1, (runF p m ((sg t).drop (i + j))).2), ?_, ?_⟩
      · kopn_word
        · rename_i hend H5 s5
          have hle : lead ((sg t).drop i) ≤ t.length - i := by
            have := lead_le ((sg t).drop i)
            rw [List.length_drop, hlen] at this
            exact this
          refine ⟨lead ((sg t).drop i) - 1, rfl, by omega, by kt_ors, ?_⟩
          have hsk : runF p m ((sg t).drop i) = (lead ((sg t).drop i) - 1 + (runF p m (((sg t).drop i).drop (lead ((sg t).drop i) - 1))).1, (runF p m (((sg t).drop i).drop (lead ((sg t).drop i) - 1))).2) := by
            by_cases h0 : lead ((sg t).drop i) = 0
            · rw [h0, Nat.zero_sub, List.drop_zero, Nat.zero_add]
            · exact runF_skip _ _ p m hend fun x hx => lead_fig _ x (by omega)
          rw [hrun, hsk, List.drop_drop]
          exact Prod.ext (by show i + (_ + _) = i + _ + _; omega) rfl
        all_goals exact ⟨0, rfl, hlt', by kt_ors, hrun⟩
      rintro σ5 H5 ⟨j, rfl, hj, s5, hr5⟩
      kopn_word
      rename_i c hc _
      have hc' : (sg t)[i + j]? = some c := by
        have h9 : i + j < (sg t).length := by omega
        have := atI_nat (List.getElem?_eq_getElem h9)
        rw [this] at hc
        rw [List.getElem?_eq_getElem h9]
        exact hc
      have hd : (sg t).drop (i + j) = c :: (sg t).drop (i + j + 1) := by
        have h9 : i + j < (sg t).length := by omega
        rw [List.drop_eq_getElem_cons h9]
        rw [List.getElem?_eq_getElem h9] at hc'
        rw [Option.some.inj hc']
      cases hst : step p m c with
      | none =>
        intro H6 s6
        kopn_word
        refine ⟨fun _ _ => False, ?_, fun _ _ h => h.elim⟩
        kopn_word
        rw [hd, runF_none hst] at hr5
        rw [hr5] at kk
        refine kk _ _ ?_
        show S _ _ _ ((_, W.t [.i ((i + j + 0 : Nat) : Int), .t [.s p.str, .i m]]) :: _) _
        rw [Nat.add_zero]
        kt_ors
      | some x =>
        obtain ⟨q, k⟩ := x
        intro r H6 s6
        kopn_word
        refine ⟨fun σ' H' => σ' = [some (.str t), some (.bl (decide ((40 : Int) < (t.length : Int)))), some (.str p.str), some (.int m), some (.int ((i + j : Nat) : Int)), some (.ref (fa Z p)), some (.ref r)] ∧ S K Z.C_Mark H' ((.ref r, .t [.s q.str, .i k]) :: Φ) mt, ?_, ?_⟩
        · kopn_word
          exact ⟨rfl, by kt_ors⟩
        rintro σ7 H7 ⟨rfl, s7⟩
        kopn_word
        refine ⟨_, rfl, ?_⟩
        kopn_word
        refine ⟨_, _, rfl, rfl, ?_⟩
        rw [hd, runF_cons hst] at hr5
        refine ⟨i + j + 1, q, k, _, _, rfl, by omega, by omega, by kt_ors, ?_⟩
        rw [hr5]
        exact Prod.ext (by show i + j + (_ + 1) = i + j + 1 + _; omega) rfl
    · have hge' : i = t.length := by have := of_decide_eq_false hge; omega
      have s4 := s3.ext e4
      rw [List.drop_of_length_le (by omega)] at hrun
      kopn_word
      have hrun2 : runF .letters 0 (sg t) = (i, p, m) := hrun
      rw [hrun2] at kk
      refine kk _ _ ?_
      show S _ _ _ ((_, W.t [.i (i : Int), .t [.s p.str, .i m]]) :: _) _
      kt_ors
end

/-! ### every text of a mark is walked to its end -/
def runA : Plc → Int → List Nat → Option (Plc × Int)
  | p, m, [] => some (p, m)
  | p, m, c :: cs => (step p m c).bind fun x => runA x.1 x.2 cs
theorem runA_cons {p q : Plc} {m k : Int} {c : Nat} {cs : List Nat} (h : step p m c = some (q, k)) : runA p m (c :: cs) = runA q k cs := by
  rw [runA, h]
  rfl
theorem runA_app : ∀ (xs : List Nat) (p : Plc) (m : Int) (ys : List Nat), runA p m (xs ++ ys) = (runA p m xs).bind fun x => runA x.1 x.2 ys
  | [], _, _, _ => rfl
  | c :: xs, p, m, ys => by
    rw [List.cons_append, runA, runA]
    cases step p m c with
    | none => rfl
    | some x => exact runA_app xs x.1 x.2 ys
theorem runA_then {p q : Plc} {m k : Int} {xs ys : List Nat} (h : runA p m xs = some (q, k)) : runA p m (xs ++ ys) = runA q k ys := by
  rw [runA_app, h]
  rfl
theorem runF_of : ∀ (cs : List Nat) (p : Plc) (m : Int) (q : Plc) (k : Int), runA p m cs = some (q, k) → runF p m cs = (cs.length, q, k)
  | [], p, m, q, k, h => by cases h; rfl
  | c :: cs, p, m, q, k, h => by
    rw [runA] at h
    cases e : step p m c with
    | none => rw [e] at h; cases h
    | some x =>
      rw [e] at h
      rw [runF_cons e, runF_of cs x.1 x.2 q k h]
      rfl
theorem runA_pre {p : Plc} {m : Int} {xs ys : List Nat} {z : Plc × Int} (h : runA p m (xs ++ ys) = some z) : ∃ q k, runA p m xs = some (q, k) ∧ runA q k ys = some z := by
  rw [runA_app] at h
  cases e : runA p m xs with
  | none => rw [e] at h; cases h
  | some x => rw [e] at h; exact ⟨x.1, x.2, rfl, h⟩
theorem abc_fig {c : Nat} (h : c ∈ sg sFIG) : ¬ c ∈ sg sABC := fun h2 => absurd h2 ((by decide +kernel : ∀ c ∈ sg sFIG, ¬ c ∈ sg sABC) c h)
theorem abc_sign {c : Nat} (h : c ∈ sg sABC) : c ≠ 32 ∧ c ≠ 46 := (by decide +kernel : ∀ c ∈ sg sABC, c ≠ 32 ∧ c ≠ 46) c h
theorem fig_sign {c : Nat} (h : c ∈ sg sFIG) : c ≠ 32 ∧ c ≠ 46 ∧ c ≠ 99 := (by decide +kernel : ∀ c ∈ sg sFIG, c ≠ 32 ∧ c ≠ 46 ∧ c ≠ 99) c h
theorem ra_let : ∀ (cs : List Nat) (k : Int), (∀ c ∈ cs, c ∈ sg sABC) → k + cs.length ≤ 3 → runA .letters k cs = some (.letters, k + cs.length)
  | [], k, _, _ => by simp [runA]
  | c :: cs, k, h, hk => by
    rw [List.length_cons] at hk ⊢
    have h1 : step .letters k c = some (.letters, k + 1) := by
      simp only [step]
      rw [if_pos ⟨h c List.mem_cons_self, by omega⟩]
    rw [runA_cons h1, ra_let cs (k + 1) (fun d hd => h d (List.mem_cons_of_mem _ hd)) (by omega)]
    congr 2
    omega
theorem ra_dig : ∀ (cs : List Nat) (k : Int), (∀ c ∈ cs, c ∈ sg sFIG) → k + cs.length ≤ 4 → runA .number k cs = some (.number, k + cs.length)
  | [], k, _, _ => by simp [runA]
  | c :: cs, k, h, hk => by
    rw [List.length_cons] at hk ⊢
    have h1 : step .number k c = some (.number, k + 1) := by
      simp only [step]
      rw [if_pos ⟨h c List.mem_cons_self, by omega⟩]
    rw [runA_cons h1, ra_dig cs (k + 1) (fun d hd => h d (List.mem_cons_of_mem _ hd)) (by omega)]
    congr 2
    omega
/-- figures behind a place where many may stand: the last one tells -/
theorem ra_end : ∀ (fs : List Nat) (p : Plc) (m : Int) (c : Nat), endl p = true → (∀ d ∈ fs, d ∈ sg sFIG) → c ∈ sg sFIG → runA p m (fs ++ [c]) = step p m c
  | [], p, m, c, _, _, _ => by
    rw [List.nil_append, runA]
    cases step p m c <;> rfl
  | d :: fs, p, m, c, hp, h, hc => by
    obtain ⟨q, k, e1, e2, e3⟩ := step_fig p m hp (h d List.mem_cons_self)
    rw [List.cons_append, runA_cons e1, ra_end fs q k c e2 (fun x hx => h x (List.mem_cons_of_mem _ hx)) hc, e3 c hc]
theorem ended_sg {t : Str} (h : endedOk t = true) : ∃ fs c, sg t = fs ++ [c] ∧ (∀ d ∈ fs, d ∈ sg sFIG) ∧ c ∈ sg sFIG ∧ c ≠ 48 := by
  have hf := ended_fig h
  have hne : sg t ≠ [] := fun e => by
    have h1 : t = ("" : Str) := str_ext (by rw [e]; decide +kernel)
    rw [h1] at h
    exact absurd h (by decide +kernel)
  have e := List.dropLast_concat_getLast hne
  refine ⟨(sg t).dropLast, (sg t).getLast hne, e.symm, fun d hd => hf d ((List.dropLast_sublist _).subset hd), hf _ (List.getLast_mem hne), fun z => ?_⟩
  have h2 : t = (⟨(sg t).dropLast.toArray⟩ : Str) ++ ⟨#[(sg t).getLast hne]⟩ := str_ext (by rw [sg_app]; exact e.symm)
  unfold endedOk at h
  rw [Bool.and_eq_true, Bool.not_eq_true', h2, ends0, z] at h
  exact absurd h.2 (by decide)
/-! numbers, figure by figure -/
theorem dig_sg (n : Nat) : sg (toString ((n : Nat) : Int) : String) = (Nat.toDigits 10 n).map Char.toNat := PySem.W.KIN.signs_num n
theorem dig_lead (n : Nat) : 1 ≤ n → ∃ c cs, (Nat.toDigits 10 n).map Char.toNat = c :: cs ∧ 49 ≤ c ∧ c ≤ 57 := by
  induction n using Nat.strongRecOn with
  | ind n ih =>
    intro h
    by_cases hn : n < 10
    · rw [Nat.toDigits_of_lt_base hn]
      have : ∀ k : Nat, k < 10 → 1 ≤ k → 49 ≤ (Nat.digitChar k).toNat ∧ (Nat.digitChar k).toNat ≤ 57 := by decide
      exact ⟨_, [], rfl, this n hn h⟩
    · rw [Nat.toDigits_of_base_le (by decide) (by omega), List.map_append]
      obtain ⟨c, cs, e, h1⟩ := ih (n / 10) (by omega) (by omega)
      rw [e]
      exact ⟨c, cs ++ _, rfl, h1⟩
theorem dig_len : ∀ (k n : Nat), n < 10 ^ (k + 1) → (Nat.toDigits 10 n).length ≤ k + 1
  | 0, n, h => by rw [Nat.toDigits_of_lt_base (by simpa using h)]; exact Nat.le_refl _
  | k + 1, n, h => by
    by_cases hn : n < 10
    · rw [Nat.toDigits_of_lt_base hn]
      exact Nat.succ_le_succ (Nat.zero_le _)
    · rw [Nat.toDigits_of_base_le (by decide) (by omega), List.length_append]
      have := dig_len k (n / 10) (by rw [Nat.pow_succ] at h; omega)
      exact Nat.succ_le_succ this
theorem dig_fig {n c : Nat} (h : c ∈ (Nat.toDigits 10 n).map Char.toNat) : c ∈ sg sFIG := by
  rw [← dig_sg] at h
  exact num_fig (by omega) c h
theorem dig_year {n : Nat} (h1 : 1000 ≤ n) (h2 : n ≤ 2999) : ∃ a b c d, (Nat.toDigits 10 n).map Char.toNat = [a, b, c, d] ∧ a ∈ sg "12" := by
  have h : ∀ k : Nat, k < 3 → 1 ≤ k → (Nat.digitChar k).toNat ∈ sg "12" := by decide +kernel
  rw [Nat.toDigits_of_base_le (by decide) (by omega), Nat.toDigits_of_base_le (by decide) (by omega), Nat.toDigits_of_base_le (by decide) (by omega), Nat.toDigits_of_lt_base (by omega)]
  exact ⟨_, _, _, _, rfl, h _ (by omega) (by omega)⟩
def fin : Plc → Int → Bool
  | .number, _ => true
  | .points, _ => true
  | .maker, _ => true
  | .copied, _ => true
  | .year, m => decide (m = 4)
  | _, _ => false
theorem head_sg (m : MK) : sg m.head = sg m.lt ++ (sg (toString m.num : String) ++ if m.pts = ("" : Str) then [] else 46 :: sg m.pts) := by
  unfold MK.head
  by_cases h : m.pts = ("" : Str)
  · rw [if_pos h, if_pos h]
    simp only [List.foldl_cons, List.foldl_nil, sg_app, sg_e2, List.nil_append, List.append_nil]
  · rw [if_neg h, if_neg h]
    simp only [List.foldl_cons, List.foldl_nil, sg_app, sg_e2, List.nil_append, List.append_assoc]
    rfl
theorem join_blank : ∀ (w : Str) (ws : List Str), sg (Str.join " " (w :: ws)) = sg w ++ (ws.map fun x => 32 :: sg x).flatten
  | w, [] => by
    show sg w = _
    simp
  | w, x :: ws => by
    show sg (w ++ " " ++ Str.join " " (x :: ws)) = _
    rw [sg_app, sg_app, join_blank x ws, show sg (" " : Str) = [32] by decide +kernel]
    simp
def yrL : Option Int → List Str
  | none => []
  | some y => [((toString y : String) : Str)]
def cpL : Option Int → List Str
  | none => []
  | some c => [([("c." : Str), ((toString c : String) : Str)]).foldl (· ++ ·) Str.empty]
theorem words_eq (m : MK) : m.words = m.head :: (m.mks ++ yrL m.yr ++ cpL m.cp) := by
  unfold MK.words
  obtain ⟨lt, num, pts, mks, yr, cp⟩ := m
  cases yr <;> cases cp <;> rfl
theorem text_sg (m : MK) : sg m.text = sg m.head ++ ((m.mks ++ yrL m.yr ++ cpL m.cp).map fun x => 32 :: sg x).flatten := by
  unfold MK.text Txt.join
  rw [StrLaws.glued_eq_join, words_eq]
  exact join_blank _ _

theorem run_head {m : MK} (ok : m.Ok) : ∃ q k, runA .letters 0 (sg m.head) = some (q, k) ∧ fin q k = true ∧ step q k 32 = some (.blank, 0) := by
  have hl := ok.l
  unfold lettersOk at hl
  rw [Bool.and_eq_true, Bool.and_eq_true, decide_eq_true_eq, decide_eq_true_eq, allIn_iff] at hl
  obtain ⟨⟨l1, l2⟩, l3⟩ := hl
  have hlen := sg_len m.lt
  obtain ⟨n, hn⟩ : ∃ n : Nat, m.num = (n : Int) := ⟨m.num.toNat, by have := ok.n.1; omega⟩
  have hn1 := ok.n.1
  have hn2 := ok.n.2
  obtain ⟨c, cs, ec, hc1, hc2⟩ := dig_lead n (by omega)
  have hdl := dig_len 3 n (by omega)
  have hcl : (c :: cs).length ≤ 4 := by rw [← ec, List.length_map]; exact hdl
  have hcf : ∀ d ∈ c :: cs, d ∈ sg sFIG := fun d hd => dig_fig (by rw [ec]; exact hd)
  have r1 := ra_let (sg m.lt) 0 l3 (by omega)
  have s1 : step .letters (0 + (sg m.lt).length) c = some (.number, 1) := by
    simp only [step]
    rw [if_neg (fun z => abc_fig (hcf c List.mem_cons_self) z.1), if_pos ⟨fst_of (hcf c List.mem_cons_self) (by omega), by omega⟩]
  have r2 := ra_dig cs 1 (fun d hd => hcf d (List.mem_cons_of_mem _ hd)) (by rw [List.length_cons] at hcl; omega)
  have r3 : ∀ ys, runA .letters 0 (sg m.lt ++ (sg (toString m.num : String) ++ ys)) = runA .number (1 + cs.length) ys := fun ys => by
    rw [runA_then r1, hn, dig_sg, ec, List.cons_append, runA_cons s1, runA_then r2]
  rw [head_sg]
  by_cases hp : m.pts = ("" : Str)
  · rw [if_pos hp, r3]
    exact ⟨.number, _, rfl, rfl, by simp only [step]; rw [if_neg (fun z => absurd z.1 (by decide +kernel)), if_neg (by decide), if_pos trivial]⟩
  · rw [if_neg hp, r3]
    obtain ⟨fs, d, e1, e2, e3, e4⟩ := ended_sg (points_ended ok.p hp)
    have s2 : step .number (1 + cs.length) 46 = some (.point, 0) := by
      simp only [step]
      rw [if_neg (fun z => absurd z.1 (by decide +kernel)), if_pos trivial]
    have s3 : step .point 0 d = some (.points, 0) := by
      simp only [step, stepPoint]
      rw [if_neg e4, if_pos (fst_of e3 e4)]
    rw [runA_cons s2, e1, ra_end fs .point 0 d rfl e2 e3, s3]
    exact ⟨.points, 0, rfl, rfl, by simp only [step]; rw [if_pos trivial]⟩
theorem run_maker {s : Str} (h : makerOk s = true) {j : Int} (hj : j < 3) : runA .blank j (sg s) = some (.maker, j + 1) := by
  obtain ⟨h1, a, ha, hab⟩ := maker_tail h
  obtain ⟨fs, d, e1, e2, e3, e4⟩ := ended_sg h1
  rw [sg_cutFrom1] at e1
  have e5 : sg s = a :: (fs ++ [d]) := by
    cases hs : sg s with
    | nil => rw [hs] at ha; cases ha
    | cons x xs => rw [hs] at ha e1; cases ha; rw [← e1]; rfl
  have fin2 : runA .letter j (fs ++ [d]) = some (.maker, j + 1) := by
    rw [ra_end fs .letter j d rfl e2 e3]
    simp only [step, stepLetter]
    rw [if_neg e4, if_pos (fst_of e3 e4)]
  rw [e5]
  by_cases ha9 : a = 99
  · have s1 : step .blank j a = some (.c, j) := by simp only [step]; rw [if_pos ha9]
    rw [runA_cons s1]
    rw [← fin2]
    have key : ∀ x, x ∈ sg sFIG → step .c j x = step .letter j x := fun x hx => by
      show (if x = 46 then _ else if j < 3 then stepLetter j x else none) = stepLetter j x
      rw [if_neg (fig_sign hx).2.1, if_pos hj]
    cases fs with
    | nil => rw [List.nil_append, runA, runA, key d e3]
    | cons f fs => rw [List.cons_append, runA, runA, key f (e2 f List.mem_cons_self)]
  · have s1 : step .blank j a = some (.letter, j) := by
      simp only [step]
      rw [if_neg ha9, if_pos ⟨hab, hj⟩]
    rw [runA_cons s1, fin2]
theorem run_makers : ∀ (ks : List Str) (q : Plc) (k j : Int), (∀ s ∈ ks, makerOk s = true) → fin q k = true → step q k 32 = some (.blank, j) → 0 ≤ j → j + ks.length ≤ 3 →
    ∃ q' k', runA q k (ks.map fun x => 32 :: sg x).flatten = some (q', k') ∧ fin q' k' = true ∧ step q' k' 32 = some (.blank, j + ks.length)
  | [], q, k, j, _, hf, hb, _, _ => ⟨q, k, rfl, hf, by rw [hb]; simp⟩
  | s :: ks, q, k, j, h, hf, hb, hj, hl => by
    rw [List.length_cons] at hl
    have r1 := run_maker (h s List.mem_cons_self) (j := j) (by omega)
    obtain ⟨q', k', e1, e2, e3⟩ := run_makers ks .maker (j + 1) (j + 1) (fun x hx => h x (List.mem_cons_of_mem _ hx)) rfl (by simp only [step]; rw [if_pos trivial]) (by omega) (by omega)
    refine ⟨q', k', ?_, e2, ?_⟩
    · rw [List.map_cons, List.flatten_cons, List.cons_append, runA_cons hb, runA_then r1]
      exact e1
    · rw [e3, List.length_cons]
      congr 2
      omega
theorem run_year {y : Option Int} (h : ∀ i, y = some i → 1000 ≤ i ∧ i ≤ 2999) {q : Plc} {k j : Int} (hf : fin q k = true) (hb : step q k 32 = some (.blank, j)) (hj : j < 4) :
    ∃ q' k' j', runA q k ((yrL y).map fun x => 32 :: sg x).flatten = some (q', k') ∧ fin q' k' = true ∧ step q' k' 32 = some (.blank, j') := by
  cases y with
  | none => exact ⟨q, k, j, rfl, hf, hb⟩
  | some i =>
    obtain ⟨h1, h2⟩ := h i rfl
    obtain ⟨n, rfl⟩ : ∃ n : Nat, i = (n : Int) := ⟨i.toNat, by omega⟩
    obtain ⟨a, b, c, d, e, ha⟩ := dig_year (n := n) (by omega) (by omega)
    have hfig : ∀ x ∈ [a, b, c, d], x ∈ sg sFIG := fun x hx => dig_fig (by rw [e]; exact hx)
    have ha2 := fig_sign (hfig a (by simp))
    have s1 : step .blank j a = some (.year, 1) := by
      simp only [step]
      rw [if_neg ha2.2.2, if_neg (fun z => abc_fig (hfig a (by simp)) z.1), if_pos ⟨ha, hj⟩]
    have s2 : ∀ (m : Int) (x : Nat), m < 4 → x ∈ [a, b, c, d] → step .year m x = some (.year, m + 1) := fun m x hm hx => by
      simp only [step]
      rw [if_pos hm, if_pos (hfig x hx)]
    refine ⟨.year, 4, 4, ?_, rfl, by simp only [step]; rw [if_neg (by decide), if_pos trivial]⟩
    show runA q k ((32 :: sg (toString ((n : Nat) : Int) : String)) ++ []) = _
    rw [List.append_nil, dig_sg, e, runA_cons hb, runA_cons s1, runA_cons (s2 1 b (by decide) (by simp)), runA_cons (s2 (1 + 1) c (by decide) (by simp)), runA_cons (s2 (1 + 1 + 1) d (by decide) (by simp))]
    rfl
theorem ra_cop : ∀ cs : List Nat, (∀ c ∈ cs, c ∈ sg sFIG) → runA .copied 0 cs = some (.copied, 0)
  | [], _ => rfl
  | c :: cs, h => by
    have s1 : step .copied 0 c = some (.copied, 0) := by
      simp only [step, stepCopied]
      rw [if_pos (h c List.mem_cons_self)]
    rw [runA_cons s1]
    exact ra_cop cs fun d hd => h d (List.mem_cons_of_mem _ hd)
theorem run_copy {y : Option Int} (h : ∀ i, y = some i → 2 ≤ i) {q : Plc} {k j : Int} (hf : fin q k = true) (hb : step q k 32 = some (.blank, j)) :
    ∃ q' k', runA q k ((cpL y).map fun x => 32 :: sg x).flatten = some (q', k') ∧ fin q' k' = true := by
  cases y with
  | none => exact ⟨q, k, rfl, hf⟩
  | some i =>
    have h1 := h i rfl
    obtain ⟨n, rfl⟩ : ∃ n : Nat, i = (n : Int) := ⟨i.toNat, by omega⟩
    obtain ⟨c, cs, e, hc1, hc2⟩ := dig_lead n (by omega)
    have hfig : ∀ x ∈ c :: cs, x ∈ sg sFIG := fun x hx => dig_fig (by rw [e]; exact hx)
    refine ⟨.copied, 0, ?_, rfl⟩
    have e0 : sg (([("c." : Str), ((toString ((n : Nat) : Int) : String) : Str)]).foldl (· ++ ·) Str.empty) = 99 :: 46 :: sg (toString ((n : Nat) : Int) : String) := by
      simp only [List.foldl_cons, List.foldl_nil, sg_app, sg_e2, List.nil_append]
      rfl
    show runA q k ((32 :: sg (([("c." : Str), ((toString ((n : Nat) : Int) : String) : Str)]).foldl (· ++ ·) Str.empty)) ++ []) = _
    have s1 : step .blank j 99 = some (.c, j) := by simp only [step]; rw [if_pos trivial]
    have s2 : step .c j 46 = some (.copy, 0) := by simp only [step]; rw [if_pos trivial]
    rw [List.append_nil, e0, dig_sg, e, runA_cons hb, runA_cons s1, runA_cons s2]
    by_cases h9 : c = 49
    · subst h9
      cases cs with
      | nil =>
        exfalso
        have hv := PySem.W.KIN.val_back n
        rw [e] at hv
        have : PySem.NumText.digitsVal [49] = 1 := by decide +kernel
        omega
      | cons d ds =>
        have s3 : step .copy 0 49 = some (.copy, 1) := by simp only [step]; rw [if_pos ⟨trivial, trivial⟩]
        have s4 : step .copy 1 d = some (.copied, 0) := by
          show (if (1 : Int) = 0 ∧ d = 49 then some (Plc.copy, (1 : Int)) else if (1 : Int) = 0 then (if fst d = true then some (Plc.copied, (0 : Int)) else none) else stepCopied d) = _
          rw [if_neg (fun z => absurd z.1 (by decide)), if_neg (by decide)]
          simp only [stepCopied]
          rw [if_pos (hfig d (by simp))]
        rw [runA_cons s3, runA_cons s4]
        exact ra_cop ds fun x hx => hfig x (by simp [hx])
    · have s3 : step .copy 0 c = some (.copied, 0) := by
        simp only [step]
        rw [if_neg (fun z => h9 z.2), if_pos trivial, if_pos (fst_of (hfig c List.mem_cons_self) (by omega))]
      rw [runA_cons s3]
      exact ra_cop cs fun x hx => hfig x (List.mem_cons_of_mem _ hx)
theorem run_text {m : MK} (ok : m.Ok) : ∃ q k, runA .letters 0 (sg m.text) = some (q, k) ∧ fin q k = true := by
  obtain ⟨q1, k1, r1, f1, b1⟩ := run_head ok
  obtain ⟨q2, k2, r2, f2, b2⟩ := run_makers m.mks q1 k1 0 (fun s hs => (ok.ks s hs).1) f1 b1 (by decide) (by have := ok.k; omega)
  obtain ⟨q3, k3, j3, r3, f3, b3⟩ := run_year ok.y f2 b2 (by have := ok.k; omega)
  obtain ⟨q4, k4, r4, f4⟩ := run_copy (fun i hi => (ok.c i hi).1) f3 b3
  refine ⟨q4, k4, ?_, f4⟩
  rw [text_sg, List.map_append, List.map_append, List.flatten_append, List.flatten_append, runA_then r1, List.append_assoc, runA_then r2, runA_then r3, r4]

/-! ### texts cut at one sign -/
section
open PySem.Builtin.Str PySem.StrLaws
def posn (c : Nat) (cs : List Nat) (a n : Nat) : List Nat := (List.range' a n).filter fun i => decide (cs[i]? = some c)
theorem occ_go (x : Str) (c L : Nat) : ∀ (n a : Nat) (arr : Array Nat) (free : Nat), free ≤ a → (forIn (List.range' a n) (arr, free) (occBody x ⟨#[c]⟩ x.length L)).run.fst.toList = arr.toList ++ (posn c (sg x) a n).take (L - arr.size)
  | 0, a, arr, free, _ => by simp [posn]
  | n + 1, a, arr, free, hf => by
    rw [List.range'_succ, List.forIn_cons]
    have hone := subAt_one x c a
    unfold posn
    rw [List.range'_succ]
    by_cases hc : (sg x)[a]? = some c
    · obtain ⟨h1, h2⟩ := hone.mpr hc
      rw [List.filter_cons_of_pos (by simpa using hc)]
      by_cases hL : arr.size < L
      · unfold occBody
        rw [if_pos ⟨⟨⟨hL, hf⟩, h1⟩, h2⟩]
        have ih := occ_go x c L n (a + 1) (arr.push a) (a + (⟨#[c]⟩ : Str).length) (Nat.le_refl _)
        have e : L - arr.size = (L - (arr.push a).size) + 1 := by rw [Array.size_push]; omega
        rw [e, List.take_succ_cons]
        refine ih.trans ?_
        rw [Array.toList_push, List.append_assoc]
        rfl
      · unfold occBody
        rw [if_neg (fun z => hL z.1.1.1)]
        have ih := occ_go x c L n (a + 1) arr free (by omega)
        refine ih.trans ?_
        rw [show L - arr.size = 0 by omega, List.take_zero, List.take_zero]
    · rw [List.filter_cons_of_neg (by simpa using hc)]
      unfold occBody
      rw [if_neg (fun z => hc (hone.mp ⟨z.1.2, z.2⟩))]
      exact occ_go x c L n (a + 1) arr free (by omega)
theorem occ_one (x : Str) (c L : Nat) : occurrences x ⟨#[c]⟩ 0 x.length L = (posn c (sg x) 0 (x.length + 1)).take L := by
  rw [occ_eq, occ_go x c L _ 0 #[] 0 (Nat.le_refl _)]
  simp
theorem posn_mem {c : Nat} {cs : List Nat} {a n i : Nat} : i ∈ posn c cs a n ↔ (a ≤ i ∧ i < a + n) ∧ cs[i]? = some c := by
  unfold posn
  rw [List.mem_filter, List.mem_range'_1, decide_eq_true_eq]
theorem posn_lt (c : Nat) (cs : List Nat) (a n : Nat) : (posn c cs a n).Pairwise (· < ·) := (List.pairwise_lt_range' (s := a) (n := n)).filter _
theorem posn_len (c : Nat) (cs : List Nat) (a n : Nat) : (posn c cs a n).length ≤ n := by
  have := List.length_filter_le (fun i => decide (cs[i]? = some c)) (List.range' a n)
  rw [List.length_range'] at this
  exact this
theorem sg_sub (x : Str) (a b : Nat) : sg (strSub x a b) = ((sg x).take b).drop a := by
  show (Array.extract _ _ _).toList = _
  rw [Array.toList_extract, List.extract_eq_take_drop, List.drop_take]
/-- no part between the cuts has the sign -/
theorem part_free {x : Str} {c : Nat} : ∀ w ∈ partsBetween x (posn c (sg x) 0 (x.length + 1)) 1, c ∉ sg w := by
  intro w hw hc
  unfold partsBetween at hw
  obtain ⟨⟨i, j⟩, hz, rfl⟩ := List.mem_map.mp hw
  obtain ⟨k, hk⟩ := List.mem_iff_getElem?.mp hz
  have hl := posn_lt c (sg x) 0 (x.length + 1)
  have hmem : ∀ t, t ∈ posn c (sg x) 0 (x.length + 1) ↔ (0 ≤ t ∧ t < 0 + (x.length + 1)) ∧ (sg x)[t]? = some c := fun t => posn_mem
  generalize posn c (sg x) 0 (x.length + 1) = cuts at hk hl hmem
  rw [List.getElem?_zip_eq_some] at hk
  obtain ⟨k1, k2⟩ := hk
  rw [sg_sub] at hc
  obtain ⟨t, ht⟩ := List.mem_iff_getElem?.mp hc
  rw [List.getElem?_drop, List.getElem?_take] at ht
  split at ht
  · rename_i hlt
    have hin : i + t ∈ cuts := (hmem _).mpr ⟨⟨Nat.zero_le _, by
      have := (List.getElem?_eq_some_iff.mp ht).1
      rw [sg_len] at this
      omega⟩, ht⟩
    obtain ⟨u, hu⟩ := List.mem_iff_getElem?.mp hin
    have hul := (List.getElem?_eq_some_iff.mp hu).1
    have hord : ∀ a b va vb, cuts[a]? = some va → cuts[b]? = some vb → a < b → va < vb := fun a b va vb ha hb hab => by
      obtain ⟨la, ea⟩ := List.getElem?_eq_some_iff.mp ha
      obtain ⟨lb, eb⟩ := List.getElem?_eq_some_iff.mp hb
      have := List.pairwise_iff_getElem.mp hl a b la lb hab
      omega
    rcases Nat.lt_or_ge u k with h | h
    · -- start is behind the cut k - 1
      obtain ⟨k', rfl⟩ : ∃ k', k = k' + 1 := ⟨k - 1, by omega⟩
      rw [List.getElem?_cons_succ, List.getElem?_map] at k1
      cases e : cuts[k']? with
      | none => rw [e] at k1; cases k1
      | some v =>
        rw [e] at k1
        have ei : v + 1 = i := by simpa using k1
        rcases Nat.lt_or_ge u k' with h2 | h2
        · have := hord u k' _ _ hu e h2
          omega
        · have : u = k' := by omega
          rw [this, e] at hu
          have := Option.some.inj hu
          omega
    · have hkl : k < cuts.length := by omega
      rw [List.getElem?_append_left hkl] at k2
      rcases Nat.lt_or_ge k u with h2 | h2
      · have := hord k u _ _ k2 hu h2
        omega
      · have : u = k := by omega
        rw [this, k2] at hu
        have := Option.some.inj hu
        omega
  · cases ht
theorem app_uniq {c : Nat} : ∀ {as bs xs ys : List Nat}, c ∉ as → c ∉ bs → (xs = [] ∨ ∃ r, xs = c :: r) → (ys = [] ∨ ∃ r, ys = c :: r) → as ++ xs = bs ++ ys → as = bs ∧ xs = ys
  | [], [], xs, ys, _, _, _, _, h => ⟨rfl, h⟩
  | [], b :: bs, xs, ys, _, hb, hx, _, h => by
    rcases hx with rfl | ⟨r, rfl⟩
    · cases h
    · rw [List.nil_append, List.cons_append] at h
      have := (List.cons.inj h).1
      subst this
      exact (hb List.mem_cons_self).elim
  | a :: as, [], xs, ys, ha, _, _, hy, h => by
    rcases hy with rfl | ⟨r, rfl⟩
    · cases h
    · rw [List.nil_append, List.cons_append] at h
      have := (List.cons.inj h).1
      subst this
      exact (ha List.mem_cons_self).elim
  | a :: as, b :: bs, xs, ys, ha, hb, hx, hy, h => by
    rw [List.cons_append, List.cons_append] at h
    obtain ⟨h1, h2⟩ := List.cons.inj h
    obtain ⟨h3, h4⟩ := app_uniq (fun z => ha (List.mem_cons_of_mem _ z)) (fun z => hb (List.mem_cons_of_mem _ z)) hx hy h2
    exact ⟨by rw [h1, h3], h4⟩
theorem flat_blank : ∀ ws : List Str, (ws.map fun x => 32 :: sg x).flatten = [] ∨ ∃ r, (ws.map fun x => 32 :: sg x).flatten = 32 :: r
  | [] => .inl rfl
  | w :: ws => .inr ⟨_, rfl⟩
theorem flat_uniq : ∀ {ws vs : List Str}, (∀ w ∈ ws, 32 ∉ sg w) → (∀ w ∈ vs, 32 ∉ sg w) → (ws.map fun x => 32 :: sg x).flatten = (vs.map fun x => 32 :: sg x).flatten → ws = vs
  | [], [], _, _, _ => rfl
  | [], v :: vs, _, _, h => by cases h
  | w :: ws, [], _, _, h => by cases h
  | w :: ws, v :: vs, hw, hv, h => by
    rw [List.map_cons, List.map_cons, List.flatten_cons, List.flatten_cons, List.cons_append, List.cons_append] at h
    obtain ⟨h1, h2⟩ := app_uniq (hw w List.mem_cons_self) (hv v List.mem_cons_self) (flat_blank ws) (flat_blank vs) (List.cons.inj h).2
    rw [str_ext h1, flat_uniq (fun x hx => hw x (List.mem_cons_of_mem _ hx)) (fun x hx => hv x (List.mem_cons_of_mem _ hx)) h2]
theorem join_uniq {w v : Str} {ws vs : List Str} (hw : ∀ x ∈ w :: ws, 32 ∉ sg x) (hv : ∀ x ∈ v :: vs, 32 ∉ sg x) (h : Str.join " " (w :: ws) = Str.join " " (v :: vs)) : w :: ws = v :: vs := by
  have h' := congrArg sg h
  rw [join_blank, join_blank] at h'
  obtain ⟨h1, h2⟩ := app_uniq (hw w List.mem_cons_self) (hv v List.mem_cons_self) (flat_blank ws) (flat_blank vs) h'
  rw [str_ext h1, flat_uniq (fun x hx => hw x (List.mem_cons_of_mem _ hx)) (fun x hx => hv x (List.mem_cons_of_mem _ hx)) h2]
/-- a joined text, split -/
theorem split_join {w : Str} {ws : List Str} (hw : ∀ x ∈ w :: ws, 32 ∉ sg x) : Txt.split (Str.join " " (w :: ws)) " " = w :: ws := by
  generalize hx : Str.join " " (w :: ws) = x
  have hb : (" " : Str) = ⟨#[32]⟩ := by decide +kernel
  have hp : (posn 32 (sg x) 0 (x.length + 1)).take (x.length + 1) = posn 32 (sg x) 0 (x.length + 1) := List.take_of_length_le (posn_len ..)
  have hall : Txt.split x " " = partsBetween x (posn 32 (sg x) 0 (x.length + 1)) 1 := by
    unfold Txt.split
    rw [hb, occ_one, hp]
    by_cases h0 : posn 32 (sg x) 0 (x.length + 1) = []
    · rw [h0]
      have e : partsBetween x [] 1 = [x] := by
        unfold partsBetween
        show [strSub x 0 x.length] = [x]
        rw [show strSub x 0 x.length = x from str_ext (by rw [sg_sub, List.drop_zero, ← sg_len, List.take_length])]
      rw [e]
      split <;> rfl
    · have hne : (posn 32 (sg x) 0 (x.length + 1)).isEmpty = false := by
        cases hq : posn 32 (sg x) 0 (x.length + 1) with
        | nil => exact (h0 hq).elim
        | cons => rfl
      have hk : (decide (x.length < (⟨#[32]⟩ : Str).length) || decide (Builtin.Str.strKind x < Builtin.Str.strKind ⟨#[32]⟩)) = false := by
        obtain ⟨i, hi⟩ := List.exists_mem_of_ne_nil _ h0
        have h2 := (posn_mem.mp hi).2
        have h3 := (List.getElem?_eq_some_iff.mp h2).1
        rw [sg_len] at h3
        have h4 : 1 ≤ Builtin.Str.strKind x := by unfold Builtin.Str.strKind; split; exact Nat.le_refl _; split <;> decide
        have h5 : Builtin.Str.strKind ⟨#[32]⟩ = 1 := by decide +kernel
        have h6 : (⟨#[32]⟩ : Str).length = 1 := rfl
        rw [h5, h6, decide_eq_false (by omega), decide_eq_false (by omega)]
        rfl
      rw [hk, hne]
      rfl
  rw [hall]
  have hg := glued_between_self x ⟨#[32]⟩ (x.length + 1)
  rw [occ_one, hp] at hg
  have hl1 : (⟨#[32]⟩ : Str).length = 1 := rfl
  rw [hl1, StrLaws.glued_eq_join, ← hb] at hg
  have hfree := @part_free x 32
  cases hq : partsBetween x (posn 32 (sg x) 0 (x.length + 1)) 1 with
  | nil =>
    have := length_partsBetween x (posn 32 (sg x) 0 (x.length + 1)) 1
    rw [hq] at this
    simp at this
  | cons v vs =>
    rw [hq] at hg hfree
    exact join_uniq hfree hw (hg.trans hx.symm)
end

/-! ### the words of a mark's text -/
section
open PySem.Builtin.Str PySem.StrLaws
theorem part_dot {a b : Str} (ha : 46 ∉ sg a) (hb : b = ("" : Str) ∨ ∃ p : Str, sg b = 46 :: sg p) : (Txt.partition (a ++ b) ".").1 = a ∧ sg (Txt.partition (a ++ b) ".").2.2 = (sg b).drop 1 := by
  have hd : ("." : Str) = ⟨#[46]⟩ := by decide +kernel
  unfold Txt.partition
  rw [hd, occ_one]
  have hsg : sg (a ++ b) = sg a ++ sg b := sg_app a b
  have hno : ∀ i, i < (sg a).length → (sg (a ++ b))[i]? ≠ some 46 := fun i hi z => by
    rw [hsg, List.getElem?_append_left hi] at z
    exact ha (List.mem_iff_getElem?.mpr ⟨i, z⟩)
  rcases hb with rfl | ⟨p, hp⟩
  · have h0 : posn 46 (sg (a ++ ("" : Str))) 0 ((a ++ ("" : Str)).length + 1) = [] := by
      rw [List.eq_nil_iff_forall_not_mem]
      intro i hi
      have h2 := (posn_mem.mp hi).2
      have h3 := (List.getElem?_eq_some_iff.mp h2).1
      refine hno i ?_ h2
      rw [hsg, sg_e, List.append_nil] at h3
      exact h3
    rw [h0]
    refine ⟨?_, ?_⟩
    · show a ++ ("" : Str) = a
      exact str_ext (by rw [sg_app, sg_e, List.append_nil])
    · rw [sg_e]; rfl
  · have hat : (sg (a ++ b))[(sg a).length]? = some 46 := by
      rw [hsg, List.getElem?_append_right (Nat.le_refl _), Nat.sub_self, hp]
      rfl
    have hlen : (sg (a ++ b)).length = (a ++ b).length := sg_len _
    have hin : (sg a).length ∈ posn 46 (sg (a ++ b)) 0 ((a ++ b).length + 1) := posn_mem.mpr ⟨⟨Nat.zero_le _, by
      have := (List.getElem?_eq_some_iff.mp hat).1
      omega⟩, hat⟩
    have hpw := posn_lt 46 (sg (a ++ b)) 0 ((a ++ b).length + 1)
    cases hq : posn 46 (sg (a ++ b)) 0 ((a ++ b).length + 1) with
    | nil => rw [hq] at hin; cases hin
    | cons i rest =>
      have hi := (posn_mem.mp (show i ∈ posn 46 (sg (a ++ b)) 0 ((a ++ b).length + 1) by rw [hq]; exact List.mem_cons_self)).2
      have h1 : ¬ i < (sg a).length := fun z => hno i z hi
      rw [hq] at hin hpw
      have h2 : i ≤ (sg a).length := by
        rcases List.mem_cons.mp hin with h | h
        · omega
        · have := (List.pairwise_cons.mp hpw).1 _ h
          omega
      have h3 : i = (sg a).length := by omega
      subst h3
      rw [List.take_succ_cons]
      refine ⟨?_, ?_⟩
      · show strSub (a ++ b) 0 (sg a).length = a
        exact str_ext (by rw [sg_sub, List.drop_zero, hsg, List.take_left])
      · show sg (strSub (a ++ b) ((sg a).length + 1) (a ++ b).length) = _
        rw [sg_sub, ← hlen, List.take_length, hsg, List.drop_append, List.drop_of_length_le (by omega), List.nil_append, Nat.add_sub_cancel_left]
theorem rstrip_figs {a b : Str} (ha : ∀ c ∈ sg a, c ∉ sg sFIG) (hb : ∀ c ∈ sg b, c ∈ sg sFIG) : Txt.rstripChars (a ++ b) sFIG = a := by
  refine str_ext ?_
  show sg (Txt.stripBy _ false true (a ++ b)) = _
  rw [PyProof.Rows.stripBy_eq, sg_sub]
  simp only [stripLo, stripHi, if_true, Bool.false_eq_true, if_false, List.drop_zero]
  have hsg : sg (a ++ b) = sg a ++ sg b := sg_app a b
  have hl : (a ++ b).length = (sg a).length + (sg b).length := by rw [← sg_len, hsg, List.length_append]
  have ht : ((a ++ b).cps.toList.reverse.takeWhile sFIG.cps.contains).length = (sg b).length := by
    rw [show (a ++ b).cps.toList = sg a ++ sg b from hsg, List.reverse_append, List.takeWhile_append_of_pos (fun c hc => by have := hb c (List.mem_reverse.mp hc); simpa using this)]
    rw [List.length_append, List.length_reverse]
    cases hr : (sg a).reverse with
    | nil => simp
    | cons c cs =>
      have hc : c ∈ sg a := by rw [← List.mem_reverse, hr]; exact List.mem_cons_self
      rw [List.takeWhile_cons_of_neg (by have := ha c hc; simpa using this)]
      simp
  rw [ht, hl, Nat.add_sub_cancel, hsg, List.take_left]
end
abbrev MK.ln (m : MK) : Str := m.lt ++ ((toString m.num : String) : Str)
theorem lets_abc {m : MK} (ok : m.Ok) : ∀ c ∈ sg m.lt, c ∈ sg sABC := by
  have hl := ok.l
  unfold lettersOk at hl
  rw [Bool.and_eq_true, allIn_iff] at hl
  exact hl.2
theorem num_figs {m : MK} (ok : m.Ok) : ∀ c ∈ sg (toString m.num : String), c ∈ sg sFIG := num_fig (by have := ok.n.1; omega)
theorem head_split (m : MK) : ∃ b : Str, m.head = m.ln ++ b ∧ (b = ("" : Str) ∨ ∃ p : Str, sg b = 46 :: sg p) ∧ (sg b).drop 1 = sg m.pts := by
  by_cases h : m.pts = ("" : Str)
  · refine ⟨"", str_ext ?_, .inl rfl, ?_⟩
    · rw [head_sg, if_pos h, sg_app, sg_app, sg_e, List.append_nil, List.append_nil]
    · rw [h, sg_e]; rfl
  · refine ⟨"." ++ m.pts, str_ext ?_, .inr ⟨m.pts, ?_⟩, ?_⟩
    · rw [head_sg, if_neg h, sg_app, sg_app, sg_app, List.append_assoc]; rfl
    · rw [sg_app]; rfl
    · rw [sg_app]; rfl
theorem ln_nodot {m : MK} (ok : m.Ok) : 46 ∉ sg m.ln := fun h => by
  rw [sg_app] at h
  rcases List.mem_append.mp h with h | h
  · exact (abc_sign (lets_abc ok _ h)).2 rfl
  · exact (fig_sign (num_figs ok _ h)).2.1 rfl
theorem part_head {m : MK} (ok : m.Ok) : (Txt.partition m.head ".").1 = m.ln ∧ (Txt.partition m.head ".").2.2 = m.pts := by
  obtain ⟨b, e, hb, hd⟩ := head_split m
  obtain ⟨h1, h2⟩ := part_dot (ln_nodot ok) hb
  rw [e]
  exact ⟨h1, str_ext (h2.trans hd)⟩
theorem rstrip_ln {m : MK} (ok : m.Ok) : Txt.rstripChars m.ln sFIG = m.lt :=
  rstrip_figs (fun c hc hf => abc_fig hf (lets_abc ok c hc)) (num_figs ok)
theorem cut_ln (m : MK) : cutS m.ln (some ((m.lt.length : Nat) : Int)) none = ((toString m.num : String) : Str) :=
  str_ext (by rw [sg_from, sg_app, ← sg_len, List.drop_left])
theorem int_num {i : Int} (h0 : 0 ≤ i) (h : i.natAbs.log2 < 1920) : PySem.intText? ((toString i : String) : Str) = some i ∧ ((toString i : String) : Str).length ≤ 640 := by
  obtain ⟨n, rfl⟩ : ∃ n : Nat, i = (n : Int) := ⟨i.toNat, by omega⟩
  have hn : n < 2 ^ 1920 := by
    by_cases h9 : n = 0
    · subst h9; decide +kernel
    · exact (Nat.log2_lt h9).mp h
  have hl := dig_len 639 n (Nat.lt_of_lt_of_le hn (by decide +kernel))
  have hlen : (sg (toString ((n : Nat) : Int) : String)).length ≤ 640 := by rw [dig_sg, List.length_map]; exact hl
  have hne : sg (toString ((n : Nat) : Int) : String) ≠ [] := by
    rw [dig_sg]
    intro z
    have := List.map_eq_nil_iff.mp z
    exact absurd this Nat.toDigits_ne_nil
  rw [sg_len] at hlen
  refine ⟨?_, hlen⟩
  rw [intText_fig (num_fig (by omega)) hne hlen, dig_sg, PySem.W.KIN.val_back]
theorem words_free {m : MK} (ok : m.Ok) : ∀ x ∈ m.head :: (m.mks ++ yrL m.yr ++ cpL m.cp), 32 ∉ sg x := by
  intro x hx h
  rcases List.mem_cons.mp hx with rfl | hx
  · rw [head_sg] at h
    rcases List.mem_append.mp h with h | h
    · exact (abc_sign (lets_abc ok _ h)).1 rfl
    · rcases List.mem_append.mp h with h | h
      · exact (fig_sign (num_figs ok _ h)).1 rfl
      · split at h
        · cases h
        · rcases List.mem_cons.mp h with h | h
          · exact absurd h (by decide)
          · exact (fig_sign (points_fig ok.p _ h)).1 rfl
  · rcases List.mem_append.mp hx with hx | hx
    · rcases List.mem_append.mp hx with hx | hx
      · obtain ⟨h1, a, ha, hab⟩ := maker_tail (ok.ks x hx).1
        have hf := ended_fig h1
        cases hs : sg x with
        | nil => rw [hs] at h; cases h
        | cons y ys =>
          rw [hs] at h ha
          cases ha
          rcases List.mem_cons.mp h with h | h
          · exact (abc_sign hab).1 h.symm
          · exact (fig_sign (hf 32 (by rw [sg_cutFrom1, hs]; exact h))).1 rfl
      · cases hy : m.yr with
        | none => rw [hy] at hx; cases hx
        | some y =>
          rw [hy] at hx
          have := List.mem_singleton.mp hx
          subst this
          exact (fig_sign (num_fig (by have := ok.y y hy; omega) _ h)).1 rfl
    · cases hy : m.cp with
      | none => rw [hy] at hx; cases hx
      | some y =>
        rw [hy] at hx
        have := List.mem_singleton.mp hx
        subst this
        have e0 : sg (([("c." : Str), ((toString y : String) : Str)]).foldl (· ++ ·) Str.empty) = 99 :: 46 :: sg (toString y : String) := by
          simp only [List.foldl_cons, List.foldl_nil, sg_app, sg_e2, List.nil_append]
          rfl
        rw [e0] at h
        rcases List.mem_cons.mp h with h | h
        · exact absurd h (by decide)
        · rcases List.mem_cons.mp h with h | h
          · exact absurd h (by decide)
          · exact (fig_sign (num_fig (by have := (ok.c y hy).1; omega) _ h)).1 rfl
theorem split_text {m : MK} (ok : m.Ok) : Txt.split m.text " " = m.head :: (m.mks ++ yrL m.yr ++ cpL m.cp) := by
  have e : m.text = Str.join " " (m.head :: (m.mks ++ yrL m.yr ++ cpL m.cp)) := by
    unfold MK.text Txt.join
    rw [StrLaws.glued_eq_join, words_eq]
  rw [e]
  exact split_join (words_free ok)

/-! ### what is asked of a text -/
section
variable {K : PySem.W.Frag} {C : Addr} {σ : L2.St} {H : Hp} {Φ : List (V × W)} {mt : List (Addr × (HO → Prop))} {Q : VK} {E : XK} {t : Str} {r : Addr} {p : Plc} {k : Int} {m : MK}
theorem use_walked (s : S K C H Φ mt) (h1 : t.length ≤ 90000) (k : ∀ r H', S K C H' ((.ref r, .t [.i ((runF .letters 0 (sg t)).1 : Int), .t [.s (runF .letters 0 (sg t)).2.1.str, .i (runF .letters 0 (sg t)).2.2]]) :: Φ) mt → Q (.ref r) H') : spWalked K C [.str t] H Q E := ⟨t, Φ, mt, rfl, h1, s, k⟩
def spBegins (K : PySem.W.Frag) (C : Addr) : Sp := fun vs H Q _ => ∃ (t : Str) (Φ : List (V × W)) (mt : List (Addr × (HO → Prop))), vs = [.str t] ∧ t.length ≤ 90000 ∧ S K C H Φ mt ∧ ∀ H', S K C H' Φ mt → Q (.bl (decide ((runF .letters 0 (sg t)).1 = t.length))) H'
theorem use_begins (s : S K C H Φ mt) (h1 : t.length ≤ 90000) (k : ∀ H', S K C H' Φ mt → Q (.bl (decide ((runF .letters 0 (sg t)).1 = t.length))) H') : spBegins K C [.str t] H Q E := ⟨t, Φ, mt, rfl, h1, s, k⟩
/-- the signs that are lacking: none where a mark may end -/
def spEnding (K : PySem.W.Frag) (C : Addr) : Sp := fun vs H Q _ => ∃ (r : Addr) (p : Plc) (k : Int) (Φ : List (V × W)) (mt : List (Addr × (HO → Prop))), vs = [.ref r] ∧ (.ref r, .t [.s p.str, .i k]) ∈ Φ ∧ fin p k = true ∧ S K C H Φ mt ∧ ∀ H', S K C H' Φ mt → Q (.str "") H'
theorem use_ending (s : S K C H Φ mt) (h : (.ref r, .t [.s p.str, .i k]) ∈ Φ) (hf : fin p k = true) (q : ∀ H', S K C H' Φ mt → Q (.str "") H') : spEnding K C [.ref r] H Q E := ⟨r, p, k, Φ, mt, rfl, h, hf, s, q⟩
theorem mul_ok {n : Int} (h1 : n ≤ 1000) (h2 : -100000 ≤ n) (hz : n < 1 ∨ t.length ≤ 1000) : PySem.MulOk t n := by
  refine ⟨?_, fun h _ => ?_, fun h _ => ?_⟩
  · rw [decide_eq_false (show ¬ n < -(2 ^ 63 : Int) by omega), decide_eq_false (show ¬ n ≥ 2 ^ 63 by omega)]
    rfl
  · have hl : t.length ≤ 1000 := hz.resolve_left h
    intro hc
    have h3 : (t.length : Int) * n ≤ 1000 * 1000 := Int.mul_le_mul (by omega) h1 (by omega) (by decide)
    have h4 : (t.length : Int) ≤ (2 ^ 63 - 1) / n := (Int.le_ediv_iff_mul_le (by omega)).mpr (by omega)
    omega
  · have hl : t.length ≤ 1000 := hz.resolve_left h
    have h3 : t.length * n.toNat ≤ 1000 * 1000 := Nat.mul_le_mul hl (by omega)
    exact decide_eq_false (by rw [sizeLine_eq]; omega)
theorem g_repS {n : Int} (h1 : n < 1) (h2 : -100000 ≤ n) (q : Q (.str "") H) : qRepS (.str t) (.int n) H Q := ⟨t, n, rfl, rfl, mul_ok (by omega) h2 (.inl h1), by
  have e : PySem.Txt.mul t n = Str.ofString "" := by unfold PySem.Txt.mul; rw [if_pos h1]; decide +kernel
  rw [e]; exact q⟩
theorem g_repSn {n : Int} (h1 : n ≤ 1000) (h2 : -100000 ≤ n) (hz : t.length ≤ 1000) (q : Q (.str (PySem.Txt.mul t n)) H) : qRepS (.str t) (.int n) H Q := ⟨t, n, rfl, rfl, mul_ok h1 h2 (.inr hz), q⟩
abbrev MK.keyW (m : MK) : W := .t [.s m.lt, .i m.num, .s m.pts, .t (m.mks.map W.s), .i (m.yr.getD 0), .i (m.cp.getD 0)]
def spKW (K : PySem.W.Frag) (C : Addr) : Sp := fun vs H Q _ => ∃ (m : MK) (Φ : List (V × W)) (mt : List (Addr × (HO → Prop))), vs = [.str m.text] ∧ m.Ok ∧ m.text.length ≤ 90000 ∧ S K C H Φ mt ∧ ∀ r H', S K C H' ((.ref r, m.keyW) :: Φ) mt → Q (.ref r) H'
def spMofK (K : PySem.W.Frag) (C : Addr) : Sp := fun vs H Q _ => ∃ (r : Addr) (m : MK) (Φ : List (V × W)) (mt : List (Addr × (HO → Prop))), vs = [.ref r] ∧ (.ref r, m.keyW) ∈ Φ ∧ m.Ok ∧ S K C H Φ mt ∧ ∀ x H', S K C H' ((.ref x, .m m) :: Φ) mt → Q (.ref x) H'
theorem g_splitQ {a b : Str} (s : S K C H Φ mt) (hz : a.length ≤ 90000) (hb : (b.length == 0) = false) (q : ∀ p H', S K C H' ((.ref p, .l ((Txt.split a b).map W.s)) :: Φ) mt → Q (.ref p) H') : qSplit (.str a) [.str b] H Q :=
  ⟨a, b, rfl, rfl, hb, by rw [sizeLine_eq]; omega, fun p hp => q p _ (s.addL hp (Ex.new hp) upd_same (.is _ V.str W.s fun x _ => .s x))⟩
theorem g_prt {a b : Str} (s : S K C H Φ mt) (hz : a.length ≤ 90000) (hb : (b.length == 0) = false) (q : ∀ p H', S K C H' ((.ref p, .t [.s (Txt.partition a b).1, .s (Txt.partition a b).2.1, .s (Txt.partition a b).2.2]) :: Φ) mt → Q (.ref p) H') : qPart (.str a) [.str b] H Q :=
  ⟨a, b, rfl, rfl, hb, sz_of (by omega), fun p hp => q p _ (s.addT hp (Ex.new hp) upd_same (.cons (.s _) (.cons (.s _) (.cons (.s _) .nil))))⟩
theorem wl_len {m : MK} (ok : m.Ok) : (m.mks ++ yrL m.yr ++ cpL m.cp).length ≤ 5 := by
  have := ok.k
  cases m.yr <;> cases m.cp <;> simp only [yrL, cpL, List.length_append, List.length_cons, List.length_nil] <;> omega
theorem word_kind {m : MK} {j : Nat} {x : Str} (h : (m.mks ++ yrL m.yr ++ cpL m.cp)[j]? = some x) :
    (j < m.mks.length ∧ m.mks[j]? = some x) ∨ (j = m.mks.length ∧ ∃ y, m.yr = some y ∧ x = ((toString y : String) : Str)) ∨ (∃ c, m.cp = some c ∧ j = m.mks.length + (yrL m.yr).length ∧ sg x = 99 :: 46 :: sg (toString c : String)) := by
  rw [List.append_assoc] at h
  by_cases h1 : j < m.mks.length
  · rw [List.getElem?_append_left h1] at h
    exact .inl ⟨h1, h⟩
  · rw [List.getElem?_append_right (by omega)] at h
    by_cases h2 : j - m.mks.length < (yrL m.yr).length
    · rw [List.getElem?_append_left h2] at h
      refine .inr (.inl ?_)
      cases hy : m.yr with
      | none => rw [hy] at h2; exact absurd h2 (by simp [yrL])
      | some y =>
        rw [hy] at h h2
        have h3 : j - m.mks.length = 0 := by simp only [yrL, List.length_cons, List.length_nil] at h2; omega
        rw [h3] at h
        exact ⟨by omega, y, rfl, (Option.some.inj h).symm⟩
    · rw [List.getElem?_append_right (by omega)] at h
      refine .inr (.inr ?_)
      cases hc : m.cp with
      | none => rw [hc] at h; cases h
      | some c =>
        rw [hc] at h
        have h4 := (List.getElem?_eq_some_iff.mp h).1
        have h3 : j - m.mks.length - (yrL m.yr).length = 0 := by simp only [cpL, List.length_cons, List.length_nil] at h4; omega
        rw [h3] at h
        refine ⟨c, rfl, by omega, ?_⟩
        have := Option.some.inj h
        rw [← this]
        show sg (Str.empty ++ ("c." : Str) ++ ((toString c : String) : Str)) = _
        rw [sg_app, sg_app, show sg ("c." : Str) = [99, 46] by decide +kernel, sg_e2]
        rfl
theorem maker_signs {s : Str} (h : makerOk s = true) : ∃ a b cs, sg s = a :: b :: cs ∧ (a ∉ sg sFIG) ∧ b ≠ 46 := by
  obtain ⟨h1, a, ha, hab⟩ := maker_tail h
  obtain ⟨fs, d, e1, e2, e3, e4⟩ := ended_sg h1
  rw [sg_cutFrom1] at e1
  have e5 : sg s = a :: (fs ++ [d]) := by
    cases hs : sg s with
    | nil => rw [hs] at ha; cases ha
    | cons x xs => rw [hs] at ha e1; cases ha; rw [← e1]; rfl
  have na : a ∉ sg sFIG := fun h => abc_fig h hab
  cases fs with
  | nil => exact ⟨a, d, [], e5, na, (fig_sign e3).2.1⟩
  | cons f fs => exact ⟨a, f, fs ++ [d], e5, na, (fig_sign (e2 f List.mem_cons_self)).2.1⟩
def OrN (K : PySem.W.Frag) (tb : TE) (σ : L2.St) (Q : VK) (x : V) (H2 : Hp) : Prop := ∃ b, TruV K x H2 b ∧ if b = true then Q x H2 else tb σ H2 Q
theorem g_orN {ta tb : TE} (h : ta σ H fun x H2 => OrN K tb σ Q x H2) : tOrT K ta tb σ H Q := h
instance {ta tb : TE} : St1 (tOrT K ta tb σ H Q) (ta σ H fun x H2 => OrN K tb σ Q x H2) := ⟨g_orN⟩
theorem g_orNon {o : Option Int} (h : ∀ i, o = some i → i ≠ 0) (q : Q (oi o) H) : OrN K (tC .non) σ Q (.int (o.getD 0)) H := by
  cases o with
  | none => exact ⟨false, rfl, q⟩
  | some i => exact ⟨true, by show true = (i != 0); have := h i rfl; simp [this], q⟩
theorem g_tupStar {p : Addr} {w : Str} {ws : List Str} {tt : TGs} {N : L2.St → Hp → Prop} (s : S K C H Φ mt) (h : (.ref p, .l ((w :: ws).map W.s)) ∈ Φ) (hz : ws.length ≤ 15000) (q : ∀ d H', S K C H' ((.ref d, .l (ws.map W.s)) :: Φ) mt → tt [.str w, .ref d] σ H' N) : gTupStar K 2 tt (.ref p) σ H N := by
  cases s.rep (.f h) with
  | l hq hr =>
    have e := rep_strs hr
    subst e
    exact ⟨p, _, rfl, sq_of hq, by simp, by simp; omega, by decide, fun d hd => q d _ (s.addL hd (Ex.new hd) upd_same (.is ws V.str W.s fun x _ => .s x))⟩
end
local macro_rules | `(tactic| kt_len) => `(tactic| with_reducible first
  | (apply use_walked; (focus (assumption)); (focus (kcf_m)); intro _ _ _)
  | (apply use_ending; (focus (assumption)); (focus (tb_rel)); (focus (assumption)); intro _ _))
local macro_rules | `(tactic| kt_at_get) => `(tactic| with_reducible first
  | refine st_go ?_
  | (apply g_repS; (focus (omega)); (focus (omega)))
  | (apply g_prt; (focus (assumption)); (focus (omega)); (focus (decide +kernel)); intro _ _ _))
section
variable {P : Program} {w : World} {K : PySem.W.Frag} {mg : Str → Option Value} {base : Heap} {Z : Adr} {C : Addr}
theorem ok_key_written (T : Txt K mg Z) : FnOk P w K mg base CX0 1 Z.a_key_written Z.d_key_written ["text"] (spKW K Z.C_Mark) := by
  refine T.F_key_written.ok sc_key_written (fun vs H Q E h => ?_) (fun cdv A outer s H vs Q E hr h => ?_)
  · obtain ⟨_, _, _, rfl, _⟩ := h; rfl
  · obtain ⟨m, Φ, mt, rfl, ok, hz, s, kk⟩ := h
    refine ⟨_, (pss_cons (ps_asg (bmK K PySem.F.plainAttrs_str PySem.F.slot_str_split PySem.F.type_str_split mt_splitQ (pv 0) (pa_cons pe_str pa_nil)) (pg_tupStar (n := 2) rfl (pgs_cons (pg_name (i := 1) sc_key_written.nd rfl (.inl rfl)) (pgs_star (pg_name (i := 2) sc_key_written.nd rfl (.inl rfl)) pgs_nil))))
      (pss_cons (ps_asg (partK (pv 1) pe_str) (pg_tup rfl (pgs_cons (pg_name (i := 1) sc_key_written.nd rfl (.inl rfl)) (pgs_cons (pg_name (i := 3) sc_key_written.nd rfl (.inl rfl)) (pgs_cons (pg_name (i := 4) sc_key_written.nd rfl (.inl rfl)) pgs_nil)))))
      (pss_cons (ps_set (i := 5) sc_key_written.nd rfl (.inl rfl) (bmK K PySem.F.plainAttrs_str PySem.F.slot_str_rstrip PySem.F.type_str_rstrip mt_rstripChars (pv 1) (pa_cons (pe_gs rfl T.c_FIGURES) pa_nil)))
      (pss_cons (ps_set (i := 6) sc_key_written.nd rfl (.inl rfl) (peM (pe_lst pa_nil)))
      (pss_cons (ps_set (i := 7) sc_key_written.nd rfl (.inl rfl) pe_int)
      (pss_cons (ps_set (i := 8) sc_key_written.nd rfl (.inl rfl) pe_int)
      (pss_cons (ps_for PassesOwn.never rfl (pi_list (pv 2)) (pg_name (i := 9) sc_key_written.nd rfl (.inl rfl)) (pss_one (ps_if (pt_cmpR op_inq (pe_ix ix_str (pv 9) pe_int (fun _ _ => rfl)) (pe_gs rfl T.c_FIGURES) (by rfl)) (pss_one (ps_set (i := 7) sc_key_written.nd rfl (.inl rfl) (pe_callTy (call_intS) (by rfl) T.n_int (by decide +kernel) (pa_cons (pv 9) pa_nil)))) (pss_one (ps_if (pt_cmpR op_eq (pe_ix ix_str (pv 9) pe_int (fun _ _ => rfl)) pe_str (nomark _)) (pss_one (ps_set (i := 8) sc_key_written.nd rfl (.inl rfl) (pe_callTy (call_intS) (by rfl) T.n_int (by decide +kernel) (pa_cons (pe_slice sl_str (pv 9) (po_some pe_int) po_none) pa_nil)))) (pss_one (ps_expr (bmK K PySem.F.plainAttrs_list PySem.F.slot_list_append PySem.F.type_list_append mt_append (pv 6) (pa_cons (pv 9) pa_nil)))))))))
      (pss_one (ps_ret (pe_tup (pa_cons (pv 5) (pa_cons (pe_callTy (call_intS) (by rfl) T.n_int (by decide +kernel) (pa_cons (pe_slice sl_str (pv 1) (po_some (pe_callB (call_lenS) (by rfl) T.n_len (by decide +kernel) (pa_cons (pv 5) pa_nil))) po_none) pa_nil)) (pa_cons (pv 4) (pa_cons (pe_callTy (tupK K) (by rfl) T.n_tuple (by decide +kernel) (pa_cons (pv 6) pa_nil)) (pa_cons (pv 7) (pa_cons (pv 8) pa_nil)))))))))))))))), ?_⟩
    kxt_pos
    kopn_word
    refine g_splitQ s (by have := text_len ok; omega) (by decide +kernel) fun d H1 s1 => ?_
    rw [split_text ok] at s1
    refine g_tupStar s1 List.mem_cons_self (by have := wl_len ok; omega) fun e H2 s2 => ?_
    refine ⟨_, _, rfl, _, _, rfl, rfl, ?_⟩
    dsimp only [List.set_cons_succ, List.set_cons_zero, List.set]
    have hh := head_len ok
    have hl : (m.lt.length : Int) ≤ 3 := letters_len ok.l
    obtain ⟨e1, e2⟩ := part_head ok
    have e3 : Txt.rstripChars m.ln (Str.ofString "0123456789") = m.lt := rstrip_ln ok
    have e4 : m.ln.length ≤ 90000 := by
      obtain ⟨b, hb, _⟩ := head_split m
      rw [hb, len_app] at hh
      omega
    kopn_word
    refine ⟨_, _, rfl, rfl, by rw [e1]; exact sz_of (by omega), ?_⟩
    rw [e1, e3]
    kopn_word
    rename_i p H3 s3
    rw [e2]
    have hwl := wl_len ok
    refine g_forL (fun j σ' H' => ∃ v3 v9 : Option V, σ' = [some (.str m.text), some (.str m.ln), some (.ref e), v3, some (.str m.pts), some (.str m.lt), some (.ref p), some (.int (if j ≤ m.mks.length then 0 else m.yr.getD 0)), some (.int (if j ≤ m.mks.length + (yrL m.yr).length then 0 else m.cp.getD 0)), v9] ∧ S K Z.C_Mark H' ((.ref e, .l ((m.mks ++ yrL m.yr ++ cpL m.cp).map W.s)) :: Φ) ((p, Eq (.lst ((m.mks.take j).map V.str))) :: mt)) ⟨_, _, by rw [if_pos (Nat.zero_le _), if_pos (Nat.zero_le _)], s3.to (fun q hq => by
      rcases List.mem_cons.mp hq with rfl | hq
      · exact List.mem_cons_of_mem _ List.mem_cons_self
      · exact List.mem_cons_of_mem _ (List.mem_cons_of_mem _ (List.mem_cons_of_mem _ hq))) (List.Sublist.refl _)⟩ (fun j σ' H' g => by obtain ⟨_, _, _, s2⟩ := g; exact ⟨_, _, s2, List.mem_cons_self⟩) (fun j w v σ' H' hj g gr => ?_) (fun σ' H' g => ?_)
    · obtain ⟨v3, v9, rfl, s4⟩ := g
      have s5 := gr _ _ s4 List.mem_cons_self
      rw [List.getElem?_map] at hj
      obtain ⟨x, hx, rfl⟩ := Option.map_eq_some_iff.mp hj
      have ex : v = .str x := by cases s5.rep (.f List.mem_cons_self) with | s => rfl
      subst ex
      rcases word_kind hx with ⟨k1, k2⟩ | ⟨k1, y, k2, k3⟩ | ⟨c, k2, k1, k3⟩
      · obtain ⟨a, b, cs, g1, g2, g3⟩ := maker_signs (ok.ks x (List.mem_of_getElem? k2)).1
        have g4 := (ok.ks x (List.mem_of_getElem? k2)).2
        have g5 : 2 ≤ x.length := by rw [← sg_len, g1]; simp
        have q0 : atI (sg x) 0 = some a := atI_nat (j := 0) (by rw [g1]; rfl)
        have q1 : atI (sg x) 1 = some b := atI_nat (j := 1) (by rw [g1]; rfl)
        rw [if_pos (by omega : j ≤ m.mks.length), if_pos (by omega : j ≤ m.mks.length + (yrL m.yr).length)]
        have z1 : (if j + 1 ≤ m.mks.length then (0 : Int) else m.yr.getD 0) = 0 := if_pos (by omega)
        have z2 : (if j + 1 ≤ m.mks.length + (yrL m.yr).length then (0 : Int) else m.cp.getD 0) = 0 := if_pos (by omega)
        have z3 : m.mks.take (j + 1) = m.mks.take j ++ [x] := by rw [List.take_add_one, k2]; rfl
        kopn_word
        · rename_i c h1 h2 h3
          rw [q0] at h1
          cases h1
          exact absurd h3 g2
        · rename_i c h1 h2 h3 c2 h4 h5 h6
          rw [q1] at h4
          cases h4
          exact absurd (oned.mp h6) g3
        · refine g_appendS s4 List.mem_cons_self (by rw [List.length_take]; have := ok.k; omega) .hd fun H5 s6 => ?_
          rw [← z3] at s6
          exact ⟨_, _, by rw [z1, z2], s6⟩
      · have k4 := ok.y y k2
        have g4 := int_num (i := y) (by omega) (log_s (by omega) (by omega))
        obtain ⟨n, rfl⟩ : ∃ n : Nat, y = (n : Int) := ⟨y.toNat, by omega⟩
        obtain ⟨a, b, c, d, g1, g2⟩ := dig_year (n := n) (by omega) (by omega)
        rw [← dig_sg, ← k3] at g1
        have g5 : x.length = 4 := by rw [← sg_len, g1]; rfl
        have q0 : atI (sg x) 0 = some a := atI_nat (j := 0) (by rw [g1]; rfl)
        have g3 : a ∈ sg sFIG := (by decide +kernel : ∀ c ∈ sg "12", c ∈ sg sFIG) a g2
        rw [if_pos (by omega : j ≤ m.mks.length), if_pos (by omega : j ≤ m.mks.length + (yrL m.yr).length)]
        have z1 : (if j + 1 ≤ m.mks.length then (0 : Int) else m.yr.getD 0) = (n : Int) := by rw [if_neg (by omega), k2]; rfl
        have z2 : (if j + 1 ≤ m.mks.length + (yrL m.yr).length then (0 : Int) else m.cp.getD 0) = 0 := if_pos (by rw [k2]; show j + 1 ≤ m.mks.length + 1; omega)
        have z3 : m.mks.take (j + 1) = m.mks.take j := by rw [List.take_of_length_le (by omega), List.take_of_length_le (by omega)]
        rw [← k3] at g4
        kopn_word
        · refine ⟨_, n, rfl, g4.1, g4.2, ?_⟩
          rw [← z3] at s4
          exact ⟨_, _, by rw [z1, z2]; rfl, s4⟩
        · rename_i c h1 h2 h3 _ _ _ _
          rw [q0] at h1
          cases h1
          exact absurd g3 h3
        · rename_i c h1 h2 h3 _ _ _ _
          rw [q0] at h1
          cases h1
          exact absurd g3 h3
      · have k4 := ok.c c k2
        have g4 := int_num (i := c) (by omega) k4.2
        have g5 : x.length = 2 + (Str.ofString (toString c)).length := by rw [← sg_len, k3, ← sg_len, List.length_cons, List.length_cons]; omega
        have g6 := g4.2
        have q0 : atI (sg x) 0 = some 99 := atI_nat (j := 0) (by rw [k3]; rfl)
        have q1 : atI (sg x) 1 = some 46 := atI_nat (j := 1) (by rw [k3]; rfl)
        have z0 : cutS x (some 2) none = Str.ofString (toString c) := str_ext ((sg_from x 2).trans (by rw [k3]; rfl))
        have z1 : (if j + 1 ≤ m.mks.length then (0 : Int) else m.yr.getD 0) = (if j ≤ m.mks.length then (0 : Int) else m.yr.getD 0) := by
          rw [if_neg (by omega : ¬ j + 1 ≤ m.mks.length)]
          cases hy : m.yr with
          | none => exact (ite_self _).symm
          | some y => rw [hy] at k1; rw [if_neg (by rw [k1]; show ¬ m.mks.length + 1 ≤ _; omega)]
        have z2 : (if j + 1 ≤ m.mks.length + (yrL m.yr).length then (0 : Int) else m.cp.getD 0) = c := by rw [if_neg (by omega), k2]; rfl
        have z3 : m.mks.take (j + 1) = m.mks.take j := by rw [List.take_of_length_le (by omega), List.take_of_length_le (by omega)]
        kopn_word
        · rename_i c h1 h2 h3
          rw [q0] at h1
          cases h1
          exact absurd h3 (by decide +kernel)
        · rw [z0]
          refine ⟨_, c, rfl, g4.1, g4.2, ?_⟩
          rw [← z3] at s4
          exact ⟨_, _, by rw [z1, z2]; rfl, s4⟩
        · rename_i c h1 h2 h3 c2 h4 h5 h6
          rw [q1] at h4
          cases h4
          exact absurd (oned.mpr rfl) h6
    · obtain ⟨v3, v9, rfl, s4⟩ := g
      have zl : ((m.mks ++ yrL m.yr ++ cpL m.cp).map W.s).length = m.mks.length + (yrL m.yr).length + (cpL m.cp).length := by rw [List.length_map, List.length_append, List.length_append]
      rw [zl] at s4 ⊢
      have z1 : (if m.mks.length + (yrL m.yr).length + (cpL m.cp).length ≤ m.mks.length then (0 : Int) else m.yr.getD 0) = m.yr.getD 0 := by
        cases m.yr with
        | none => exact ite_self _
        | some y => exact if_neg (by show ¬ m.mks.length + 1 + _ ≤ _; omega)
      have z2 : (if m.mks.length + (yrL m.yr).length + (cpL m.cp).length ≤ m.mks.length + (yrL m.yr).length then (0 : Int) else m.cp.getD 0) = m.cp.getD 0 := by
        cases m.cp with
        | none => exact ite_self _
        | some y => exact if_neg (by show ¬ m.mks.length + _ + 1 ≤ _; omega)
      rw [z1, z2]
      rw [List.take_of_length_le (by omega)] at s4
      have hn := int_num (i := m.num) (by have := ok.n; omega) (log2_small (by have := ok.n; omega))
      kopn_word
      rw [cut_ln]
      refine ⟨_, m.num, rfl, hn.1, hn.2, ?_⟩
      kopn_word
      exact kk _ _ (by kt_ors)
theorem ok_mark_of_key (T : Txt K mg Z) : FnOk P w K mg base CX0 9 Z.a_mark_of_key Z.d_mark_of_key ["key"] (spMofK K Z.C_Mark) := by
  refine T.F_mark_of_key.ok sc_mark_of_key (fun vs H Q E h => ?_) (fun cdv A outer s H vs Q E hr h => ?_)
  · obtain ⟨_, _, _, _, rfl, _⟩ := h; rfl
  · obtain ⟨r, m, Φ, mt, rfl, hp, ok, s, kk⟩ := h
    refine ⟨_, (pss_cons (ps_asg (pv 0) (pg_tup rfl (pgs_cons (pg_name (i := 1) sc_mark_of_key.nd rfl (.inl rfl)) (pgs_cons (pg_name (i := 2) sc_mark_of_key.nd rfl (.inl rfl)) (pgs_cons (pg_name (i := 3) sc_mark_of_key.nd rfl (.inl rfl)) (pgs_cons (pg_name (i := 4) sc_mark_of_key.nd rfl (.inl rfl)) (pgs_cons (pg_name (i := 5) sc_mark_of_key.nd rfl (.inl rfl)) (pgs_cons (pg_name (i := 6) sc_mark_of_key.nd rfl (.inl rfl)) pgs_nil))))))))
      (pss_one (ps_ret (pe_make T.M_Mark (ok_Mark_init T) (hr.mono (by decide)) rfl T.g_Mark T.b_Mark_init .nil pass0 (pa_cons (pv 1) (pa_cons (pv 2) (pa_cons (pv 3) (pa_cons (pv 4) (pa_cons (pe_orT (pv 5) (pe_one pe_non)) (pa_cons (pe_orT (pv 6) (pe_one pe_non)) pa_nil)))))))))), ?_⟩
    kxt_pos
    have hy0 : ∀ i, m.yr = some i → i ≠ 0 := fun i h => by have := ok.y i h; omega
    have hc0 : ∀ i, m.cp = some i → i ≠ 0 := fun i h => by have := (ok.c i h).1; omega
    kopn_word
    refine g_orNon hy0 ?_
    kopn_word
    refine g_orNon hc0 ?_
    kopn_word
    exact kk _ _ (by kt_ors)
end

/-! ### begins -/
section
variable {P : Program} {w : World} {K : PySem.W.Frag} {mg : Str → Option Value} {base : Heap} {Z : Adr} {C : Addr}
end

/-! ### the ending, where a mark may end -/
section
variable {P : Program} {w : World} {K : PySem.W.Frag} {mg : Str → Option Value} {base : Heap} {Z : Adr} {C : Addr}
theorem ok_ending (T : Txt K mg Z) : FnOk P w K mg base CX0 1 Z.a_ending Z.d_ending ["state"] (spEnding K Z.C_Mark) := by
  refine T.F_ending.ok sc_ending (fun vs H Q E h => ?_) (fun cdv A outer s H vs Q E hr h => ?_)
  · obtain ⟨_, _, _, _, _, rfl, _⟩ := h; rfl
  · obtain ⟨r, p, k, Φ, mt, rfl, hp, hf, s, kk⟩ := h
    refine ⟨_, (pss_cons (ps_asg (pv 0) (pg_tup rfl (pgs_cons (pg_name (i := 1) sc_ending.nd rfl (.inl rfl)) (pgs_cons (pg_name (i := 2) sc_ending.nd rfl (.inl rfl)) pgs_nil))))
      (pss_cons (ps_if (pt_cmpR op_eq (pv 1) pe_str (nomark _)) (pss_one (ps_ret (pe_ifExp (pt_cmpR op_eq (pv 2) pe_int (nomark _)) pe_str pe_str))) pss_nil)
      (pss_cons (ps_if (pt_cmpR op_eq (pv 1) pe_str (nomark _)) (pss_one (ps_ret (pe_ifExp (pt_cmpR op_lt (pv 2) (pe_gi rfl T.c_MOST_MAKERS) (nomark _)) pe_str pe_str))) pss_nil)
      (pss_cons (ps_if (pt_cmpR op_eq (pv 1) pe_str (nomark _)) (pss_one (ps_ret (pe_ifExp (pt_cmpR op_lt (pv 2) (pe_gi rfl T.c_MOST_MAKERS) (nomark _)) pe_str pe_str))) pss_nil)
      (pss_cons (ps_if (pt_cmpR op_eq (pv 1) pe_str (nomark _)) (pss_one (ps_ret (pe_op op_repS pe_str (pe_op op_sub pe_int (pv 2))))) pss_nil)
      (pss_cons (ps_if (pt_cmpR op_eq (pv 1) pe_str (nomark _)) (pss_one (ps_ret (pe_ix (ixT K) (pe_glob (v := .ref Z.k_COPY_ENDS) rfl T.c_COPY_ENDS rfl) (pv 2) (fun _ _ => rfl)))) pss_nil)
      (pss_one (ps_ret (pe_ifExp (PW.pt (pw_or (pt_cmpR op_eq (pv 1) pe_str (nomark _)) (pw_or1 (pt_cmpR op_eq (pv 1) pe_str (nomark _))))) pe_str pe_str))))))))), ?_⟩
    kxt_pos
    cases p <;> first | exact Bool.noConfusion hf | skip
    all_goals simp only [Plc.str] at hp
    all_goals try (have hk : k = 4 := of_decide_eq_true hf; subst hk)
    all_goals kopn_word
    all_goals first
      | exact kk _ (by kt_ors)
      | (exfalso; first
        | (rename_i h; exact absurd h (by decide +kernel))
        | (rename_i h _; exact absurd h (by decide +kernel))
        | (rename_i h _ _; exact absurd h (by decide +kernel))
        | (rename_i h _ _ _; exact absurd h (by decide +kernel))
        | (rename_i h _ _ _ _; exact absurd h (by decide +kernel))
        | (rename_i h _ _ _ _ _; exact absurd h (by decide +kernel))
        | (rename_i h _ _ _ _ _ _; exact absurd h (by decide +kernel))
        | (rename_i h _ _ _ _ _ _ _; exact absurd h (by decide +kernel)))
end

/-! ### a mark and its signs; the signs that may go on -/
section
variable {K : PySem.W.Frag} {C : Addr} {σ σ0 : L2.St} {H : Hp} {Φ : List (V × W)} {mt : List (Addr × (HO → Prop))} {Q : VK} {E : XK} {t x : Str} {r : Addr} {p : Plc} {k : Int} {m : MK} {i : Nat} {vs : List Nat} {tt : TT} {te : TE}
theorem g_lcSF {σ1 : V → L2.St} (f : Nat → Bool) (s : S K C H Φ mt) (hz : x.length < 100000) (hw : Wp σ vs σ0) (hs : ∀ v, SetAt σ0 i (some v) (σ1 v)) (hw2 : ∀ v, Wp (σ1 v) vs σ0)
    (body : ∀ c X H', c ∈ sg x → S K C H' Φ (X :: mt) → ∀ N : Bool → Hp → Prop, (∀ H'', S K C H'' Φ (X :: mt) → N (f c) H'') → tt (σ1 (.str (one c))) H' N)
    (helt : ∀ c H' (N : VK), N (.str (one c)) H' → te (σ1 (.str (one c))) H' N)
    (k : ∀ D H', S K C H' ((.ref D, .l (((sg x).filter f).map fun c => W.s (one c))) :: Φ) mt → Q (.ref D) H') : LcW (Its x) (gName i) tt te vs σ H Q := by
  have hw := hw.h
  subst hw
  intro D hD
  have hzz : (sg x).length = x.cps.size := Array.length_toList
  have hx : (sg x).length = x.length := sg_len x
  refine ⟨fun j m H' => m = x.cps.size - j ∧ j ≤ x.cps.size ∧ S K C H' Φ ((D, Eq (.lst ((((sg x).take j).filter f).map fun c => V.str (one c)))) :: mt), ⟨_, rfl, Nat.zero_le _, by rw [List.take_zero]; exact s.addM hD (Ex.new hD) upd_same rfl⟩, ?_⟩
  rintro j m H1 ⟨rfl, hi, s1⟩
  by_cases hlt : j < x.cps.size
  · refine .inr ⟨hlt, fun H' => S K C H' Φ ((D, Eq (.lst ((((sg x).take (j + 1)).filter f).map fun c => V.str (one c)))) :: mt), fun H' p' => ⟨x.cps.size - (j + 1), by omega, rfl, hlt, p'⟩, fun v H' y => ?_⟩
    obtain ⟨e, c, hc, rfl⟩ := y
    subst e
    have hcj : (sg x)[j]? = some c := by rw [Array.getElem?_toList]; exact hc
    have ht : (sg x).take (j + 1) = (sg x).take j ++ [c] := by rw [List.take_add_one, hcj]; rfl
    have hl : ((((sg x).take j).filter f).map fun c => V.str (one c)).length ≤ j := by
      rw [List.length_map]
      exact Nat.le_trans (List.length_filter_le _ _) (by rw [List.length_take]; omega)
    unfold gName
    rw [(hs (V.str (⟨#[c]⟩ : Str))).h]
    refine ⟨(hw2 _).h, ?_⟩
    refine body c _ _ (List.mem_of_getElem? hcj) s1 _ fun H2 s2 => ?_
    show if f c = true then _ else _
    cases hf : f c with
    | false =>
      rw [if_neg (by simp)]
      rw [ht, List.filter_append, List.filter_cons_of_neg (by rw [hf]; simp), List.filter_nil, List.append_nil]
      exact s2
    | true =>
      rw [if_pos rfl]
      refine helt c H2 _ ⟨_, s2.at List.mem_cons_self, sz_lt (by omega), ?_⟩
      rw [ht, List.filter_append, List.filter_cons_of_pos hf, List.filter_nil, List.map_append]
      exact s2.set .hd rfl
  · have e : (sg x).take j = sg x := List.take_of_length_le (by omega)
    rw [e] at s1
    exact .inl ⟨by show x.cps.size ≤ _; omega, k D H1 (s1.fixL .hd (.is _ (fun c => V.str (one c)) (fun c => W.s (one c)) fun c _ => .s _))⟩
theorem use_walkedE {n : Nat} (s : S K C H Φ mt) (h1 : t.length ≤ 90000) (h2 : runF .letters 0 (sg t) = (n, p, k)) (q : ∀ r H', S K C H' ((.ref r, .t [.i n, .t [.s p.str, .i k]]) :: Φ) mt → Q (.ref r) H') : spWalked K C [.str t] H Q E :=
  ⟨t, Φ, mt, rfl, h1, s, fun r H' s' => q r H' (by rw [h2] at s'; exact s')⟩
theorem use_stp {c : Nat} (s : S K C H Φ mt) (h : (.ref r, .t [.s p.str, .i k]) ∈ Φ) (q : StepQ K C Φ mt (step p k c) Q) : spStp K C [.ref r, .str (one c)] H Q E := ⟨r, p, k, c, Φ, mt, rfl, h, s, q⟩

theorem use_kw (s : S K C H Φ mt) (ok : m.Ok) (q : ∀ r H', S K C H' ((.ref r, m.keyW) :: Φ) mt → Q (.ref r) H') : spKW K C [.str m.text] H Q E := ⟨m, Φ, mt, rfl, ok, Nat.le_trans (text_len ok) (by decide), s, q⟩
theorem use_mok (s : S K C H Φ mt) (h : (.ref r, m.keyW) ∈ Φ) (ok : m.Ok) (q : ∀ x H', S K C H' ((.ref x, .m m) :: Φ) mt → Q (.ref x) H') : spMofK K C [.ref r] H Q E := ⟨r, m, Φ, mt, rfl, h, ok, s, q⟩
def spMaS (K : PySem.W.Frag) (C : Addr) : Sp := fun vs H Q _ => ∃ (m : MK) (Φ : List (V × W)) (mt : List (Addr × (HO → Prop))), vs = [.str m.text] ∧ m.Ok ∧ S K C H Φ mt ∧ ∀ r H', S K C H' ((.ref r, .t [.m m, .i m.text.length]) :: Φ) mt → Q (.ref r) H'
theorem use_mas (s : S K C H Φ mt) (ok : m.Ok) (q : ∀ r H', S K C H' ((.ref r, .t [.m m, .i m.text.length]) :: Φ) mt → Q (.ref r) H') : spMaS K C [.str m.text] H Q E := ⟨m, Φ, mt, rfl, ok, s, q⟩
def spRead (K : PySem.W.Frag) (C : Addr) : Sp := fun vs H Q _ => ∃ (m : MK) (Φ : List (V × W)) (mt : List (Addr × (HO → Prop))), vs = [.str m.text] ∧ m.Ok ∧ S K C H Φ mt ∧ ∀ r H', S K C H' ((.ref r, .m m) :: Φ) mt → Q (.ref r) H'
theorem use_read (s : S K C H Φ mt) (ok : m.Ok) (q : ∀ r H', S K C H' ((.ref r, .m m) :: Φ) mt → Q (.ref r) H') : spRead K C [.str m.text] H Q E := ⟨m, Φ, mt, rfl, ok, s, q⟩
abbrev sALL : Str := " .0123456789abcdefghijklmnopqrstuvwxyz"
/-- behind a text that begins a mark -/
def spNext (K : PySem.W.Frag) (C : Addr) : Sp := fun vs H Q _ => ∃ (t : Str) (p : Plc) (k : Int) (Φ : List (V × W)) (mt : List (Addr × (HO → Prop))), vs = [.str t] ∧ runF .letters 0 (sg t) = (t.length, p, k) ∧ t.length ≤ 90000 ∧ S K C H Φ mt ∧ ∀ r H', S K C H' ((.ref r, .l (((sg sALL).filter fun c => (step p k c).isSome).map fun c => W.s (one c))) :: Φ) mt → Q (.ref r) H'
theorem use_next (s : S K C H Φ mt) (h : runF .letters 0 (sg t) = (t.length, p, k)) (hz : t.length ≤ 90000) (q : ∀ r H', S K C H' ((.ref r, .l (((sg sALL).filter fun c => (step p k c).isSome).map fun c => W.s (one c))) :: Φ) mt → Q (.ref r) H') : spNext K C [.str t] H Q E := ⟨t, p, k, Φ, mt, rfl, h, hz, s, q⟩
end
local macro_rules | `(tactic| kt_len) => `(tactic| with_reducible first
  | (apply use_walkedE; (focus (assumption)); (focus (kcf_m)); (focus (assumption)); intro _ _ _)
  | (apply use_ending; (focus (assumption)); (focus (tb_rel)); (focus (assumption)); intro _ _)
  | (apply use_kw; (focus (assumption)); (focus (assumption)); intro _ _ _)
  | (apply use_mok; (focus (assumption)); (focus (tb_rel)); (focus (assumption)); intro _ _ _)
  | (apply use_mas; (focus (assumption)); (focus (assumption)); intro _ _ _))
section
variable {P : Program} {w : World} {K : PySem.W.Frag} {mg : Str → Option Value} {base : Heap} {Z : Adr} {C : Addr}
theorem ok_mark_and_signs (T : Txt K mg Z) : FnOk P Z.wd K mg base CX0 10 Z.a_mark_and_signs Z.d_mark_and_signs ["text"] (spMaS K Z.C_Mark) := by
  refine T.F_mark_and_signs.ok sc_mark_and_signs (fun vs H Q E h => ?_) (fun cdv A outer s H vs Q E hr h => ?_)
  · obtain ⟨_, _, _, rfl, _⟩ := h; rfl
  · obtain ⟨m, Φ, mt, rfl, ok, s, kk⟩ := h
    refine ⟨_, (pss_cons (ps_asg (pe_call (ok_walked T) (hr.mono (by decide)) rfl T.g_walked T.F_walked.kp T.b_walked .nil pass0 (pa_cons (pv 0) pa_nil)) (pg_tup rfl (pgs_cons (pg_name (i := 1) sc_mark_and_signs.nd rfl (.inl rfl)) (pgs_cons (pg_name (i := 2) sc_mark_and_signs.nd rfl (.inl rfl)) pgs_nil))))
      (pss_cons (ps_if (PW.pt (pw_or (pt_cmpR op_lt (pv 1) (pe_callB (call_lenS) (by rfl) T.n_len (by decide +kernel) (pa_cons (pv 0) pa_nil)) (nomark _)) (pw_or1 (pt_cmpR op_ne (pe_call (ok_ending T) (hr.mono (by decide)) rfl T.g_ending T.F_ending.kp T.b_ending .nil pass0 (pa_cons (pv 2) pa_nil)) pe_str (nomark _))))) (pss_one (ps_ret (pe_tup (pa_cons pe_non (pa_cons (pv 1) pa_nil))))) pss_nil)
      (pss_one (ps_ret (pe_tup (pa_cons (pe_call (ok_mark_of_key T) (hr.mono (by decide)) rfl T.g_mark_of_key T.F_mark_of_key.kp T.b_mark_of_key .nil pass0 (pa_cons (pe_call (ok_key_written T) (hr.mono (by decide)) rfl T.g_key_written T.F_key_written.kp T.b_key_written .nil pass0 (pa_cons (pv 0) pa_nil)) pa_nil)) (pa_cons (pv 1) pa_nil))))))), ?_⟩
    have hl := text_len ok
    obtain ⟨p, k, h1, hf⟩ := run_text ok
    have hrun := runF_of _ _ _ _ _ h1
    rw [sg_len] at hrun
    kxt_pos
    kopn_word
    · exfalso; omega
    · exact kk _ _ (by kt_ors)
end

/-! ### draws of a box of four numbers, that counts -/
def qZfill : V → List V → Hp → VK → Prop := fun x xs H Q => ∃ (a : Str) (i : Int), x = .str a ∧ xs = [.int i] ∧ PadOk i = true ∧ Q (.str (Txt.zfill a i)) H
theorem mt_zfillQ {X : Cx} : MtR X "str.zfill" qZfill := mt_zfill
def qSindex : V → List V → Hp → VK → Prop := fun x xs H Q => ∃ a b i rest, x = .str a ∧ xs = [.str b] ∧ Builtin.Str.occurrences a b 0 a.length 1 = i :: rest ∧ Q (.int (i : Nat)) H
theorem mt_indexQ {X : Cx} : MtR X "str.index" qSindex := mt_sindex
theorem IsBoxN.mono {n m : Nat} (h : n ≤ m) {o : HO} (b : IsBoxN n o) : IsBoxN m o := by
  obtain ⟨a, c, d, t, e, h1, h2, h3, h4, h5, h6⟩ := b
  exact ⟨a, c, d, t, e, h1, h2, h3, h4, h5, by omega⟩
def spCel (K : PySem.W.Frag) (C : Addr) : Sp := fun vs H Q _ => ∃ (a : Addr) (ns : List Int) (k : Int) (Φ : List (V × W)) (mt : List (Addr × (HO → Prop))), vs = [.ref a, .int k] ∧ (.ref a, .q ns) ∈ Φ ∧ 0 ≤ k ∧ k ≤ 1000 ∧ S K C H Φ mt ∧ ∀ (r : Int) H', S K C H' Φ mt → Q (.int r) H'
def spBox (K : PySem.W.Frag) (C : Addr) : Sp := fun vs H Q _ => ∃ (c : Int) (Φ : List (V × W)) (mt : List (Addr × (HO → Prop))), vs = [.int c] ∧ S K C H Φ mt ∧ ∀ p H', S K C H' Φ ((p, IsBoxN 0) :: mt) → Q (.ref p) H'
def spTkN (K : PySem.W.Frag) (C : Addr) : Sp := fun vs H Q _ => ∃ (b : Addr) (k : Int) (n : Nat) (Φ : List (V × W)) (mt : List (Addr × (HO → Prop))), vs = [.ref b, .int k] ∧ 0 < k ∧ k < 18446744073709551616 ∧ n ≤ 1000000 ∧ S K C H Φ ((b, IsBoxN n) :: mt) ∧ ∀ (r : Int) H', 0 ≤ r → r < k → S K C H' Φ ((b, IsBoxN (n + 1)) :: mt) → Q (.int r) H'
section
variable {K : PySem.W.Frag} {C : Addr} {σ σ0 : L2.St} {H : Hp} {Φ : List (V × W)} {mt : List (Addr × (HO → Prop))} {Q : VK} {te : TE} {a b : Addr} {k : Int} {n m : Nat} {E : XK} {X : Addr × (HO → Prop)} {ns : List Int} {vs : List Nat} {i : Nat} {lo : Int}
theorem S.swap {x y : Addr × (HO → Prop)} (s : S K C H Φ (x :: y :: mt)) : S K C H Φ (y :: x :: mt) := s.perm (List.Perm.swap ..)
theorem S.more {m : Nat} (s : S K C H Φ ((b, IsBoxN n) :: mt)) (h : n ≤ m) : S K C H Φ ((b, IsBoxN m) :: mt) := by
  obtain ⟨o, ho, s'⟩ := s.sharp
  exact s'.blur (ho.mono h)
theorem use_cel (s : S K C H Φ mt) (h : (.ref a, .q ns) ∈ Φ) (h0 : 0 ≤ k) (h1 : k ≤ 1000) (q : ∀ (r : Int) H', S K C H' Φ mt → Q (.int r) H') : spCel K C [.ref a, .int k] H Q E := ⟨a, ns, k, Φ, mt, rfl, h, h0, h1, s, q⟩
theorem use_box {c : Int} (s : S K C H Φ mt) (q : ∀ p H', S K C H' Φ ((p, IsBoxN 0) :: mt) → Q (.ref p) H') : spBox K C [.int c] H Q E := ⟨c, Φ, mt, rfl, s, q⟩
theorem use_tk (s : S K C H Φ ((b, IsBoxN n) :: mt)) (h0 : 0 < k) (h1 : k < 18446744073709551616) (hn : n ≤ 1000000) (q : ∀ (r : Int) H', 0 ≤ r → r < k → S K C H' Φ ((b, IsBoxN (n + 1)) :: mt) → Q (.int r) H') : spTkN K C [.ref b, .int k] H Q E := ⟨b, k, n, Φ, mt, rfl, h0, h1, hn, s, q⟩
theorem use_tk1 (s : S K C H Φ (X :: (b, IsBoxN n) :: mt)) (h0 : 0 < k) (h1 : k < 18446744073709551616) (hn : n ≤ 1000000) (q : ∀ (r : Int) H', 0 ≤ r → r < k → S K C H' Φ (X :: (b, IsBoxN (n + 1)) :: mt) → Q (.int r) H') : spTkN K C [.ref b, .int k] H Q E :=
  use_tk s.swap h0 h1 hn fun r H' g0 g1 s' => q r H' g0 g1 s'.swap
/-- [.. for _ in range(..)], each by one draw -/
theorem g_lcRN {α : Type} (enc : α → V) (encW : α → W) (P : Nat → α → Prop) {σ1 : V → L2.St} (kn : ∀ Ψ x, Kn Ψ (enc x) (encW x)) (s : S K C H Φ ((b, IsBoxN m) :: mt)) (hn : n < 100000) (hw : Wp σ vs σ0) (hs : ∀ x, SetAt σ0 i (some x) (σ1 x)) (hw2 : ∀ x, Wp (σ1 x) vs σ0)
    (body : ∀ (j : Nat) X H', j < n → S K C H' Φ (X :: (b, IsBoxN (m + j)) :: mt) → ∀ N : VK, (∀ x H'', P j x → S K C H'' Φ (X :: (b, IsBoxN (m + j + 1)) :: mt) → N (enc x) H'') → te (σ1 (.int (lo + j))) H' N)
    (k : ∀ D (xs : List α) H', xs.length = n → (∀ j x, xs[j]? = some x → P j x) → S K C H' ((.ref D, .l (xs.map encW)) :: Φ) ((b, IsBoxN (m + n)) :: mt) → Q (.ref D) H') : LcW (Itr lo n) (gName i) tYes te vs σ H Q := by
  have hw := hw.h
  subst hw
  intro D hD
  refine lc_range (fun j H' => ∃ xs : List α, xs.length = j ∧ (∀ j x, xs[j]? = some x → P j x) ∧ S K C H' Φ ((D, Eq (.lst (xs.map enc))) :: (b, IsBoxN (m + j)) :: mt)) ⟨[], rfl, fun j x h => by simp at h, s.addM hD (Ex.new hD) upd_same rfl⟩ ?_ ?_
  · rintro j H1 hj ⟨xs, hl, hP, s1⟩
    unfold gName
    rw [(hs (V.int (lo + j))).h]
    refine ⟨(hw2 _).h, ?_⟩
    dsimp only [tYes]
    rw [if_pos rfl]
    refine body j _ H1 hj s1 _ fun x H2 hx s2 => ⟨_, s2.at List.mem_cons_self, sz_lt (by rw [List.length_map]; omega), xs ++ [x], by rw [List.length_append, hl]; rfl, mem_snoc hP (by rw [hl]; exact hx), ?_⟩
    rw [List.map_append]
    exact s2.set .hd rfl
  · rintro H1 ⟨xs, hl, hP, s1⟩
    exact k D xs H1 hl hP (s1.fixL .hd (.is xs enc encW fun x _ => kn _ x))
end
local macro_rules | `(tactic| kt_len) => `(tactic| with_reducible first
  | (apply use_cel; (focus (assumption)); (focus (tb_rel)); (focus (omega)); (focus (omega)); intro _ _ _)
  | (apply use_box; (focus (assumption)); intro _ _ _)
  | (apply use_tk; (focus (assumption)); (focus (kcf_m)); (focus (kcf_m)); (focus (omega)); intro _ _ _ _ _)
  | (apply use_tk1; (focus (assumption)); (focus (kcf_m)); (focus (kcf_m)); (focus (omega)); intro _ _ _ _ _))
section
variable {P : Program} {w : World} {K : PySem.W.Frag} {mg : Str → Option Value} {base : Heap} {Z : Adr} {C : Addr}
theorem ok_l_cell (T : Txt K mg Z) : FnOk P w K mg base CX0 1 Z.a_l_cell Z.d_l_cell ["_law_script", "_law_k"] (spCel K Z.C_Mark) := by
  refine T.F_l_cell.ok sc_l_cell (fun vs H Q E h => ?_) (fun cdv A outer s H vs Q E hr h => ?_)
  · obtain ⟨_, _, _, _, _, rfl, _⟩ := h; rfl
  · obtain ⟨a, ns, k, Φ, mt, rfl, hx, h0, h1, s, kk⟩ := h
    refine ⟨_, (pss_cons (ps_if (pt_cmpR op_lt (pv 1) (pe_callB (lenQ K) (by rfl) T.n_len (by decide +kernel) (pa_cons (pv 0) pa_nil)) (nomark _)) (pss_one (ps_ret (pe_ix (ixL K) (pv 0) (pv 1) (fun _ _ => rfl)))) pss_nil)
      (pss_one (ps_ret (pe_op op_add (pe_op op_mul pe_int (pv 1)) pe_int)))), ?_⟩
    kxt_pos
    kopn_word
    all_goals exact kk _ _ (by kt_ors)
theorem ok_l_box (T : Txt K mg Z) : FnOk P w K mg base CX0 1 Z.a_l_box Z.d_l_box ["_law_cell_here"] (spBox K Z.C_Mark) := by
  refine T.F_l_box.ok sc_l_box (fun vs H Q E h => ?_) (fun cdv A outer s H vs Q E hr h => ?_)
  · obtain ⟨_, _, _, rfl, _⟩ := h; rfl
  · obtain ⟨c, Φ, mt, rfl, s, kk⟩ := h
    refine ⟨_, (pss_one (ps_ret (peM (pe_lst (pa_cons (pe_callB (call_maxq rfl) (by rfl) T.n_max (by decide +kernel) (pa_cons pe_int (pa_cons (pe_op op_sub (pv 0) (pe_op op_pow pe_int pe_int)) pa_nil))) (pa_cons (pe_op op_mod (pv 0) pe_int) (pa_cons (pe_op op_mod (pv 0) pe_int) (pa_cons pe_int pa_nil)))))))), ?_⟩
    kxt_pos
    kopn_word
    rename_i p H1 s1
    exact kk _ _ (s1.blur ⟨_, _, _, _, rfl, by omega, by omega, by omega, by omega, by omega, by omega⟩)
theorem ok_l_take (T : Txt K mg Z) : FnOk P w K mg base CX0 1 Z.a_l_take Z.d_l_take ["_law_box_here", "_law_many"] (spTkN K Z.C_Mark) := by
  refine T.F_l_take.ok sc_l_take (fun vs H Q E h => ?_) (fun cdv A outer s H vs Q E hr h => ?_)
  · obtain ⟨_, _, _, _, _, rfl, _⟩ := h; rfl
  · obtain ⟨b, k, n, Φ, mt, rfl, h0, hl, hn, s, kk⟩ := h
    refine ⟨_, (pss_cons (ps_if (pt_cmpR op_gt (pe_ix (ixL K) (pv 0) pe_int (fun _ _ => rfl)) pe_int (nomark _)) (pss_cons (ps_set (i := 2) sc_l_take.nd rfl (.inl rfl) (pe_op op_modN (pe_ix (ixL K) (pv 0) pe_int (fun _ _ => rfl)) (pv 1)))
      (pss_cons (ps_asg (pe_op op_fdivW (pe_ix (ixL K) (pv 0) pe_int (fun _ _ => rfl)) (pv 1)) (pg_sub (pv 0) pe_int set_list))
      (pss_one (ps_ret (pv 2))))) pss_nil)
      (pss_cons (ps_asg (pe_op op_add (pe_ix (ixL K) (pv 0) pe_int (fun _ _ => rfl)) pe_int) (pg_sub (pv 0) pe_int set_list))
      (pss_cons (ps_set (i := 3) sc_l_take.nd rfl (.inl rfl) (pe_ix (ixL K) (pv 0) pe_int (fun _ _ => rfl)))
      (pss_cons (ps_set (i := 4) sc_l_take.nd rfl (.inl rfl) (pe_op op_mod (pe_op op_pow (pe_op op_add (pe_op op_add (pe_op op_mul (pe_ix (ixL K) (pv 0) pe_int (fun _ _ => rfl)) (pe_op op_add (pe_op op_mul pe_int (pv 3)) pe_int)) (pe_op op_mul (pe_op op_mul pe_int (pv 3)) (pv 3))) pe_int) pe_int) pe_int))
      (pss_one (ps_ret (pe_op op_modN (pe_op op_fdiv (pe_op op_mod (pe_op op_pow (pe_op op_add (pe_op op_add (pv 4) (pe_op op_mul (pe_ix (ixL K) (pv 0) pe_int (fun _ _ => rfl)) (pv 3))) pe_int) pe_int) pe_int) pe_int) (pv 1)))))))), ?_⟩
    obtain ⟨_, ⟨a, c, d, t, rfl, hc0, hc1, hd0, hd1, ht0, ht1⟩, s⟩ := s.sharp
    have hk : k.natAbs.log2 < 9000 := log_small (by omega) (by omega)
    have hk0 : k ≠ 0 := by omega
    have fin : ∀ {H' : Hp} {x : Int} {a t : Int}, 0 ≤ t → t ≤ n + 1 → S K Z.C_Mark H' Φ ((b, Eq (.lst [.int a, .int c, .int d, .int t])) :: mt) → Q (.int (x.fmod k)) H' := fun z0 z1 s' => kk _ _ (Int.fmod_nonneg_of_pos _ h0) (Int.fmod_lt_of_pos _ h0) (s'.blur ⟨_, _, _, _, rfl, hc0, hc1, hd0, hd1, z0, z1⟩)
    kxt_pos
    kopn_word
    · exact fin ht0 (by omega) ‹_›
    have hb1 : 0 ≤ c * (2 * (t + 1) + 3) ∧ c * (2 * (t + 1) + 3) ≤ 2147483648 * 2000010 := ⟨Int.mul_nonneg hc0 (by omega), Int.mul_le_mul (by omega) (by omega) (by omega) (by omega)⟩
    have hb2 : 0 ≤ 6301 * (t + 1) * (t + 1) ∧ 6301 * (t + 1) * (t + 1) ≤ 6301 * 1000010 * 1000010 := ⟨Int.mul_nonneg (by omega) (by omega), Int.mul_le_mul (by omega) (by omega) (by omega) (by omega)⟩
    refine g_rPow (by omega) (by omega) (by omega) (by omega) ?_
    kopn_word
    rename_i s9
    generalize (c * (2 * (t + 1) + 3) + 6301 * (t + 1) * (t + 1) + 7) ^ Int.toNat 5 = y
    have hy : 0 ≤ y % 2147483647 ∧ y % 2147483647 < 2147483647 := ⟨Int.emod_nonneg _ (by decide), Int.emod_lt_of_pos _ (by decide)⟩
    have hb3 : 0 ≤ d * (t + 1) ∧ d * (t + 1) ≤ 2147483648 * 1000010 := ⟨Int.mul_nonneg hd0 (by omega), Int.mul_le_mul (by omega) (by omega) (by omega) (by omega)⟩
    refine g_rPow (by omega) (by omega) (by omega) (by omega) ?_
    kopn_word
    exact fin (t := t + 1) (by omega) (by omega) s9
end

/-! ### letters, figures, heads -/
def hdW (m : MK) : W := .t [.s m.lt, .i m.num, .s m.pts]
def HK (l : Str) (n : Int) (p : Str) : MK := ⟨l, n, p, [], none, none⟩
structure HdOk (l : Str) (n : Int) (p : Str) (z : Nat) : Prop where
  hl : lettersOk l 3 = true
  hn : 1 ≤ n ∧ n ≤ 9999
  hp : pointsOk p = true
  hz : p.length ≤ z
theorem cut_last {t : Str} (h : 1 ≤ t.length) : ∃ c, cutS t (some (-1)) none = (⟨#[c]⟩ : Str) ∧ decide ((⟨#[c]⟩ : Str) = "0") = Txt.endswith t "0" := by
  obtain ⟨c, h1, h2⟩ := last_of h
  refine ⟨c, str_ext ?_, h2⟩
  show (List.toArray _).toList = _
  have hl : (sg t).length = t.length := sg_len t
  have e1 : HT.sIx t.length 0 (some (-1)) = t.length - 1 := by
    have := HT.clip_eq (-1) t.length 0
    rw [if_pos (by decide)] at this
    omega
  rw [e1, show HT.sIx t.length t.length none = t.length from rfl]
  unfold atI ixN at h1
  rw [if_neg (by decide), if_pos (by rw [hl]; omega)] at h1
  have h3 : (sg t)[t.length - 1]? = some c := by
    have e2 : ((-1 : Int) + ((sg t).length : Int)).toNat = t.length - 1 := by omega
    have h1' : (sg t)[((-1 : Int) + ((sg t).length : Int)).toNat]? = some c := h1
    rw [e2] at h1'
    exact h1'
  have hlt : t.length - 1 < (sg t).length := by omega
  have : List.drop (t.length - 1) t.cps.toList = [c] := by
    rw [show t.cps.toList = sg t from rfl, List.drop_eq_getElem_cons hlt, List.drop_of_length_le (by omega)]
    rw [List.getElem?_eq_getElem hlt] at h3
    rw [Option.some.inj h3]
  rw [this, List.take_of_length_le (by simp; omega)]
theorem pts_eq (t : Str) : (allIn t sFIG && !decide (cutS t (some (-1)) none = "0")) = pointsOk t := by
  unfold pointsOk endedOk figuresOk
  by_cases h : t = ("" : Str)
  · subst h
    decide +kernel
  · have h1 : 1 ≤ t.length := by
      have := mt ne_empty.mpr h
      omega
    obtain ⟨c, e1, e2⟩ := cut_last h1
    rw [e1, e2, decide_eq_false h]
    simp
theorem fig_cutS {w : Str} (h : FigS w) (lo hi : Option Int) : FigS (cutS w lo hi) := fun c hc => h c (by
  have : ∀ (l : List Nat) (i j : Nat), c ∈ (l.drop i).take j → c ∈ l := fun l i j h => List.mem_of_mem_drop (List.mem_of_mem_take h)
  exact this _ _ _ (show c ∈ (List.toArray _).toList from hc))
theorem len_cutS (t : Str) (lo hi : Option Int) : (cutS t lo hi).length = min (HT.sIx t.length t.length hi - HT.sIx t.length 0 lo) (t.length - HT.sIx t.length 0 lo) := by
  unfold cutS
  show (List.toArray _).size = _
  rw [List.size_toArray, List.length_take, List.length_drop]
  rfl
theorem len_cutm (t : Str) : (cutS t none (some (-1))).length = t.length - 1 := by
  rw [len_cutS]
  unfold HT.sIx
  dsimp only
  rw [if_pos (by decide)]
  omega
theorem cut_zero {t : Str} (h : cutS t (some (-1)) none = Str.ofString "0") : 1 ≤ t.length := by
  have h1 := congrArg Str.length h
  rw [len_cutS, show (Str.ofString "0").length = 1 by decide +kernel] at h1
  unfold HT.sIx at h1
  dsimp only at h1
  rw [if_pos (by decide)] at h1
  omega
def spLetN (K : PySem.W.Frag) (C : Addr) : Sp := fun vs H Q _ => ∃ (b : Addr) (n : Nat) (Φ : List (V × W)) (mt : List (Addr × (HO → Prop))), vs = [.ref b] ∧ n ≤ 900000 ∧ S K C H Φ ((b, IsBoxN n) :: mt) ∧ ∀ (t : Str) H', lettersOk t 3 = true → S K C H' Φ ((b, IsBoxN (n + 10)) :: mt) → Q (.str t) H'
def spFigN (K : PySem.W.Frag) (C : Addr) : Sp := fun vs H Q _ => ∃ (b : Addr) (k : Int) (n : Nat) (Φ : List (V × W)) (mt : List (Addr × (HO → Prop))), vs = [.ref b, .int k] ∧ 0 ≤ k ∧ k ≤ 300 ∧ n ≤ 900000 ∧ S K C H Φ ((b, IsBoxN n) :: mt) ∧ ∀ (t : Str) H', pointsOk t = true → (t.length : Int) = k → S K C H' Φ ((b, IsBoxN (n + 310)) :: mt) → Q (.str t) H'
def spHdN (K : PySem.W.Frag) (C : Addr) : Sp := fun vs H Q _ => ∃ (b : Addr) (k : Int) (n : Nat) (Φ : List (V × W)) (mt : List (Addr × (HO → Prop))), vs = [.ref b, .int k] ∧ k = 232 ∧ n ≤ 800000 ∧ S K C H Φ ((b, IsBoxN n) :: mt) ∧ ∀ q (l : Str) (i : Int) (p : Str) H', HdOk l i p 232 → S K C H' ((.ref q, .t [.s l, .i i, .s p]) :: Φ) ((b, IsBoxN (n + 350)) :: mt) → Q (.ref q) H'
section
variable {K : PySem.W.Frag} {C : Addr} {σ : L2.St} {H : Hp} {Φ : List (V × W)} {mt : List (Addr × (HO → Prop))} {Q : VK} {b : Addr} {k : Int} {n : Nat} {E : XK}
theorem g_join {ks : List Str} {c : Str} {p : Addr} (s : S K C H Φ mt) (h : (.ref p, .l (ks.map W.s)) ∈ Φ) (hz : (ks.map (·.length)).sum + ks.length * c.length ≤ 16777216) (k : Q (.str (Txt.join c ks)) H) : rJoin K (.str c) [.ref p] H Q := by
  obtain ⟨vs, h1, h2, s'⟩ := s.open h
  obtain rfl := rep_strs (s'.repL (knl_zip h2))
  exact ⟨c, p, ks, rfl, rfl, .inl h1, hz, k⟩
theorem S.fin {m : Nat} {Ψ : List (V × W)} (s : S K C H Ψ ((b, IsBoxN n) :: mt)) (h : n ≤ m) (sub : ∀ z ∈ Φ, z ∈ Ψ) : S K C H Φ ((b, IsBoxN m) :: mt) := (s.more h).to sub (List.Sublist.refl _)
theorem use_letN (s : S K C H Φ ((b, IsBoxN n) :: mt)) (hn : n ≤ 900000) (q : ∀ (t : Str) H', lettersOk t 3 = true → S K C H' Φ ((b, IsBoxN (n + 10)) :: mt) → Q (.str t) H') : spLetN K C [.ref b] H Q E := ⟨b, n, Φ, mt, rfl, hn, s, q⟩
theorem use_figN (s : S K C H Φ ((b, IsBoxN n) :: mt)) (h0 : 0 ≤ k) (h1 : k ≤ 300) (hn : n ≤ 900000) (q : ∀ (t : Str) H', pointsOk t = true → (t.length : Int) = k → S K C H' Φ ((b, IsBoxN (n + 310)) :: mt) → Q (.str t) H') : spFigN K C [.ref b, .int k] H Q E := ⟨b, k, n, Φ, mt, rfl, h0, h1, hn, s, q⟩
theorem use_hdN (s : S K C H Φ ((b, IsBoxN n) :: mt)) (hn : n ≤ 800000) (q : ∀ q (l : Str) (i : Int) (p : Str) H', HdOk l i p 232 → S K C H' ((.ref q, .t [.s l, .i i, .s p]) :: Φ) ((b, IsBoxN (n + 350)) :: mt) → Q (.ref q) H') : spHdN K C [.ref b, .int 232] H Q E := ⟨b, 232, n, Φ, mt, rfl, rfl, hn, s, q⟩
end
theorem ones_of {P : Nat → Prop} {ts : List Str} (h : ∀ (j : Nat) x, ts[j]? = some x → ∃ c, x = one c ∧ P c) : ∃ cs : List Nat, ts = cs.map one ∧ ∀ c ∈ cs, P c := by
  induction ts with
  | nil => exact ⟨[], rfl, fun c hc => by cases hc⟩
  | cons t ts ih =>
    obtain ⟨c, e, hc⟩ := h 0 t rfl
    obtain ⟨cs, rfl, hcs⟩ := ih fun j x hx => h (j + 1) x hx
    exact ⟨c :: cs, by rw [e]; rfl, fun x hx => by rcases List.mem_cons.mp hx with rfl | h; exact hc; exact hcs x h⟩
section
variable {P : Program} {w : World} {K : PySem.W.Frag} {mg : Str → Option Value} {base : Heap} {Z : Adr} {C : Addr}
theorem ok_l_letters (T : Txt K mg Z) : FnOk P w K mg base CX0 2 Z.a_l_letters Z.d_l_letters ["_law_box_here"] (spLetN K Z.C_Mark) := by
  refine T.F_l_letters.ok sc_l_letters (fun vs H Q E h => ?_) (fun cdv A outer s H vs Q E hr h => ?_)
  · obtain ⟨_, _, _, _, rfl, _⟩ := h; rfl
  · obtain ⟨b, n, Φ, mt, rfl, hn, s, kk⟩ := h
    refine ⟨_, (pss_cons (ps_set (i := 1) sc_l_letters.nd rfl (.inr rfl) pe_str)
      (pss_cons (ps_set (i := 2) sc_l_letters.nd rfl (.inl rfl) (joinK K pe_str (pe_lc (own := [("_law_k", 3)]) (g := gName 3) (tt := tYes) rfl sc_l_letters.nd (pi_range1 rfl T.n_range (pa_cons (pe_op op_add pe_int (pe_call (ok_l_take T) (hr.mono (by decide)) rfl T.g_l_take T.F_l_take.kp T.b_l_take .nil pass0 (pa_cons (pv 0) (pa_cons pe_int pa_nil)))) pa_nil)) (blkOk_by (own := [("_law_k", 3)]) (N := ["_law_box_here", "_law_some", "_law_letters_here", "_law_k"]) (sc := defScope s_l_letters) (by decide +kernel)) (fun _ _ _ _ _ => (pg_name (i := 3) sc_l_letters.nd rfl (.inl rfl))) (fun _ _ _ _ _ => pts_nil) (fun _ _ _ _ _ => (pe_ix ix_str (pv 1) (pe_call (ok_l_take T) (hr.mono (by decide)) rfl T.g_l_take T.F_l_take.kp T.b_l_take .nil pass0 (pa_cons (pv 0) (pa_cons pe_int pa_nil))) (fun _ _ => rfl))))))
      (pss_cons (ps_if (pt_cmpR op_eq (pe_call (ok_l_take T) (hr.mono (by decide)) rfl T.g_l_take T.F_l_take.kp T.b_l_take .nil pass0 (pa_cons (pv 0) (pa_cons pe_int pa_nil))) pe_int (nomark _)) (pss_one (ps_ret (pe_ix (ixL K) (pe_lst (pa_cons pe_str (pa_cons pe_str (pa_cons pe_str (pa_cons pe_str (pa_cons pe_str (pa_cons pe_str (pa_cons pe_str (pa_cons pe_str (pa_cons pe_str (pa_cons pe_str (pa_cons pe_str pa_nil)))))))))))) (pe_call (ok_l_take T) (hr.mono (by decide)) rfl T.g_l_take T.F_l_take.kp T.b_l_take .nil pass0 (pa_cons (pv 0) (pa_cons pe_int pa_nil))) (fun _ _ => rfl)))) pss_nil)
      (pss_one (ps_ret (pv 2)))))), ?_⟩
    kxt_pos
    kopn_word
    rename_i r H2 g1 g2 s2
    refine g_lcRN V.str W.s (fun _ t => ∃ c, t = one c ∧ c ∈ sg sABC) (fun _ _ => .s _) s2 (by omega) (by infer_instance) (fun _ => by infer_instance) (fun _ => by infer_instance) (fun j X H1 hj s1 N hN => ?_) fun D ts H1 hl hP s1 => ?_
    · have hj : j < 3 := by omega
      kopn_word
      rename_i c _ hc
      exact hN _ _ ⟨_, rfl, hc⟩ ‹_›
    · obtain ⟨cs, rfl, hcs⟩ := ones_of hP
      have hj := join_ones cs
      have hsz := sum_ones cs
      rw [List.length_map] at hl
      refine g_join s1 (by tb_rel) (by rw [hsz, show ("" : Str).length = 0 by decide +kernel]; omega) ?_
      have hJ : (Txt.join "" (cs.map one)).length = cs.length := by rw [← sg_len, hj]
      have hlo : lettersOk (Txt.join "" (cs.map one)) 3 = true := by
        unfold lettersOk
        rw [hJ, decide_eq_true (by omega), decide_eq_true (by omega), allIn_iff.mpr fun c hc => hcs c (by rw [hj] at hc; exact hc)]
        rfl
      generalize Txt.join "" (cs.map one) = t at hlo
      have hr : (1 + r).toNat ≤ 3 := by omega
      kopn_word
      · rename_i w hw
        exact kk _ _ ((show ∀ s ∈ ([Str.ofString "z", Str.ofString "zz", Str.ofString "zzz", Str.ofString "az", Str.ofString "azz", Str.ofString "a", Str.ofString "aa", Str.ofString "aaa", Str.ofString "zza", Str.ofString "ayz", Str.ofString "yzz"] : List Str), lettersOk s 3 = true by decide +kernel) w hw) (S.fin (by assumption) (by omega) (by kt_at_notin))
      · exact kk _ _ hlo (S.fin (by assumption) (by omega) (by kt_at_notin))
theorem ok_l_figures (T : Txt K mg Z) : FnOk P w K mg base CX0 2 Z.a_l_figures Z.d_l_figures ["_law_box_here", "_law_many"] (spFigN K Z.C_Mark) := by
  refine T.F_l_figures.ok sc_l_figures (fun vs H Q E h => ?_) (fun cdv A outer s H vs Q E hr h => ?_)
  · obtain ⟨_, _, _, _, _, rfl, _⟩ := h; rfl
  · obtain ⟨b, k, n, Φ, mt, rfl, h0, h1, hn, s, kk⟩ := h
    refine ⟨_, (pss_cons (ps_set (i := 2) sc_l_figures.nd rfl (.inl rfl) (joinK K pe_str (pe_lc (own := [("_law_k", 3)]) (g := gName 3) (tt := tYes) rfl sc_l_figures.nd (pi_range1 rfl T.n_range (pa_cons (pv 1) pa_nil)) (blkOk_by (own := [("_law_k", 3)]) (N := ["_law_box_here", "_law_many", "_law_row", "_law_k"]) (sc := defScope s_l_figures) (by decide +kernel)) (fun _ _ _ _ _ => (pg_name (i := 3) sc_l_figures.nd rfl (.inl rfl))) (fun _ _ _ _ _ => pts_nil) (fun _ _ _ _ _ => (pe_ix ix_str pe_str (pe_call (ok_l_take T) (hr.mono (by decide)) rfl T.g_l_take T.F_l_take.kp T.b_l_take .nil pass0 (pa_cons (pv 0) (pa_cons pe_int pa_nil))) (fun _ _ => rfl))))))
      (pss_cons (ps_if (pt_cmpR op_eq (pe_slice sl_str (pv 2) (po_some (pe_un un_neg pe_int)) po_none) pe_str (nomark _)) (pss_one (ps_ret (pe_op op_addS (pe_slice sl_str (pv 2) po_none (po_some (pe_un un_neg pe_int))) (pe_ix ix_str pe_str (pe_call (ok_l_take T) (hr.mono (by decide)) rfl T.g_l_take T.F_l_take.kp T.b_l_take .nil pass0 (pa_cons (pv 0) (pa_cons pe_int pa_nil))) (fun _ _ => rfl))))) pss_nil)
      (pss_one (ps_ret (pv 2))))), ?_⟩
    kxt_pos
    kopn_word
    refine g_lcRN V.str W.s (fun _ t => ∃ c, t = one c ∧ c ∈ sg sFIG) (fun _ _ => .s _) s (by omega) (by infer_instance) (fun _ => by infer_instance) (fun _ => by infer_instance) (fun j X H1 hj s1 N hN => ?_) fun D ts H1 hl hP s1 => ?_
    · have hj : j < 300 := by omega
      kopn_word
      refine g_ixS (by decide +kernel) (by omega) (by rw [show (Str.ofString "01234567899900").length = 14 by decide +kernel]; omega) fun c _ hc => ?_
      exact hN _ _ ⟨_, rfl, (show ∀ c ∈ sg (Str.ofString "01234567899900"), c ∈ sg sFIG by decide +kernel) c hc⟩ ‹_›
    · obtain ⟨cs, rfl, hcs⟩ := ones_of hP
      have hj := join_ones cs
      have hsz := sum_ones cs
      rw [List.length_map] at hl
      refine g_join s1 (by tb_rel) (by rw [hsz, show ("" : Str).length = 0 by decide +kernel]; omega) ?_
      have hJ : (Txt.join "" (cs.map one)).length = cs.length := by rw [← sg_len, hj]
      have hF : FigS (Txt.join "" (cs.map one)) := fun c hc => hcs c (by rw [hj] at hc; exact hc)
      generalize Txt.join "" (cs.map one) = t at hJ hF
      have hz : t.length ≤ 300 := by omega
      kopn_word
      · rename_i h9 r H9 g0 g1 s9
        refine g_ixS (by decide +kernel) g0 (by rw [show (Str.ofString "19").length = 2 by decide +kernel]; exact g1) fun c _ hc => ?_
        have hc2 := (show ∀ c ∈ sg (Str.ofString "19"), c ∈ sg sFIG ∧ c ≠ 48 by decide +kernel) c hc
        have h1 := cut_zero h9
        have h2 := len_cutm t
        kopn_word
        refine kk _ _ ?_ (by rw [len_app, h2, show (⟨#[c]⟩ : Str).length = 1 from rfl]; omega) (S.fin s9 (by omega) (by kt_at_notin))
        unfold pointsOk
        rw [fig_endOk (fig_cutS hF _ _) hc2.1 hc2.2, Bool.or_true]
      · rename_i h9
        refine kk _ _ ?_ (by omega) (S.fin s1 (by omega) (by kt_at_notin))
        rw [← pts_eq, decide_eq_false h9, show allIn t sFIG = true from allIn_iff.mpr hF]
        rfl
end

/-! ### what is left of a text without the last signs of one kind -/
def stripE (c : Nat) (cs : List Nat) : List Nat := (cs.reverse.dropWhile (· == c)).reverse
theorem stripE_nil (c : Nat) : stripE c [] = [] := rfl
theorem stripE_eq (c : Nat) (ds : List Nat) : stripE c (ds ++ [c]) = stripE c ds := by
  unfold stripE
  rw [List.reverse_append, List.reverse_singleton, List.singleton_append, List.dropWhile_cons_of_pos (by simp)]
theorem stripE_ne {c d : Nat} (ds : List Nat) (h : d ≠ c) : stripE c (ds ++ [d]) = ds ++ [d] := by
  unfold stripE
  rw [List.reverse_append, List.reverse_singleton, List.singleton_append, List.dropWhile_cons_of_neg (by simpa using h)]
  simp
theorem snoc_cases (cs : List Nat) : cs = [] ∨ ∃ ds d, cs = ds ++ [d] := by
  rcases List.eq_nil_or_concat cs with h | ⟨ds, d, h⟩
  · exact .inl h
  · exact .inr ⟨ds, d, by rw [h]; simp⟩
theorem stripE_split (c : Nat) (cs : List Nat) : ∃ k, cs = stripE c cs ++ List.replicate k c ∧ (stripE c cs = [] ∨ ∃ ds d, stripE c cs = ds ++ [d] ∧ d ≠ c) := by
  induction h : cs.length generalizing cs with
  | zero =>
    obtain rfl := List.eq_nil_of_length_eq_zero h
    exact ⟨0, rfl, .inl rfl⟩
  | succ n ih =>
    rcases snoc_cases cs with rfl | ⟨ds, d, rfl⟩
    · cases h
    · by_cases hd : d = c
      · subst hd
        obtain ⟨k, h1, h2⟩ := ih ds (by simpa using h)
        refine ⟨k + 1, ?_, ?_⟩
        · rw [stripE_eq, List.replicate_succ', ← List.append_assoc, ← h1]
        · rw [stripE_eq]; exact h2
      · exact ⟨0, by rw [stripE_ne ds hd]; simp, .inr ⟨ds, d, stripE_ne ds hd, hd⟩⟩
theorem sg_rstrip (s : Str) (c : Nat) : sg (Txt.rstripChars s (one c)) = stripE c (sg s) := by
  show sg (Txt.stripBy _ false true s) = _
  rw [PyProof.Rows.stripBy_eq, sg_sub]
  simp only [stripLo, stripHi, if_true, Bool.false_eq_true, if_false, List.drop_zero]
  have e : ((one c).cps.contains) = (fun d => d == c) := by
    funext d
    simp [one, Array.contains, eq_comm]
  unfold stripE
  rw [e]
  show (sg s).take (s.length - ((sg s).reverse.takeWhile fun d => d == c).length) = _
  have h := List.takeWhile_append_dropWhile (p := fun d => d == c) (l := (sg s).reverse)
  have h2 : (sg s) = ((sg s).reverse.dropWhile fun d => d == c).reverse ++ ((sg s).reverse.takeWhile fun d => d == c).reverse := by
    rw [← List.reverse_append, h, List.reverse_reverse]
  have h3 : s.length = ((sg s).reverse.dropWhile fun d => d == c).length + ((sg s).reverse.takeWhile fun d => d == c).length := by
    rw [← sg_len, h2]
    simp
  clear h
  generalize ((sg s).reverse.dropWhile fun d => d == c) = A at h2 h3 ⊢
  generalize ((sg s).reverse.takeWhile fun d => d == c) = B at h2 h3 ⊢
  rw [h3, Nat.add_sub_cancel, h2]
  exact List.take_left' (List.length_reverse ..)
theorem sg_cutm (t : Str) : sg (cutS t none (some (-1))) = (sg t).take (t.length - 1) := by
  show (List.toArray _).toList = _
  unfold HT.sIx
  dsimp only
  rw [if_pos (by decide), List.drop_zero, Nat.sub_zero]
  show (sg t).take _ = _
  congr 1
  omega
theorem sg_cutl (t : Str) : sg (cutS t (some (-1)) none) = (sg t).drop (t.length - 1) := by
  show (List.toArray _).toList = _
  unfold HT.sIx
  dsimp only
  rw [if_pos (by decide)]
  show ((sg t).drop _).take _ = _
  rw [List.take_of_length_le (by rw [List.length_drop, sg_len]; omega)]
  congr 1
  omega
theorem cut_last_eq {t : Str} {c : Nat} (h : cutS t (some (-1)) none = one c) : sg t = (sg t).take (t.length - 1) ++ [c] := by
  have h1 := congrArg sg h
  rw [sg_cutl] at h1
  have h2 : (sg t).drop (t.length - 1) = [c] := h1
  rw [← h2, List.take_append_drop]
theorem cut_last_ne {t : Str} {c : Nat} (h : ¬ cutS t (some (-1)) none = one c) : stripE c (sg t) = sg t := by
  rcases snoc_cases (sg t) with e | ⟨ds, d, e⟩
  · rw [e]; rfl
  · rw [e]
    refine stripE_ne ds fun hd => h (str_ext ?_)
    rw [sg_cutl, ← sg_len, e, List.length_append, List.length_singleton, Nat.add_sub_cancel, List.drop_left, hd]
/-- the letters that come next -/
def nxL (cs : List Nat) : Option (List Nat) := if cs.length < 3 then some (cs ++ [97]) else (stripE 122 cs).getLast?.map fun c => (stripE 122 cs).dropLast ++ [c + 1]
theorem nx_fact {l : Str} (h : lettersOk l 3 = true) : (∀ c ∈ sg l, 97 ≤ c ∧ c ≤ 122) ∧ 1 ≤ (sg l).length ∧ (sg l).length ≤ 3 := by
  unfold lettersOk at h
  simp only [Bool.and_eq_true, decide_eq_true_eq] at h
  obtain ⟨⟨h1, h2⟩, h3⟩ := h
  have := sg_len l
  exact ⟨fun c hc => (show ∀ c ∈ sg sABC, 97 ≤ c ∧ c ≤ 122 by decide +kernel) c (allIn_iff.mp h3 c hc), by omega, by omega⟩
theorem abc_of {c : Nat} (h : 97 ≤ c ∧ c ≤ 122) : c ∈ sg sABC := by
  have : ∀ k : Nat, k < 26 → 97 + k ∈ sg sABC := by decide +kernel
  have := this (c - 97) (by omega)
  rwa [show 97 + (c - 97) = c by omega] at this
theorem lets_of {l : Str} (h1 : ∀ c ∈ sg l, 97 ≤ c ∧ c ≤ 122) (h2 : 1 ≤ (sg l).length) (h3 : (sg l).length ≤ 3) : lettersOk l 3 = true := by
  unfold lettersOk
  have := sg_len l
  rw [decide_eq_true (by omega), decide_eq_true (by omega), allIn_iff.mpr fun c hc => abc_of (h1 c hc)]
  rfl
theorem nx_ok {l : Str} (h : lettersOk l 3 = true) {u : List Nat} (e : nxL (sg l) = some u) : lettersOk (⟨u.toArray⟩ : Str) 3 = true := by
  obtain ⟨f1, f2, f3⟩ := nx_fact h
  unfold nxL at e
  split at e
  · cases e
    refine lets_of (fun c hc => ?_) (by show 1 ≤ (sg l ++ [97]).length; rw [List.length_append]; simp only [List.length_singleton]; omega) (by show (sg l ++ [97]).length ≤ 3; rw [List.length_append]; simp only [List.length_singleton]; omega)
    rcases List.mem_append.mp (show c ∈ sg l ++ [97] from hc) with hc | hc
    · exact f1 c hc
    · rw [List.mem_singleton.mp hc]; omega
  · obtain ⟨k, h1, h2⟩ := stripE_split 122 (sg l)
    rcases h2 with h2 | ⟨ds, d, h2, hd⟩
    · rw [h2] at e; cases e
    · rw [h2] at e h1
      simp at e
      subst e
      have fm : ∀ c ∈ ds ++ [d], 97 ≤ c ∧ c ≤ 122 := fun c hc => f1 c (by rw [h1]; exact List.mem_append_left _ hc)
      have hlen : (ds ++ [d]).length ≤ 3 := by have := congrArg List.length h1; rw [List.length_append, List.length_replicate] at this; omega
      have hdm := fm d (by simp)
      refine lets_of (fun c hc => ?_) (by show 1 ≤ (ds ++ [d + 1]).length; simp) (by show (ds ++ [d + 1]).length ≤ 3; simp at hlen ⊢; omega)
      rcases List.mem_append.mp (show c ∈ ds ++ [d + 1] from hc) with hc | hc
      · exact fm c (List.mem_append_left _ hc)
      · rw [List.mem_singleton.mp hc]; omega
def spNxL (K : PySem.W.Frag) (C : Addr) : Sp := fun vs H Q _ => ∃ (l : Str) (Φ : List (V × W)) (mt : List (Addr × (HO → Prop))), vs = [.str l] ∧ lettersOk l 3 = true ∧ S K C H Φ mt ∧ (nxL (sg l) = none → ∀ H', S K C H' Φ mt → Q .non H') ∧ ∀ u H', nxL (sg l) = some u → S K C H' Φ mt → Q (.str ⟨u.toArray⟩) H'
def spLbh (K : PySem.W.Frag) (C : Addr) : Sp := fun vs H Q _ => ∃ (l : Str) (Φ : List (V × W)) (mt : List (Addr × (HO → Prop))), vs = [.str l] ∧ lettersOk l 3 = true ∧ S K C H Φ mt ∧ (nxL (sg l) = none → ∀ H', S K C H' Φ mt → Q (.str "") H') ∧ ∀ u H', nxL (sg l) = some u → S K C H' Φ mt → Q (.str ⟨u.toArray⟩) H'
section
variable {Q : VK} {H : Hp} {t : Str} {d : Nat} {ds : List Nat}
theorem g_ixLast (e : sg t = ds ++ [d]) (hz : t.length ≤ 100000) (k : Q (.str (one d)) H) : rIxS (.str t) (.int (-1)) H Q := by
  refine ⟨t, -1, d, rfl, rfl, sz_of hz, ?_, k⟩
  show atI (sg t) (-1) = _
  rw [e]
  exact atI_last ds d
theorem at_abc {z : Str} (h : 97 ≤ d ∧ d ≤ 121) (hz : ∀ k : Nat, k < 25 → (posn (97 + k) (sg z) 0 (z.length + 1)).take 1 = [k]) (k : Q (.int ((d - 97 : Nat) : Int)) H) : qSindex (.str z) [.str (one d)] H Q := by
  refine ⟨z, one d, d - 97, [], rfl, rfl, ?_, k⟩
  rw [occ_one]
  have := hz (d - 97) (by omega)
  rwa [show 97 + (d - 97) = d by omega] at this
theorem g_idx1 (h : 97 ≤ d ∧ d ≤ 121) (k : Q (.int ((d - 97 : Nat) : Int)) H) : qSindex (.str (Str.ofString "abcdefghijklmnopqrstuvwxyz")) [.str (one d)] H Q := at_abc h (by decide +kernel) k
theorem g_idx2 (h : 97 ≤ d ∧ d ≤ 121) (k : Q (.int ((d - 97 : Nat) : Int)) H) : qSindex (.str (Str.ofString "abcdefghijklmnopqrstuvwxyz{")) [.str (one d)] H Q := at_abc h (by decide +kernel) k
theorem ix_abc {z : Str} (h : 97 ≤ d ∧ d ≤ 121) (hl : z.length ≤ 100000) (hz : ∀ k : Nat, k < 25 → (sg z)[k + 1]? = some (97 + k + 1)) (k : Q (.str (one (d + 1))) H) : rIxS (.str z) (.int (((d - 97 : Nat) : Int) + 1)) H Q := by
  have := hz (d - 97) (by omega)
  rw [show 97 + (d - 97) + 1 = d + 1 by omega] at this
  exact ⟨z, _, d + 1, rfl, rfl, sz_of hl, atI_nat (j := d - 97 + 1) this, k⟩
theorem g_ix1 (h : 97 ≤ d ∧ d ≤ 121) (k : Q (.str (one (d + 1))) H) : rIxS (.str (Str.ofString "abcdefghijklmnopqrstuvwxyz")) (.int (((d - 97 : Nat) : Int) + 1)) H Q := ix_abc h (by decide +kernel) (by decide +kernel) k
theorem g_ix2 (h : 97 ≤ d ∧ d ≤ 121) (k : Q (.str (one (d + 1))) H) : rIxS (.str (Str.ofString "abcdefghijklmnopqrstuvwxyz{")) (.int (((d - 97 : Nat) : Int) + 1)) H Q := ix_abc h (by decide +kernel) (by decide +kernel) k
theorem nx_short {cs : List Nat} (h : cs.length < 3) : nxL cs = some (cs ++ [97]) := by unfold nxL; rw [if_pos h]
theorem nx_none {cs : List Nat} (h : ¬ cs.length < 3) (e : stripE 122 cs = []) : nxL cs = none := by unfold nxL; rw [if_neg h, e]; rfl
theorem nx_some {cs : List Nat} (h : ¬ cs.length < 3) (e : stripE 122 cs = ds ++ [d]) : nxL cs = some (ds ++ [d + 1]) := by unfold nxL; rw [if_neg h, e]; simp
theorem cut_snoc (e : sg t = ds ++ [d]) : cutS t none (some (-1)) ++ one (d + 1) = (⟨(ds ++ [d + 1]).toArray⟩ : Str) := str_ext (by
  rw [sg_app, sg_cutm, ← sg_len, e, List.length_append, List.length_singleton, Nat.add_sub_cancel, List.take_left])
end
section
variable {P : Program} {w : World} {K : PySem.W.Frag} {mg : Str → Option Value} {base : Heap} {Z : Adr} {C : Addr}
theorem ok_letters_behind (T : Txt K mg Z) : FnOk P w K mg base CX0 1 Z.a_letters_behind Z.d_letters_behind ["letters"] (spLbh K Z.C_Mark) := by
  refine T.F_letters_behind.ok sc_letters_behind (fun vs H Q E h => ?_) (fun cdv A outer s H vs Q E hr h => ?_)
  · obtain ⟨_, _, _, rfl, _⟩ := h; rfl
  · obtain ⟨l, Φ, mt, rfl, hl, s, k1, k2⟩ := h
    refine ⟨_, (pss_cons (ps_if (pt_cmpR op_lt (pe_callB (call_lenS) (by rfl) T.n_len (by decide +kernel) (pa_cons (pv 0) pa_nil)) pe_int (nomark _)) (pss_one (ps_ret (pe_op op_addS (pv 0) pe_str))) pss_nil)
      (pss_cons (ps_set (i := 1) sc_letters_behind.nd rfl (.inl rfl) (bmK K PySem.F.plainAttrs_str PySem.F.slot_str_rstrip PySem.F.type_str_rstrip mt_rstripChars (pv 0) (pa_cons pe_str pa_nil)))
      (pss_cons (ps_if (pt_cmpR op_eq (pv 1) pe_str (nomark _)) (pss_one (ps_ret pe_str)) pss_nil)
      (pss_one (ps_ret (pe_op op_addS (pe_slice sl_str (pv 1) po_none (po_some (pe_un un_neg pe_int))) (pe_ix ix_str (pe_gs rfl T.c_SMALL) (pe_op op_add (bmK K PySem.F.plainAttrs_str PySem.F.slot_str_index PySem.F.type_str_index mt_indexQ (pe_gs rfl T.c_SMALL) (pa_cons (pe_ix ix_str (pv 1) (pe_un un_neg pe_int) (fun _ _ => rfl)) pa_nil)) pe_int) (fun _ _ => rfl)))))))), ?_⟩
    obtain ⟨f1, f2, f3⟩ := nx_fact hl
    have hlen := sg_len l
    have ha1 : (Str.ofString "a").length = 1 := by decide +kernel
    have hl3 : l.length ≤ 3 := by omega
    have hz : Str.ofString "z" = one 122 := by decide +kernel
    kxt_pos
    kopn_word
    · rename_i h
      have hQ : ∀ u : Str, u = ⟨(sg l ++ [97]).toArray⟩ → Q (.str u) H := fun u hu => by rw [hu]; exact k2 _ H (nx_short (by omega)) s
      exact hQ _ (str_ext (by rw [sg_app]; rfl))
    · rename_i h
      refine ⟨l, _, rfl, rfl, sz_of (by omega), ?_⟩
      have hb : sg (Txt.rstripChars l (Str.ofString "z")) = stripE 122 (sg l) := by rw [hz, sg_rstrip]
      generalize Txt.rstripChars l (Str.ofString "z") = u at hb
      obtain ⟨k, e1, e2⟩ := stripE_split 122 (sg l)
      have hul : u.length ≤ 3 := by
        have h3 : u.length = (stripE 122 (sg l)).length := by rw [← hb, sg_len]
        have := congrArg List.length e1
        rw [List.length_append] at this
        omega
      kopn_word
      · rename_i h9
        rw [h9] at hb
        exact k1 (nx_none (by omega) (by rw [← hb]; decide +kernel)) H s
      · rename_i h9
        rcases e2 with e2 | ⟨ds, d, e2, hd⟩
        · exact (h9 (str_ext (by rw [hb, e2]; decide +kernel))).elim
        · have hd1 := f1 d (by rw [e1, e2]; simp)
          have hd2 : 97 ≤ d ∧ d ≤ 121 := by omega
          rw [e2] at hb
          refine g_ixLast hb (by omega) ?_
          kopn_word
          refine g_idx1 hd2 ?_
          refine st_go ?_
          refine g_ix1 hd2 ?_
          have hc := len_cutm u
          have h1 : (one (d + 1)).length = 1 := rfl
          kopn_word
          rw [cut_snoc hb]
          exact k2 _ H (nx_some (by omega) e2) s
theorem ok_l_next_letters (T : Txt K mg Z) : FnOk P w K mg base CX0 1 Z.a_l_next_letters Z.d_l_next_letters ["_law_letters_here"] (spNxL K Z.C_Mark) := by
  refine T.F_l_next_letters.ok sc_l_next_letters (fun vs H Q E h => ?_) (fun cdv A outer s H vs Q E hr h => ?_)
  · obtain ⟨_, _, _, rfl, _⟩ := h; rfl
  · obtain ⟨l, Φ, mt, rfl, hl, s, k1, k2⟩ := h
    refine ⟨_, (pss_cons (ps_if (pt_cmpR op_lt (pe_callB (call_lenS) (by rfl) T.n_len (by decide +kernel) (pa_cons (pv 0) pa_nil)) pe_int (nomark _)) (pss_one (ps_ret (pe_op op_addS (pv 0) pe_str))) pss_nil)
      (pss_cons (ps_while PassesOwn.never (pt_cmpR op_eq (pe_slice sl_str (pv 0) (po_some (pe_un un_neg pe_int)) po_none) pe_str (nomark _)) (pss_one (ps_set (i := 0) sc_l_next_letters.nd rfl (.inl rfl) (pe_slice sl_str (pv 0) po_none (po_some (pe_un un_neg pe_int))))))
      (pss_cons (ps_set (i := 1) sc_l_next_letters.nd rfl (.inl rfl) pe_str)
      (pss_one (ps_ret (pe_ifExp (pt_cmpR op_ne (pv 0) pe_str (nomark _)) (pe_op op_addS (pe_slice sl_str (pv 0) po_none (po_some (pe_un un_neg pe_int))) (pe_ix ix_str (pv 1) (pe_op op_add (bmK K PySem.F.plainAttrs_str PySem.F.slot_str_index PySem.F.type_str_index mt_indexQ (pv 1) (pa_cons (pe_ix ix_str (pv 0) (pe_un un_neg pe_int) (fun _ _ => rfl)) pa_nil)) pe_int) (fun _ _ => rfl))) pe_non)))))), ?_⟩
    obtain ⟨f1, f2, f3⟩ := nx_fact hl
    have hlen := sg_len l
    have ha1 : (Str.ofString "a").length = 1 := by decide +kernel
    have hl3 : l.length ≤ 3 := by omega
    have hz : Str.ofString "z" = one 122 := by decide +kernel
    kxt_pos
    kopn_word
    · rename_i h
      have hQ : ∀ u : Str, u = ⟨(sg l ++ [97]).toArray⟩ → Q (.str u) H := fun u hu => by rw [hu]; exact k2 _ H (nx_short (by omega)) s
      exact hQ _ (str_ext (by rw [sg_app]; rfl))
    · rename_i h
      refine ⟨fun μ σ' H' => ∃ t : Str, σ' = [some (.str t), none] ∧ stripE 122 (sg t) = stripE 122 (sg l) ∧ t.length ≤ 3 ∧ μ = t.length ∧ S K Z.C_Mark H' Φ mt, ⟨_, l, rfl, rfl, hl3, rfl, s⟩, ?_⟩
      rintro μ σ3 H3 ⟨t, rfl, ht, htl, rfl, s3⟩
      have hc := len_cutm t
      kopn_word
      · rename_i h9
        have e9 := cut_last_eq (h9.trans hz)
        refine ⟨fun σ' H' => σ' = [some (.str (cutS t none (some (-1)))), none] ∧ S K Z.C_Mark H' Φ mt, ?_, ?_⟩
        · rintro σ' H' ⟨rfl, s'⟩
          have hpos : 1 ≤ t.length := by
            have := congrArg List.length e9
            rw [List.length_append, List.length_singleton, sg_len] at this
            omega
          refine ⟨t.length - 1, by omega, _, rfl, ?_, by omega, by omega, s'⟩
          rw [sg_cutm, ← ht]
          conv => rhs; rw [e9, stripE_eq]
        · kopn_word
          exact ⟨rfl, by kt_ors⟩
      · rename_i h9 h8
        have e9 := cut_last_ne (fun z => h9 (z.trans hz.symm))
        rw [ht, h8] at e9
        exact k1 (nx_none (by omega) (by rw [e9]; decide +kernel)) H3 s3
      · rename_i h9 h8
        have e9 := cut_last_ne (fun z => h9 (z.trans hz.symm))
        rw [ht] at e9
        obtain ⟨k, e1, e2⟩ := stripE_split 122 (sg l)
        rcases e2 with e2 | ⟨ds, d, e2, hd⟩
        · exact (h8 (str_ext (by rw [← e9, e2]; decide +kernel))).elim
        · have hd1 := f1 d (by rw [e1, e2]; simp)
          have hd2 : 97 ≤ d ∧ d ≤ 121 := by omega
          rw [e2] at e9
          refine g_ixLast e9.symm (by omega) ?_
          kopn_word
          refine g_idx2 hd2 ?_
          refine st_go ?_
          refine g_ix2 hd2 ?_
          have h1 : (one (d + 1)).length = 1 := rfl
          kopn_word
          rw [cut_snoc e9.symm]
          exact k2 _ H3 (nx_some (by omega) e2) s3
end

/-! ### points and one more -/
open PySem.NumText in
theorem one_more : ∀ (k : Nat) (ds : List Nat) (d : Nat), 48 ≤ d → d ≤ 56 → digitsVal (ds ++ [d] ++ List.replicate k 57) + 1 = digitsVal (ds ++ [d + 1] ++ List.replicate k 48)
  | 0, ds, d, h1, h2 => by
    simp only [List.replicate_zero, List.append_nil]
    rw [digitsVal_snoc, digitsVal_snoc]
    omega
  | k + 1, ds, d, h1, h2 => by
    have ih := one_more k ds d h1 h2
    rw [List.replicate_succ', List.replicate_succ', ← List.append_assoc, ← List.append_assoc, digitsVal_snoc, digitsVal_snoc, ← ih]
    omega
open PySem.NumText in
theorem all_nines : ∀ k : Nat, digitsVal (List.replicate k 57) + 1 = digitsVal (49 :: List.replicate k 48)
  | 0 => by decide
  | k + 1 => by
    have ih := all_nines k
    rw [List.replicate_succ', List.replicate_succ', ← List.cons_append, digitsVal_snoc, digitsVal_snoc, ← ih]
    omega
theorem drop_zeros (cs : List Nat) : ∃ k, cs = List.replicate k 48 ++ cs.dropWhile (· == 48) := by
  induction cs with
  | nil => exact ⟨0, rfl⟩
  | cons c cs ih =>
    by_cases h : c = 48
    · subst h
      obtain ⟨k, e⟩ := ih
      refine ⟨k + 1, ?_⟩
      rw [List.dropWhile_cons_of_pos (by simp), List.replicate_succ, List.cons_append, ← e]
    · exact ⟨0, by rw [List.dropWhile_cons_of_neg (by simpa using h)]; rfl⟩
theorem num_sg {cs : List Nat} (h : ∀ c ∈ cs, 48 ≤ c ∧ c ≤ 57) (hn : ∃ c ∈ cs, c ≠ 48) : sg (Str.ofString (toString ((PySem.NumText.digitsVal cs : Nat) : Int))) = cs.dropWhile (· == 48) := by
  show (PySem.Str.ofString (toString ((PySem.NumText.digitsVal cs : Nat) : Int))).cps.toList = _
  rw [PySem.W.KIN.signs_num, PySem.NumText.toDigits_all cs h]
  cases e : cs.dropWhile (· == 48) with
  | nil =>
    exfalso
    obtain ⟨c, hc, hne⟩ := hn
    obtain ⟨k, hk⟩ := drop_zeros cs
    rw [e, List.append_nil] at hk
    rw [hk] at hc
    exact hne (List.eq_of_mem_replicate hc)
  | cons c r =>
    show ((c :: r).map Char.ofNat).map Char.toNat = _
    rw [List.map_map]
    have hm : ∀ d ∈ c :: r, (Char.toNat ∘ Char.ofNat) d = d := fun d hd => by
      have hd2 : d ∈ cs := by
        have : d ∈ cs.dropWhile (· == 48) := by rw [e]; exact hd
        exact (List.dropWhile_sublist _).subset this
      have := h d hd2
      have hall : ∀ k : Nat, k < 58 → (Char.toNat ∘ Char.ofNat) k = k := by decide +kernel
      exact hall d (by omega)
    rw [List.map_congr_left hm, List.map_id']
theorem sg_zfill {x : Str} (h : ∀ c, (sg x)[0]? = some c → c ≠ 43 ∧ c ≠ 45) (n : Nat) : sg (Txt.zfill x (n : Int)) = List.replicate (n - (sg x).length) 48 ++ sg x := by
  unfold Txt.zfill
  have hl := sg_len x
  split
  · rename_i h1
    rw [show n - (sg x).length = 0 by omega]
    rfl
  · rename_i h1
    have e : zfilled x ((n : Int).toNat - x.length) = Builtin.Str.padded x ((n : Int).toNat - x.length) 0 48 := by
      unfold zfilled
      have h' : ∀ c, x.cps[0]? = some c → c ≠ 43 ∧ c ≠ 45 := fun c hc => h c (by rw [← hc]; simp [sg])
      split
      · rename_i e; exact absurd rfl (h' _ e).1
      · rename_i e; exact absurd rfl (h' _ e).2
      · rfl
    rw [e, Int.toNat_natCast, hl]
    show (Array.replicate _ 48 ++ x.cps ++ Array.replicate 0 48).toList = _
    simp [sg]
/-- points and one more, as a whole number with noughts ahead: but for the last nines -/
theorem grown_some {p : Str} {ds : List Nat} {d k : Nat} (hf : ∀ c ∈ sg p, 48 ≤ c ∧ c ≤ 57) (e : sg p = ds ++ [d] ++ List.replicate k 57) (hd : d ≠ 57) :
    sg (Txt.zfill (Str.ofString (toString (((PySem.NumText.digitsVal (sg p) : Nat) : Int) + 1))) (p.length : Int)) = ds ++ [d + 1] ++ List.replicate k 48 := by
  have hdd : 48 ≤ d ∧ d ≤ 57 := hf d (by rw [e]; simp)
  have hds : ∀ c ∈ ds, 48 ≤ c ∧ c ≤ 57 := fun c hc => hf c (by rw [e]; simp [hc])
  have h1 : ((PySem.NumText.digitsVal (sg p) : Nat) : Int) + 1 = ((PySem.NumText.digitsVal (ds ++ [d + 1] ++ List.replicate k 48) : Nat) : Int) := by
    rw [← one_more k ds d hdd.1 (by omega), e]
    omega
  rw [h1]
  have hall : ∀ c ∈ ds ++ [d + 1] ++ List.replicate k 48, 48 ≤ c ∧ c ≤ 57 := fun c hc => by
    rcases List.mem_append.mp hc with hc | hc
    · rcases List.mem_append.mp hc with hc | hc
      · exact hds c hc
      · rw [List.mem_singleton.mp hc]; omega
    · rw [List.eq_of_mem_replicate hc]; omega
  have hs := num_sg hall ⟨d + 1, by simp, by omega⟩
  obtain ⟨j, hj⟩ := drop_zeros (ds ++ [d + 1] ++ List.replicate k 48)
  have hlen : p.length = (ds ++ [d + 1] ++ List.replicate k 48).length := by rw [← sg_len, e]; simp
  rw [sg_zfill, hs]
  · rw [hlen]
    clear hs hlen h1 hall
    generalize ds ++ [d + 1] ++ List.replicate k 48 = X at hj ⊢
    generalize X.dropWhile (fun x => x == 48) = Y at hj ⊢
    subst hj
    rw [List.length_append, List.length_replicate, Nat.add_sub_cancel]
  · intro c hc
    rw [hs] at hc
    have : c ∈ ds ++ [d + 1] ++ List.replicate k 48 := (List.dropWhile_sublist _).subset (List.mem_of_getElem? hc)
    have := hall c this
    omega
theorem grown_none {p : Str} {k : Nat} (e : sg p = List.replicate k 57) :
    (Txt.zfill (Str.ofString (toString (((PySem.NumText.digitsVal (sg p) : Nat) : Int) + 1))) (p.length : Int)).length = k + 1 := by
  have h1 : ((PySem.NumText.digitsVal (sg p) : Nat) : Int) + 1 = ((PySem.NumText.digitsVal (49 :: List.replicate k 48) : Nat) : Int) := by
    rw [← all_nines k, e]
    omega
  have hall : ∀ c ∈ 49 :: List.replicate k 48, 48 ≤ c ∧ c ≤ 57 := fun c hc => by
    rcases List.mem_cons.mp hc with rfl | hc
    · omega
    · rw [List.eq_of_mem_replicate hc]; omega
  have hs := num_sg hall ⟨49, by simp, by omega⟩
  rw [List.dropWhile_cons_of_neg (by decide)] at hs
  have hp : p.length = k := by rw [← sg_len, e, List.length_replicate]
  rw [h1, ← sg_len, sg_zfill, hs, hp]
  · simp
  · intro c hc
    rw [hs] at hc
    cases hc
    omega
def bhP (cs : List Nat) : Option (List Nat) := (stripE 57 cs).getLast?.map fun c => (stripE 57 cs).dropLast ++ [c + 1]
theorem bhP_some {cs ds : List Nat} {d : Nat} (e : stripE 57 cs = ds ++ [d]) : bhP cs = some (ds ++ [d + 1]) := by unfold bhP; rw [e]; simp
theorem bhP_none {cs : List Nat} (e : stripE 57 cs = []) : bhP cs = none := by unfold bhP; rw [e]; rfl
def bhd (l : Str) (n : Int) (p : Str) : Option (Str × Int × Str) :=
  match bhP (sg p) with
  | some q => some (l, n, ⟨q.toArray⟩)
  | none => if n < 9999 then some (l, n + 1, "") else (nxL (sg l)).map fun u => (⟨u.toArray⟩, 1, "")
theorem bhd_ok {l p : Str} {n : Int} {z : Nat} (h : HdOk l n p z) {l' p' : Str} {n' : Int} (e : bhd l n p = some (l', n', p')) : HdOk l' n' p' z := by
  obtain ⟨h1, h2, h3, h4⟩ := h
  have pe : pointsOk (Str.ofString "") = true := by decide +kernel
  have pz : (Str.ofString "").length ≤ z := by rw [show (Str.ofString "").length = 0 by decide +kernel]; exact Nat.zero_le _
  unfold bhd at e
  cases hb : bhP (sg p) with
  | some q =>
    rw [hb] at e
    cases e
    obtain ⟨k, e1, e2⟩ := stripE_split 57 (sg p)
    rcases e2 with e2 | ⟨ds, d, e2, hd⟩
    · rw [bhP_none e2] at hb; cases hb
    · rw [bhP_some e2] at hb
      cases hb
      rw [e2] at e1
      have hfig := points_fig h3
      have hdf := fig_dig.mp (hfig d (by rw [e1]; simp))
      refine ⟨h1, h2, ?_, ?_⟩
      · have he : endedOk ((⟨ds.toArray⟩ : Str) ++ ⟨#[d + 1]⟩) = true := fig_endOk (fun c hc => hfig c (by rw [e1]; simp [show c ∈ ds from hc])) (fig_dig.mpr (by omega)) (by omega)
        have : (⟨(ds ++ [d + 1]).toArray⟩ : Str) = (⟨ds.toArray⟩ : Str) ++ ⟨#[d + 1]⟩ := str_ext (by rw [sg_app])
        rw [this]
        unfold pointsOk
        rw [he, Bool.or_true]
      · have := congrArg List.length e1
        rw [sg_len] at this
        show (List.toArray _).size ≤ z
        simp at this ⊢
        omega
  | none =>
    rw [hb] at e
    dsimp only at e
    split at e
    · cases e
      exact ⟨h1, by omega, pe, pz⟩
    · cases hx : nxL (sg l) with
      | none => rw [hx] at e; cases e
      | some u =>
        rw [hx] at e
        cases e
        exact ⟨nx_ok h1 hx, by omega, pe, pz⟩

/-! ### heads: drawn, their texts, what is behind them -/
def spTxH (K : PySem.W.Frag) (C : Addr) : Sp := fun vs H Q _ => ∃ (q : Addr) (l : Str) (i : Int) (p : Str) (Φ : List (V × W)) (mt : List (Addr × (HO → Prop))), vs = [.ref q] ∧ (.ref q, .t [.s l, .i i, .s p]) ∈ Φ ∧ HdOk l i p 235 ∧ S K C H Φ mt ∧ ∀ H', S K C H' Φ mt → Q (.str (HK l i p).text) H'
def spBhL (K : PySem.W.Frag) (C : Addr) : Sp := fun vs H Q _ => ∃ (q : Addr) (l : Str) (i : Int) (p : Str) (Φ : List (V × W)) (mt : List (Addr × (HO → Prop))), vs = [.ref q] ∧ (.ref q, .t [.s l, .i i, .s p]) ∈ Φ ∧ HdOk l i p 235 ∧ S K C H Φ mt ∧
  (bhd l i p = none → ∀ H', S K C H' Φ mt → Q .non H') ∧ ∀ r l' i' p' H', bhd l i p = some (l', i', p') → S K C H' ((.ref r, .t [.s l', .i i', .s p']) :: Φ) mt → Q (.ref r) H'
def spHof (K : PySem.W.Frag) (C : Addr) : Sp := fun vs H Q _ => ∃ (l : Str) (i : Int) (p : Str) (Φ : List (V × W)) (mt : List (Addr × (HO → Prop))), vs = [.str (HK l i p).text] ∧ HdOk l i p 235 ∧ S K C H Φ mt ∧ ∀ x H', S K C H' ((.ref x, .m (HK l i p)) :: Φ) mt → Q (.ref x) H'
def spBhP (K : PySem.W.Frag) (C : Addr) : Sp := fun vs H Q _ => ∃ (l : Str) (i : Int) (p : Str) (Φ : List (V × W)) (mt : List (Addr × (HO → Prop))), vs = [.str (HK l i p).text] ∧ HdOk l i p 235 ∧ S K C H Φ mt ∧
  (bhd l i p = none → ∀ H', S K C H' Φ mt → Q .non H') ∧ ∀ x l' i' p' H', bhd l i p = some (l', i', p') → S K C H' ((.ref x, .m (HK l' i' p')) :: Φ) mt → Q (.ref x) H'
section
variable {K : PySem.W.Frag} {C : Addr} {H : Hp} {Φ : List (V × W)} {mt : List (Addr × (HO → Prop))} {Q : VK} {q : Addr} {E : XK} {l p : Str} {i : Int}
theorem g_slA3 {ws : List W} (s : S K C H Φ mt) (h : (.ref q, .t ws) ∈ Φ) (hl : 3 < ws.length) (k : ∀ r H', S K C H' ((.ref r, .t (ws.drop 3)) :: Φ) mt → Q (.ref r) H') : rSlA K (.ref q) (some 3) none H Q := by
  obtain ⟨vs, h1, h2, s'⟩ := s.openT h
  refine ⟨q, vs, rfl, h1, fun hh => ?_, fun _ r hr => k r _ ?_⟩
  · exfalso
    have : min 3 vs.length = 0 := hh.1
    omega
  · rw [show (some (3 : Int)) = some ((3 : Nat) : Int) from rfl, cutV_from]
    exact (s'.addT hr (Ex.new hr) upd_same (KnL.drop 3 h2)).to (fun z hz => mem3 hz) (List.Sublist.refl _)
theorem g_noMore {a c : Addr} (s : S K C H Φ mt) (h : (.ref q, .t [.t [], .n, .n]) ∈ Φ) (h0 : SqT K H a [.ref c, .non, .non]) (h1 : SqT K H c []) (k : Q (.bl false) H) : rNeD K (.ref q) (.ref a) H Q := by
  refine ⟨.tuple [.tuple [], .none, .none], .tuple [.tuple [], .none, .none], ?_, .tup h0 (.cons (.tup h1 .nil) (.cons .non (.cons .non .nil))), by decide +kernel, by decide +kernel, ?_⟩
  · have := rep_dp (s.rep (.f h)) (by simp [W.plain, W.plains])
    simpa only [W.data, W.datas] using this
  · rw [show PyData.eqv (.tuple [.tuple [], .none, .none]) (.tuple [.tuple [], .none, .none]) = true by decide +kernel]
    exact k
theorem S.drop1 {x y : V × W} (s : S K C H (x :: y :: Φ) mt) : S K C H (x :: Φ) mt := s.to (fun z hz => by
  rcases List.mem_cons.mp hz with rfl | hz
  · exact List.mem_cons_self
  · exact List.mem_cons_of_mem _ (List.mem_cons_of_mem _ hz)) (List.Sublist.refl _)
theorem use_txH (s : S K C H Φ mt) (h : (.ref q, .t [.s l, .i i, .s p]) ∈ Φ) (ok : HdOk l i p 235) (k : ∀ H', S K C H' Φ mt → Q (.str (HK l i p).text) H') : spTxH K C [.ref q] H Q E := ⟨q, l, i, p, Φ, mt, rfl, h, ok, s, k⟩
theorem use_nxL (s : S K C H Φ mt) (hl : lettersOk l 3 = true) (k1 : nxL (sg l) = none → ∀ H', S K C H' Φ mt → Q .non H') (k2 : ∀ u H', nxL (sg l) = some u → S K C H' Φ mt → Q (.str ⟨u.toArray⟩) H') : spNxL K C [.str l] H Q E := ⟨l, Φ, mt, rfl, hl, s, k1, k2⟩
theorem use_lbh (s : S K C H Φ mt) (hl : lettersOk l 3 = true) (k1 : nxL (sg l) = none → ∀ H', S K C H' Φ mt → Q (.str "") H') (k2 : ∀ u H', nxL (sg l) = some u → S K C H' Φ mt → Q (.str ⟨u.toArray⟩) H') : spLbh K C [.str l] H Q E := ⟨l, Φ, mt, rfl, hl, s, k1, k2⟩
theorem use_hof (s : S K C H Φ mt) (ok : HdOk l i p 235) (k : ∀ x H', S K C H' ((.ref x, .m (HK l i p)) :: Φ) mt → Q (.ref x) H') : spHof K C [.str (HK l i p).text] H Q E := ⟨l, i, p, Φ, mt, rfl, ok, s, k⟩
end
theorem head_eq0 {m : MK} (e : m.pts = ("" : Str)) : m.lt ++ ((toString m.num : String) : Str) ++ ("" : Str) = m.head :=
  str_ext (by unfold MK.head; rw [if_pos e]; simp only [List.foldl_cons, List.foldl_nil, sg_app, sg_e, sg_e2, List.append_nil, List.nil_append])
theorem head_eq1 {m : MK} (e : ¬ m.pts = ("" : Str)) : m.lt ++ ((toString m.num : String) : Str) ++ (("." : Str) ++ m.pts) = m.head :=
  str_ext (by unfold MK.head; rw [if_neg e]; simp only [List.foldl_cons, List.foldl_nil, sg_app, sg_e2, List.nil_append, List.append_assoc])
theorem hk_text (l : Str) (i : Int) (p : Str) : (HK l i p).text = (HK l i p).head := str_ext (by rw [text_sg]; simp [HK, yrL, cpL])
local macro_rules | `(tactic| kt_len) => `(tactic| with_reducible first
  | (apply use_letN; (focus (assumption)); (focus (omega)); intro _ _ _ _)
  | (apply use_figN; (focus (assumption)); (focus (omega)); (focus (omega)); (focus (omega)); intro _ _ _ _ _))
theorem pad_ok {n : Nat} (h : n ≤ 300) : PadOk (n : Int) = true := by
  have : ∀ k : Nat, k < 301 → PadOk (k : Int) = true := by decide +kernel
  exact this n (by omega)
theorem stripE_rep (c : Nat) (xs : List Nat) : ∀ k, stripE c (xs ++ List.replicate k c) = stripE c xs
  | 0 => by simp
  | k + 1 => by rw [List.replicate_succ', ← List.append_assoc, stripE_eq, stripE_rep c xs k]
theorem HdOk.ok {l p : Str} {i : Int} {z : Nat} (h : HdOk l i p z) (hz : z ≤ 1000) : (HK l i p).Ok := by
  obtain ⟨h1, h2, h3, h4⟩ := h
  exact { l := h1, n := h2, p := h3, pz := Nat.le_trans h4 hz, k := Nat.zero_le _, ks := fun s hs => (by cases hs), y := fun i h => (by cases h), c := fun i h => (by cases h) }
section
variable {P : Program} {w : World} {K : PySem.W.Frag} {mg : Str → Option Value} {base : Heap} {Z : Adr} {C : Addr}
theorem ok_l_head (T : Txt K mg Z) : FnOk P w K mg base CX0 3 Z.a_l_head Z.d_l_head ["_law_box_here", "_law_most"] (spHdN K Z.C_Mark) := by
  refine T.F_l_head.ok sc_l_head (fun vs H Q E h => ?_) (fun cdv A outer s H vs Q E hr h => ?_)
  · obtain ⟨_, _, _, _, _, rfl, _⟩ := h; rfl
  · obtain ⟨b, k, n, Φ, mt, rfl, rfl, hn, s, kk⟩ := h
    refine ⟨_, (pss_cons (ps_set (i := 2) sc_l_head.nd rfl (.inl rfl) (pe_ix (ixL K) (pe_lst (pa_cons pe_int (pa_cons pe_int (pa_cons pe_int (pa_cons pe_int (pa_cons pe_int (pa_cons pe_int (pa_cons pe_int (pa_cons (pe_op op_add pe_int (pe_call (ok_l_take T) (hr.mono (by decide)) rfl T.g_l_take T.F_l_take.kp T.b_l_take .nil pass0 (pa_cons (pv 0) (pa_cons pe_int pa_nil)))) pa_nil))))))))) (pe_call (ok_l_take T) (hr.mono (by decide)) rfl T.g_l_take T.F_l_take.kp T.b_l_take .nil pass0 (pa_cons (pv 0) (pa_cons pe_int pa_nil))) (fun _ _ => rfl)))
      (pss_cons (ps_set (i := 3) sc_l_head.nd rfl (.inl rfl) (pe_ix (ixL K) (pe_lst (pa_cons pe_int (pa_cons pe_int (pa_cons pe_int (pa_cons pe_int (pa_cons pe_int (pa_cons (pe_op op_add pe_int (pe_call (ok_l_take T) (hr.mono (by decide)) rfl T.g_l_take T.F_l_take.kp T.b_l_take .nil pass0 (pa_cons (pv 0) (pa_cons pe_int pa_nil)))) (pa_cons pe_int (pa_cons (pv 1) pa_nil))))))))) (pe_call (ok_l_take T) (hr.mono (by decide)) rfl T.g_l_take T.F_l_take.kp T.b_l_take .nil pass0 (pa_cons (pv 0) (pa_cons pe_int pa_nil))) (fun _ _ => rfl)))
      (pss_one (ps_ret (pe_tup (pa_cons (pe_call (ok_l_letters T) (hr.mono (by decide)) rfl T.g_l_letters T.F_l_letters.kp T.b_l_letters .nil pass0 (pa_cons (pv 0) pa_nil)) (pa_cons (pv 2) (pa_cons (pe_call (ok_l_figures T) (hr.mono (by decide)) rfl T.g_l_figures T.F_l_figures.kp T.b_l_figures .nil pass0 (pa_cons (pv 0) (pa_cons (pv 3) pa_nil))) pa_nil)))))))), ?_⟩
    kxt_pos
    kopn_word
    refine kk _ _ _ _ _ ⟨by assumption, ?_, by assumption, ?_⟩ (S.fin (by assumption) (by omega) (by kt_at_notin))
    all_goals omega
theorem ok_l_text (T : Txt K mg Z) : FnOk P w K mg base CX0 1 Z.a_l_text Z.d_l_text ["_law_head_here"] (spTxH K Z.C_Mark) := by
  refine T.F_l_text.ok sc_l_text (fun vs H Q E h => ?_) (fun cdv A outer s H vs Q E hr h => ?_)
  · obtain ⟨_, _, _, _, _, _, rfl, _⟩ := h; rfl
  · obtain ⟨q, l, i, p, Φ, mt, rfl, hq, ok, s, kk⟩ := h
    refine ⟨_, (pss_one (ps_ret (pe_op op_addS (pe_op op_addS (pe_ix (ixT K) (pv 0) pe_int (fun _ _ => rfl)) (pe_callTy (call_strI) (by rfl) T.n_str (by decide +kernel) (pa_cons (pe_ix (ixT K) (pv 0) pe_int (fun _ _ => rfl)) pa_nil))) (pe_ifExp (pt_cmpR op_ne (pe_ix (ixT K) (pv 0) pe_int (fun _ _ => rfl)) pe_str (nomark _)) (pe_op op_addS pe_str (pe_ix (ixT K) (pv 0) pe_int (fun _ _ => rfl))) pe_str)))), ?_⟩
    rw [hk_text] at kk
    obtain ⟨h1, h2, h3, h4⟩ := ok
    have hl : (l.length : Int) ≤ 3 := letters_len h1
    have hdt1 : (Str.ofString ".").length = 1 := by decide +kernel
    kxt_pos
    kopn_word
    · rename_i h
      have e : l ++ Str.ofString (toString i) ++ Str.ofString "" = (HK l i p).head := head_eq0 (m := HK l i p) h
      rw [e]
      exact kk _ s
    · rename_i h
      have e : l ++ Str.ofString (toString i) ++ (Str.ofString "." ++ p) = (HK l i p).head := head_eq1 (m := HK l i p) h
      rw [e]
      exact kk _ s
theorem ok_l_behind (T : Txt K mg Z) : FnOk P w K mg base CX0 2 Z.a_l_behind Z.d_l_behind ["_law_head_here"] (spBhL K Z.C_Mark) := by
  refine T.F_l_behind.ok sc_l_behind (fun vs H Q E h => ?_) (fun cdv A outer s H vs Q E hr h => ?_)
  · obtain ⟨_, _, _, _, _, _, rfl, _⟩ := h; rfl
  · obtain ⟨q, l, i, p, Φ, mt, rfl, hq, ok, s, k1, k2⟩ := h
    refine ⟨_, (pss_cons (ps_asg (pv 0) (pg_tup rfl (pgs_cons (pg_name (i := 1) sc_l_behind.nd rfl (.inl rfl)) (pgs_cons (pg_name (i := 2) sc_l_behind.nd rfl (.inl rfl)) (pgs_cons (pg_name (i := 3) sc_l_behind.nd rfl (.inl rfl)) pgs_nil)))))
      (pss_cons (ps_set (i := 4) sc_l_behind.nd rfl (.inl rfl) (bmK K PySem.F.plainAttrs_str PySem.F.slot_str_zfill PySem.F.type_str_zfill mt_zfillQ (pe_callTy (call_strI) (by rfl) T.n_str (by decide +kernel) (pa_cons (pe_op op_add (pe_callTy (call_intS) (by rfl) T.n_int (by decide +kernel) (pa_cons (pe_op op_addS pe_str (pv 3)) pa_nil)) pe_int) pa_nil)) (pa_cons (pe_callB (call_lenS) (by rfl) T.n_len (by decide +kernel) (pa_cons (pv 3) pa_nil)) pa_nil)))
      (pss_cons (ps_if (PW.pt (pw_and (pt_cmpR op_ne (pv 3) pe_str (nomark _)) (pw_and1 (pt_cmpR op_eq (pe_callB (call_lenS) (by rfl) T.n_len (by decide +kernel) (pa_cons (pv 4) pa_nil)) (pe_callB (call_lenS) (by rfl) T.n_len (by decide +kernel) (pa_cons (pv 3) pa_nil)) (nomark _))))) (pss_one (ps_ret (pe_tup (pa_cons (pv 1) (pa_cons (pv 2) (pa_cons (bmK K PySem.F.plainAttrs_str PySem.F.slot_str_rstrip PySem.F.type_str_rstrip mt_rstripChars (pv 4) (pa_cons pe_str pa_nil)) pa_nil)))))) pss_nil)
      (pss_cons (ps_if (pt_cmpR op_lt (pv 2) pe_int (nomark _)) (pss_one (ps_ret (pe_tup (pa_cons (pv 1) (pa_cons (pe_op op_add (pv 2) pe_int) (pa_cons pe_str pa_nil)))))) pss_nil)
      (pss_cons (ps_set (i := 1) sc_l_behind.nd rfl (.inl rfl) (pe_call (ok_l_next_letters T) (hr.mono (by decide)) rfl T.g_l_next_letters T.F_l_next_letters.kp T.b_l_next_letters .nil pass0 (pa_cons (pv 1) pa_nil)))
      (pss_one (ps_ret (pe_ifExp (pt_cmpR op_notNq (pv 1) pe_non (nomark _)) (pe_tup (pa_cons (pv 1) (pa_cons pe_int (pa_cons pe_str pa_nil)))) pe_non)))))))), ?_⟩
    obtain ⟨h1, h2, h3, h4⟩ := ok
    have hfig : ∀ c ∈ sg p, 48 ≤ c ∧ c ≤ 57 := fun c hc => fig_dig.mp (points_fig h3 c hc)
    have hz1 : (Str.ofString "0").length = 1 := by decide +kernel
    have hz0 : (Str.ofString "").length = 0 := by decide +kernel
    have hse : sg (Str.ofString "0" ++ p) = 48 :: sg p := by rw [sg_app]; rfl
    have hv := digitsVal_lt _ (sg p) rfl hfig
    have hv2 : PySem.NumText.digitsVal (sg p) < 2 ^ 1900 := Nat.lt_of_lt_of_le hv (Nat.le_trans (Nat.pow_le_pow_right (by decide) (show _ ≤ 235 by rw [sg_len]; exact h4)) (by decide +kernel))
    have hlog : (((PySem.NumText.digitsVal (sg p) : Nat) : Int) + 1).natAbs.log2 < 1920 := by
      rw [show (((PySem.NumText.digitsVal (sg p) : Nat) : Int) + 1).natAbs = PySem.NumText.digitsVal (sg p) + 1 by omega]
      exact (Nat.log2_lt (by omega)).mpr (Nat.lt_of_le_of_lt (Nat.succ_le_of_lt hv2) (by decide +kernel))
    kxt_pos
    kopn_word
    refine ⟨_, _, rfl, intText_fig (fun c hc => fig_dig.mpr (by
      rw [hse] at hc
      rcases List.mem_cons.mp hc with rfl | hc
      · omega
      · exact hfig c hc)) (by rw [hse]; simp) (by rw [len_app]; omega), by rw [len_app]; omega, ?_⟩
    rw [hse, PySem.NumText.digitsVal_zero]
    kopn_word
    refine ⟨_, _, rfl, rfl, pad_ok (by omega), ?_⟩
    obtain ⟨k, e1, e2⟩ := stripE_split 57 (sg p)
    rcases e2 with e2 | ⟨ds, d, e2, hd⟩
    · rw [e2, List.nil_append] at e1
      have hg := grown_none e1
      have hpk : p.length = k := by rw [← sg_len, e1, List.length_replicate]
      have hb : bhd l i p = if i < 9999 then some (l, i + 1, Str.ofString "") else (nxL (sg l)).map fun u => (⟨u.toArray⟩, 1, Str.ofString "") := by unfold bhd; rw [bhP_none e2]
      generalize Txt.zfill _ _ = G at hg
      kopn_word
      all_goals first
        | exact k2 _ l (i + 1) (Str.ofString "") _ (by rw [hb, if_pos (by omega)]) (by kt_ors)
        | (exfalso; omega)
        | skip
      all_goals
        refine use_nxL s h1 (fun hx H9 s9 => ?_) (fun u H9 hx s9 => ?_)
        · kopn_word
          exact k1 (by rw [hb, if_neg (by omega), hx]; rfl) _ s9
        · kopn_word
          exact k2 _ ⟨u.toArray⟩ 1 (Str.ofString "") _ (by rw [hb, if_neg (by omega), hx]; rfl) (by kt_ors)
    · rw [e2] at e1
      have hg := grown_some hfig e1 hd
      have hgl : (Txt.zfill (Str.ofString (toString (((PySem.NumText.digitsVal (sg p) : Nat) : Int) + 1))) (p.length : Int)).length = p.length := by
        rw [← sg_len, hg, ← sg_len, e1]; simp
      have hp1 : 1 ≤ p.length := by rw [← sg_len, e1]; simp; omega
      have hb : bhd l i p = some (l, i, ⟨(ds ++ [d + 1]).toArray⟩) := by unfold bhd; rw [bhP_some e2]
      generalize Txt.zfill _ _ = G at hg hgl
      have hpne : ¬ p = Str.ofString "" := fun h => by rw [h, hz0] at hp1; omega
      kopn_word
      all_goals first
        | exact (hpne (by assumption)).elim
        | (exfalso; omega)
        | skip
      refine ⟨G, _, rfl, rfl, sz_of (by omega), ?_⟩
      have hst : Txt.rstripChars G (Str.ofString "0") = (⟨(ds ++ [d + 1]).toArray⟩ : Str) := str_ext (by
        rw [show Str.ofString "0" = one 48 by decide +kernel, sg_rstrip, hg, stripE_rep]
        have := hfig d (by rw [e1]; simp)
        exact stripE_ne ds (by omega))
      rw [hst]
      kopn_word
      exact k2 _ l i _ _ hb (by kt_ors)
theorem ok_head_of (T : Txt K mg Z) : FnOk P Z.wd K mg base CX0 12 Z.a_head_of Z.d_head_of ["text"] (spHof K Z.C_Mark) := by
  refine T.F_head_of.ok sc_head_of (fun vs H Q E h => ?_) (fun cdv A outer s H vs Q E hr h => ?_)
  · obtain ⟨_, _, _, _, _, rfl, _⟩ := h; rfl
  · obtain ⟨l, i, p, Φ, mt, rfl, ok, s, kk⟩ := h
    refine ⟨_, (pss_cons (ps_if (pt_not (pt_val (pe_callB (isiK K) (by rfl) T.n_isinstance (by decide +kernel) (pa_cons (pv 0) (pa_cons (pe_bltn (v := .ty "str") (by rfl) T.n_str (by decide +kernel) rfl) pa_nil))))) (pss_one ps_never) pss_nil)
      (pss_cons (ps_asg (pe_call (ok_mark_and_signs T) (hr.mono (by decide)) rfl T.g_mark_and_signs T.F_mark_and_signs.kp T.b_mark_and_signs .nil pass0 (pa_cons (pv 0) pa_nil)) (pg_tup rfl (pgs_cons (pg_name (i := 1) sc_head_of.nd rfl (.inl rfl)) (pgs_cons (pg_name (i := 2) sc_head_of.nd rfl (.inl rfl)) pgs_nil))))
      (pss_cons (ps_if (PW.pt (pw_or (pt_cmpR op_isNq (pv 1) pe_non (nomark _)) (pw_or1 (pt_cmpR (neDK K hr.units) (pe_slice sl_tupA (pe_meth0 (pv 1) T.cl_Mark T.m_Mark_parts (ok_Mark_parts T) (hr.mono (by decide)) T.b_Mark_parts .nil pass0) (po_some pe_int) po_none) (pe_glob (v := .ref Z.k_NO_MORE) rfl T.c_NO_MORE rfl) (nomark _))))) (pss_one ps_never) pss_nil)
      (pss_one (ps_ret (pv 1)))))), ?_⟩
    have okm := ok.ok (by decide)
    have htl : (HK l i p).text.length ≤ 50000 := text_len okm
    kxt_pos
    kopn_word
    rename_i s9
    refine g_slA3 s9 List.mem_cons_self (by simp) fun r1 H3 s3 => ?_
    have s4 : S K Z.C_Mark H3 ((V.ref r1, W.t [W.t [], W.n, W.n]) :: _) mt := s3
    kopn_word
    refine g_noMore s4 List.mem_cons_self (T.t_NO_MORE _) (T.t_NO_MORE_0 _) ?_
    kopn_word
    exact kk _ _ (by kt_ors)
end
local macro_rules | `(tactic| kt_len) => `(tactic| with_reducible first
  | (apply use_hof; (focus (assumption)); (focus (assumption)); intro _ _ _))
section
variable {P : Program} {w : World} {K : PySem.W.Frag} {mg : Str → Option Value} {base : Heap} {Z : Adr} {C : Addr}
theorem ok_behind_head (T : Txt K mg Z) : FnOk P Z.wd K mg base CX0 13 Z.a_behind_head Z.d_behind_head ["text"] (spBhP K Z.C_Mark) := by
  refine T.F_behind_head.ok sc_behind_head (fun vs H Q E h => ?_) (fun cdv A outer s H vs Q E hr h => ?_)
  · obtain ⟨_, _, _, _, _, rfl, _⟩ := h; rfl
  · obtain ⟨l, i, p, Φ, mt, rfl, ok, s, k1, k2⟩ := h
    refine ⟨_, (pss_cons (ps_set (i := 1) sc_behind_head.nd rfl (.inl rfl) (pe_call (ok_head_of T) (hr.mono (by decide)) rfl T.g_head_of T.F_head_of.kp T.b_head_of .nil pass0 (pa_cons (pv 0) pa_nil)))
      (pss_cons (ps_set (i := 2) sc_behind_head.nd rfl (.inl rfl) (bmK K PySem.F.plainAttrs_str PySem.F.slot_str_rstrip PySem.F.type_str_rstrip mt_rstripChars (pe_meth0 (pv 1) T.cl_Mark T.m_Mark_points (ok_Mark_points T) (hr.mono (by decide)) T.b_Mark_points .nil pass0) (pa_cons pe_str pa_nil)))
      (pss_cons (ps_if (pt_cmpR op_ne (pv 2) pe_str (nomark _)) (pss_one (ps_ret (pe_makeD T.M_Mark (ok_Mark_init T) (hr.mono (by decide)) rfl T.g_Mark T.b_Mark_init_4 pass0 (pa_cons (pe_meth0 (pv 1) T.cl_Mark T.m_Mark_letters (ok_Mark_letters T) (hr.mono (by decide)) T.b_Mark_letters .nil pass0) (pa_cons (pe_meth0 (pv 1) T.cl_Mark T.m_Mark_number (ok_Mark_number T) (hr.mono (by decide)) T.b_Mark_number .nil pass0) (pa_cons (pe_op op_addS (pe_slice sl_str (pv 2) po_none (po_some (pe_un un_neg pe_int))) (pe_callTy (call_strI) (by rfl) T.n_str (by decide +kernel) (pa_cons (pe_op op_add (pe_callTy (call_intS) (by rfl) T.n_int (by decide +kernel) (pa_cons (pe_ix ix_str (pv 2) (pe_un un_neg pe_int) (fun _ _ => rfl)) pa_nil)) pe_int) pa_nil))) pa_nil)))))) pss_nil)
      (pss_cons (ps_if (pt_cmpR op_lt (pe_meth0 (pv 1) T.cl_Mark T.m_Mark_number (ok_Mark_number T) (hr.mono (by decide)) T.b_Mark_number .nil pass0) pe_int (nomark _)) (pss_one (ps_ret (pe_makeD T.M_Mark (ok_Mark_init T) (hr.mono (by decide)) rfl T.g_Mark T.b_Mark_init_3 pass0 (pa_cons (pe_meth0 (pv 1) T.cl_Mark T.m_Mark_letters (ok_Mark_letters T) (hr.mono (by decide)) T.b_Mark_letters .nil pass0) (pa_cons (pe_op op_add (pe_meth0 (pv 1) T.cl_Mark T.m_Mark_number (ok_Mark_number T) (hr.mono (by decide)) T.b_Mark_number .nil pass0) pe_int) pa_nil))))) pss_nil)
      (pss_cons (ps_set (i := 3) sc_behind_head.nd rfl (.inl rfl) (pe_call (ok_letters_behind T) (hr.mono (by decide)) rfl T.g_letters_behind T.F_letters_behind.kp T.b_letters_behind .nil pass0 (pa_cons (pe_meth0 (pv 1) T.cl_Mark T.m_Mark_letters (ok_Mark_letters T) (hr.mono (by decide)) T.b_Mark_letters .nil pass0) pa_nil)))
      (pss_one (ps_ret (pe_ifExp (pt_cmpR op_eq (pv 3) pe_str (nomark _)) pe_non (pe_makeD T.M_Mark (ok_Mark_init T) (hr.mono (by decide)) rfl T.g_Mark T.b_Mark_init_3 pass0 (pa_cons (pv 3) (pa_cons pe_int pa_nil))))))))))), ?_⟩
    have okm := ok.ok (by decide)
    obtain ⟨h1, h2, h3, h4⟩ := id ok
    have hfig : ∀ c ∈ sg p, 48 ≤ c ∧ c ≤ 57 := fun c hc => fig_dig.mp (points_fig h3 c hc)
    kxt_pos
    kopn_word
    rename_i x H1 s1 H2 s2
    have hz0 : (Str.ofString "").length = 0 := by decide +kernel
    have hz9 : Str.ofString "9" = one 57 := by decide +kernel
    refine ⟨p, _, rfl, rfl, sz_of (by omega), ?_⟩
    obtain ⟨k, e1, e2⟩ := stripE_split 57 (sg p)
    have hB : sg (Txt.rstripChars p (Str.ofString "9")) = stripE 57 (sg p) := by rw [hz9, sg_rstrip]
    generalize Txt.rstripChars p (Str.ofString "9") = B at hB
    rcases e2 with e2 | ⟨ds, d, e2, hd⟩
    · have hb : bhd l i p = if i < 9999 then some (l, i + 1, Str.ofString "") else (nxL (sg l)).map fun u => (⟨u.toArray⟩, 1, Str.ofString "") := by unfold bhd; rw [bhP_none e2]
      rw [e2] at hB
      have hBe : B = Str.ofString "" := str_ext (by rw [hB]; decide +kernel)
      subst hBe
      kopn_word
      · rename_i hi H3 s3 H4 s4
        change i < 9999 at hi
        have hok : HdOk l (i + 1) (Str.ofString "") 235 := bhd_ok ok (by rw [hb, if_pos hi])
        refine g_mark (lt := l) (num := i + 1) (pts := Str.ofString "") (ks := []) (yr := none) (cp := none) s4 (fun _ => by with_unfolding_all rfl) inferInstance inferInstance mkin_n (hok.ok (by decide)) fun x' H' s9 => ?_
        exact k2 _ l (i + 1) (Str.ofString "") _ (by rw [hb, if_pos hi]) (S.drop1 s9)
      · rename_i hi H3 s3
        change ¬ i < 9999 at hi
        show spLbh K Z.C_Mark [V.str l] _ _ _
        refine use_lbh s3 h1 (fun hx H9 s9 => ?_) (fun u H9 hx s9 => ?_)
        · kopn_word
          exact k1 (by rw [hb, if_neg hi, hx]; rfl) _ (by kt_ors)
        · have hbu : bhd l i p = some (⟨u.toArray⟩, 1, Str.ofString "") := by rw [hb, if_neg hi, hx]; rfl
          have hok := bhd_ok ok hbu
          have hul := (nx_fact hok.hl).2.1
          have hune : ¬ (⟨u.toArray⟩ : Str) = Str.ofString "" := fun h => by
            rw [h, sg_len, hz0] at hul
            omega
          kopn_word
          · exact (hune (by assumption)).elim
          · refine g_mark (lt := ⟨u.toArray⟩) (num := 1) (pts := Str.ofString "") (ks := []) (yr := none) (cp := none) s9 (fun _ => by with_unfolding_all rfl) inferInstance inferInstance mkin_n (hok.ok (by decide)) fun x' H' s9 => ?_
            exact k2 _ ⟨u.toArray⟩ 1 (Str.ofString "") _ hbu (S.drop1 s9)
    · rw [e2] at e1 hB
      have hb : bhd l i p = some (l, i, ⟨(ds ++ [d + 1]).toArray⟩) := by unfold bhd; rw [bhP_some e2]
      have hBl : B.length ≤ p.length := by rw [← sg_len, hB, ← sg_len p, e1]; simp
      have hB1 : 1 ≤ B.length := by rw [← sg_len, hB]; simp
      have hBne : ¬ B = Str.ofString "" := fun h => by rw [h, hz0] at hB1; omega
      have hok := bhd_ok ok hb
      have hdd := hfig d (by rw [e1]; simp)
      have hit : PySem.intText? (one d) = some (((d - 48 : Nat)) : Int) := by
        have := intText_fig (s := one d) (fig_one (fig_dig.mpr hdd)) (by simp [one, sg]) (by rw [len_one]; decide)
        rw [this]
        show some ((PySem.NumText.digitsVal [d] : Nat) : Int) = _
        rw [show ([d] : List Nat) = [] ++ [d] from rfl, PySem.NumText.digitsVal_snoc]
        simp [PySem.NumText.digitsVal]
      have hstr : Str.ofString (toString (((d - 48 : Nat) : Int) + 1)) = one (d + 1) := by
        have : ∀ k : Nat, k < 9 → Str.ofString (toString ((k : Int) + 1)) = one (48 + k + 1) := by decide +kernel
        have := this (d - 48) (by omega)
        rwa [show 48 + (d - 48) + 1 = d + 1 by omega] at this
      have hc := len_cutm B
      kopn_word
      all_goals first
        | exact (hBne (by assumption)).elim
        | skip
      refine g_ixLast hB (by omega) ?_
      kopn_word
      refine ⟨_, _, rfl, hit, by rw [len_one]; decide, ?_⟩
      kopn_word
      rename_i s5 _
      rw [hstr, cut_snoc hB]
      refine g_mark (lt := l) (num := i) (pts := ⟨(ds ++ [d + 1]).toArray⟩) (ks := []) (yr := none) (cp := none) s5 (fun _ => by with_unfolding_all rfl) inferInstance inferInstance mkin_n (hok.ok (by decide)) fun x' H' s9 => ?_
      exact k2 _ l i _ _ hb (S.drop1 s9)
end

/-! ### a head near another one -/
def spNeH (K : PySem.W.Frag) (C : Addr) : Sp := fun vs H Q _ => ∃ (b q : Addr) (k : Int) (n : Nat) (l : Str) (i : Int) (p : Str) (Φ : List (V × W)) (mt : List (Addr × (HO → Prop))), vs = [.ref b, .ref q, .int k] ∧ k = 232 ∧ n ≤ 800000 ∧ (.ref q, .t [.s l, .i i, .s p]) ∈ Φ ∧ HdOk l i p 232 ∧ S K C H Φ ((b, IsBoxN n) :: mt) ∧
  ∀ q' l' i' p' H', HdOk l' i' p' 235 → S K C H' ((.ref q', .t [.s l', .i i', .s p']) :: Φ) ((b, IsBoxN (n + 350)) :: mt) → Q (.ref q') H'
theorem HdOk.mono {l p : Str} {i : Int} {z y : Nat} (h : HdOk l i p z) (hz : z ≤ y) : HdOk l i p y := ⟨h.hl, h.hn, h.hp, Nat.le_trans h.hz hz⟩
theorem pts_app {a m : Str} (ha : FigS a) (hm : pointsOk m = true) (h1 : 1 ≤ m.length) : pointsOk (a ++ m) = true := by
  have he := points_ended hm (fun h => by rw [h, show (Str.ofString "").length = 0 by decide +kernel] at h1; omega)
  obtain ⟨fs, c, e1, e2, e3, e4⟩ := ended_sg he
  have : a ++ m = (⟨(sg a ++ fs).toArray⟩ : Str) ++ ⟨#[c]⟩ := str_ext (by rw [sg_app, sg_app, e1, ← List.append_assoc])
  rw [this]
  unfold pointsOk
  rw [fig_endOk (fun d hd => ?_) e3 e4, Bool.or_true]
  rcases List.mem_append.mp (show d ∈ sg a ++ fs from hd) with h | h
  · exact ha d h
  · exact e2 d h
section
variable {K : PySem.W.Frag} {C : Addr} {H : Hp} {Φ : List (V × W)} {mt : List (Addr × (HO → Prop))} {Q : VK} {q b : Addr} {E : XK} {l p : Str} {i : Int} {n : Nat}
def OrW (K : PySem.W.Frag) (tb : TE) (σ : L2.St) (Q : VK) (x : V) (H2 : Hp) : Prop := ∃ b, TruV K x H2 b ∧ if b = true then Q x H2 else tb σ H2 Q
instance {ta tb : TE} {σ : L2.St} : St1 (tOrT K ta tb σ H Q) (ta σ H fun x H2 => OrW K tb σ Q x H2) := ⟨fun h => h⟩
theorem g_orNn {tb : TE} {σ : L2.St} (k : tb σ H Q) : OrW K tb σ Q .non H := ⟨false, rfl, by rw [if_neg Bool.false_ne_true]; exact k⟩
theorem g_orU {tb : TE} {σ : L2.St} {w : W} {ws : List W} (s : S K C H Φ mt) (h : (.ref q, .t (w :: ws)) ∈ Φ) (k : Q (.ref q) H) : OrW K tb σ Q (.ref q) H := by
  obtain ⟨vs, h1, h2, _⟩ := s.openT h
  refine ⟨true, .inr (.inl ⟨vs, h1, ?_⟩), by rw [if_pos rfl]; exact k⟩
  cases vs with
  | nil => cases h2
  | cons => rfl
theorem g_orS {tb : TE} {σ : L2.St} {t : Str} (h1 : 1 ≤ t.length) (h2 : t.length ≤ 100000) (k : Q (.str t) H) : OrW K tb σ Q (.str t) H := by
  refine ⟨true, ⟨sz_of h2, ?_⟩, by rw [if_pos rfl]; exact k⟩
  have : ((t.length : Int) != 0) = true := by rw [bne_iff_ne]; omega
  exact this.symm
theorem use_bhLo {tb : TE} {σ : L2.St} (s : S K C H Φ mt) (h : (.ref q, .t [.s l, .i i, .s p]) ∈ Φ) (ok : HdOk l i p 235) (k1 : ∀ H', S K C H' Φ mt → tb σ H' Q) (k2 : ∀ r l' i' p' H', HdOk l' i' p' 235 → S K C H' ((.ref r, .t [.s l', .i i', .s p']) :: Φ) mt → Q (.ref r) H') : spBhL K C [.ref q] H (fun x H2 => OrW K tb σ Q x H2) E :=
  ⟨q, l, i, p, Φ, mt, rfl, h, ok, s, fun _ H' s' => g_orNn (k1 H' s'), fun r l' i' p' H' e s' => g_orU s' List.mem_cons_self (k2 r l' i' p' H' (bhd_ok ok e) s')⟩
theorem use_nxLo {tb : TE} {σ : L2.St} (s : S K C H Φ mt) (hl : lettersOk l 3 = true) (k1 : ∀ H', S K C H' Φ mt → tb σ H' Q) (k2 : ∀ (u : Str) H', lettersOk u 3 = true → S K C H' Φ mt → Q (.str u) H') : spNxL K C [.str l] H (fun x H2 => OrW K tb σ Q x H2) E :=
  ⟨l, Φ, mt, rfl, hl, s, fun _ H' s' => g_orNn (k1 H' s'), fun u H' e s' => by
    have ho := nx_ok hl e
    obtain ⟨_, f2, f3⟩ := nx_fact ho
    rw [sg_len] at f2 f3
    exact g_orS f2 (by omega) (k2 _ H' ho s')⟩
theorem len_cutTo (t : Str) (k : Int) : (cutS t none (some k)).length ≤ t.length := by
  rw [len_cutS]
  omega
theorem cat_zz {p t : Str} {k : Int} (hp : p.length ≤ 232) (ht : t.length ≤ 300) : (cutS p none (some k)).length + t.length ≤ 100000 := by
  have := len_cutTo p k
  omega
theorem len_cutTo2 (t : Str) {k : Int} (h : 0 ≤ k) : ((cutS t none (some k)).length : Int) ≤ k := by
  rw [len_cutS]
  unfold HT.sIx
  dsimp only
  rw [if_neg (by omega)]
  omega
theorem cut_le3 {p t : Str} {r : Int} (h0 : 0 ≤ r) (h : r + (t.length : Int) ≤ 232) : (cutS p none (some r) ++ t).length ≤ 235 := by
  rw [len_app]
  have := len_cutTo2 p h0
  omega
theorem use_neH (s : S K C H Φ ((b, IsBoxN n) :: mt)) (hn : n ≤ 800000) (h : (.ref q, .t [.s l, .i i, .s p]) ∈ Φ) (ok : HdOk l i p 232) (k : ∀ q' l' i' p' H', HdOk l' i' p' 235 → S K C H' ((.ref q', .t [.s l', .i i', .s p']) :: Φ) ((b, IsBoxN (n + 350)) :: mt) → Q (.ref q') H') : spNeH K C [.ref b, .ref q, .int 232] H Q E := ⟨b, q, 232, n, l, i, p, Φ, mt, rfl, rfl, hn, h, ok, s, k⟩
end
local macro_rules | `(tactic| kcf_m) => `(tactic| (apply cat_zz; (focus (assumption)); (focus (omega))))
local macro_rules | `(tactic| kt_len) => `(tactic| with_reducible first
  | (apply use_bhLo; (focus (assumption)); (focus (tb_rel)); (focus (assumption)); all_goals intros)
  | (apply use_nxLo; (focus (assumption)); (focus (assumption)); all_goals intros))
section
variable {P : Program} {w : World} {K : PySem.W.Frag} {mg : Str → Option Value} {base : Heap} {Z : Adr} {C : Addr}
theorem ok_l_near (T : Txt K mg Z) : FnOk P w K mg base CX0 4 Z.a_l_near Z.d_l_near ["_law_box_here", "_law_head_here", "_law_most"] (spNeH K Z.C_Mark) := by
  refine T.F_l_near.ok sc_l_near (fun vs H Q E h => ?_) (fun cdv A outer s H vs Q E hr h => ?_)
  · obtain ⟨_, _, _, _, _, _, _, _, _, rfl, _⟩ := h; rfl
  · obtain ⟨b, q, k, n, l, i, p, Φ, mt, rfl, rfl, hn, hq, ok, s, kk⟩ := h
    refine ⟨_, (pss_cons (ps_asg (pv 1) (pg_tup rfl (pgs_cons (pg_name (i := 3) sc_l_near.nd rfl (.inl rfl)) (pgs_cons (pg_name (i := 4) sc_l_near.nd rfl (.inl rfl)) (pgs_cons (pg_name (i := 5) sc_l_near.nd rfl (.inl rfl)) pgs_nil)))))
      (pss_cons (ps_set (i := 6) sc_l_near.nd rfl (.inl rfl) (pe_call (ok_l_take T) (hr.mono (by decide)) rfl T.g_l_take T.F_l_take.kp T.b_l_take .nil pass0 (pa_cons (pv 0) (pa_cons pe_int pa_nil))))
      (pss_cons (ps_set (i := 7) sc_l_near.nd rfl (.inl rfl) (pe_call (ok_l_take T) (hr.mono (by decide)) rfl T.g_l_take T.F_l_take.kp T.b_l_take .nil pass0 (pa_cons (pv 0) (pa_cons (pe_op op_add (pe_callB (call_lenS) (by rfl) T.n_len (by decide +kernel) (pa_cons (pv 5) pa_nil)) pe_int) pa_nil))))
      (pss_cons (ps_set (i := 8) sc_l_near.nd rfl (.inl rfl) (pe_call (ok_l_figures T) (hr.mono (by decide)) rfl T.g_l_figures T.F_l_figures.kp T.b_l_figures .nil pass0 (pa_cons (pv 0) (pa_cons (pe_op op_add pe_int (pe_call (ok_l_take T) (hr.mono (by decide)) rfl T.g_l_take T.F_l_take.kp T.b_l_take .nil pass0 (pa_cons (pv 0) (pa_cons pe_int pa_nil)))) pa_nil))))
      (pss_cons (ps_if (PW.pt (pw_and (pt_cmpR op_lt (pv 6) pe_int (nomark _)) (pw_and1 (pt_cmpR op_le (pe_op op_add (pe_callB (call_lenS) (by rfl) T.n_len (by decide +kernel) (pa_cons (pv 5) pa_nil)) (pe_callB (call_lenS) (by rfl) T.n_len (by decide +kernel) (pa_cons (pv 8) pa_nil))) (pv 2) (nomark _))))) (pss_one (ps_ret (pe_tup (pa_cons (pv 3) (pa_cons (pv 4) (pa_cons (pe_op op_addS (pv 5) (pv 8)) pa_nil)))))) pss_nil)
      (pss_cons (ps_if (pt_cmpR op_eq (pv 6) pe_int (nomark _)) (pss_one (ps_ret (pe_tup (pa_cons (pv 3) (pa_cons (pv 4) (pa_cons (bmK K PySem.F.plainAttrs_str PySem.F.slot_str_rstrip PySem.F.type_str_rstrip mt_rstripChars (pe_slice sl_str (pv 5) po_none (po_some (pv 7))) (pa_cons pe_str pa_nil)) pa_nil)))))) pss_nil)
      (pss_cons (ps_if (PW.pt (pw_and (pt_cmpR op_eq (pv 6) pe_int (nomark _)) (pw_and (pt_cmpR op_ne (pe_op op_addS (pe_slice sl_str (pv 5) po_none (po_some (pv 7))) (pv 8)) (pv 5) (nomark _)) (pw_and1 (pt_cmpR op_le (pe_op op_add (pv 7) (pe_callB (call_lenS) (by rfl) T.n_len (by decide +kernel) (pa_cons (pv 8) pa_nil))) (pv 2) (nomark _)))))) (pss_one (ps_ret (pe_tup (pa_cons (pv 3) (pa_cons (pv 4) (pa_cons (pe_op op_addS (pe_slice sl_str (pv 5) po_none (po_some (pv 7))) (pv 8)) pa_nil)))))) pss_nil)
      (pss_cons (ps_if (pt_cmpR op_eq (pv 6) pe_int (nomark _)) (pss_one (ps_ret (pe_tup (pa_cons (pv 3) (pa_cons (pe_callB (call_maxq rfl) (by rfl) T.n_max (by decide +kernel) (pa_cons pe_int (pa_cons (pe_callB (call_minq rfl) (by rfl) T.n_min (by decide +kernel) (pa_cons pe_int (pa_cons (pe_op op_sub (pe_op op_add (pv 4) (pe_call (ok_l_take T) (hr.mono (by decide)) rfl T.g_l_take T.F_l_take.kp T.b_l_take .nil pass0 (pa_cons (pv 0) (pa_cons pe_int pa_nil)))) pe_int) pa_nil))) pa_nil))) (pa_cons (pv 5) pa_nil)))))) pss_nil)
      (pss_cons (ps_if (pt_cmpR op_eq (pv 6) pe_int (nomark _)) (pss_one (ps_ret (pe_orT (pe_call (ok_l_behind T) (hr.mono (by decide)) rfl T.g_l_behind T.F_l_behind.kp T.b_l_behind .nil pass0 (pa_cons (pv 1) pa_nil)) (pe_one (pv 1))))) pss_nil)
      (pss_cons (ps_if (pt_cmpR op_eq (pv 6) pe_int (nomark _)) (pss_one (ps_ret (pe_tup (pa_cons (pe_orT (pe_call (ok_l_next_letters T) (hr.mono (by decide)) rfl T.g_l_next_letters T.F_l_next_letters.kp T.b_l_next_letters .nil pass0 (pa_cons (pv 3) pa_nil)) (pe_one (pv 3))) (pa_cons (pv 4) (pa_cons pe_str pa_nil)))))) pss_nil)
      (pss_one (ps_ret (pe_ifExp (pt_cmpR op_eq (pv 6) pe_int (nomark _)) (pe_tup (pa_cons (pv 3) (pa_cons (pv 4) (pa_cons pe_str pa_nil)))) (pv 1)))))))))))))), ?_⟩
    obtain ⟨h1, h2, h3, h4⟩ := id ok
    have hf := points_fig h3
    have ok5 := ok.mono (show 232 ≤ 235 by decide)
    have pe : pointsOk (Str.ofString "") = true := by decide +kernel
    have pz : (Str.ofString "").length = 0 := by decide +kernel
    kxt_pos
    kopn_word
    all_goals first
      | (exfalso; omega)
      | skip
    all_goals try (refine ⟨_, _, rfl, rfl, sz_of (Nat.le_trans (len_cutTo _ _) (by omega)), ?_⟩; kopn_word)
    all_goals first
      | exact kk _ _ _ _ _ ok5 (S.fin (by assumption) (by omega) (by kt_at_notin))
      | (refine kk _ _ _ _ _ ?_ (S.fin (by assumption) (by omega) (by kt_at_notin)); assumption)
      | (refine kk _ _ _ _ _ ?_ (S.fin (by assumption) (by omega) (by kt_at_notin))
         refine ⟨by assumption, ?_, ?_, ?_⟩
         · first
             | exact h2
             | (constructor <;> (repeat' split) <;> omega)
         · first
             | exact h3
             | exact pe
             | exact (strip_ok (fig_cutS hf _ _)).1
             | exact pts_app hf (by assumption) (by omega)
             | exact pts_app (fig_cutS hf _ _) (by assumption) (by omega)
         · first
             | omega
             | (rw [len_app]; omega)
             | exact Nat.le_trans (strip_ok (fig_cutS hf _ _)).2 (Nat.le_trans (len_cutTo _ _) (by omega))
             | exact cut_le3 (by assumption) (by assumption))
      | skip
end

/-! ### the law -/
def spRgt (K : PySem.W.Frag) (C : Addr) : Sp := fun vs H Q _ => ∃ (q : Addr) (l : Str) (i : Int) (p : Str) (Φ : List (V × W)) (mt : List (Addr × (HO → Prop))), vs = [.ref q] ∧ (.ref q, .t [.s l, .i i, .s p]) ∈ Φ ∧ HdOk l i p 235 ∧ S K C H Φ mt ∧ ∀ H', S K C H' Φ mt → Q (.bl true) H'
def spLaw (K : PySem.W.Frag) : Sp := fun vs H Q _ => ∃ (a : Addr) (ns : List Int), vs = [.ref a] ∧ SqL K H a (ns.map V.int) ∧ ns.length ≤ 63 ∧ ∀ H', Q (.bl true) H'
section
variable {K : PySem.W.Frag} {C : Addr} {H : Hp} {Φ : List (V × W)} {mt : List (Addr × (HO → Prop))} {Q : VK} {q : Addr} {E : XK} {l p : Str} {i : Int}
def IsiM (K : PySem.W.Frag) (C : Addr) : Prop := ∀ (H : Hp) (x dx : Addr) (fs : List (Str × V)), H x = some (.ins C dx fs) → TyX K H (.ref x) (.ref C)
theorem g_isiM {x : Addr} {m : MK} (s : S K C H Φ mt) (hI : IsiM K C) (h : (.ref x, .m m) ∈ Φ) (k : Q (.bl true) H) : rIsi K [.ref x, .ref C] H Q := by
  obtain ⟨⟨dx, pa, ma, h1, _, _⟩, _⟩ := s.mark h
  exact ⟨_, _, _, _, true, rfl, .own C, hI H x dx _ h1, kit_self, k⟩
theorem g_nePH {a b : Addr} (s : S K C H Φ mt) (h1 : (.ref a, .t [.s (HK l i p).lt, .i (HK l i p).num, .s (HK l i p).pts, .t ((HK l i p).mks.map W.s), W.o (HK l i p).yr, W.o (HK l i p).cp]) ∈ Φ) (h2 : (.ref b, .t [.s l, .i i, .s p, .t [], .n, .n]) ∈ Φ) (ok : HdOk l i p 235) (k : Q (.bl false) H) : rNeD K (.ref a) (.ref b) H Q := by
  have o1 := strOk_of (letters_in ok.hl) abc_ok
  have o2 := points_str ok.hp
  have hc : (PyData.tuple [.str l, .int i, .str p, .tuple [], .none, .none]).canLay0 = true := by simp [PyData.canLay0, PyData.canLayAll0, o1, o2]
  have hs : SeqAt.shaped (.tuple [.str l, .int i, .str p, .tuple [], .none, .none]) = true := by
    unfold SeqAt.shaped
    rw [hc]
    simp [PyData.depth, PyData.depthAll]
  refine ⟨.tuple [.str l, .int i, .str p, .tuple [], .none, .none], .tuple [.str l, .int i, .str p, .tuple [], .none, .none], ?_, ?_, hs, hs, ?_⟩
  · have := rep_dp (s.rep (.f h1)) (by simp [W.plain, W.plains, HK, W.o])
    simpa [W.data, W.datas, HK, W.o] using this
  · have := rep_dp (s.rep (.f h2)) (by simp [W.plain, W.plains])
    simpa [W.data, W.datas] using this
  · rw [SeqAt.eqv_refl _ hc]
    exact k
theorem use_rgt (s : S K C H Φ mt) (h : (.ref q, .t [.s l, .i i, .s p]) ∈ Φ) (ok : HdOk l i p 235) (k : ∀ H', S K C H' Φ mt → Q (.bl true) H') : spRgt K C [.ref q] H Q E := ⟨q, l, i, p, Φ, mt, rfl, h, ok, s, k⟩
theorem use_bhPn (s : S K C H Φ mt) (ok : HdOk l i p 235) (hb : bhd l i p = none) (k : ∀ H', S K C H' Φ mt → Q .non H') : spBhP K C [.str (HK l i p).text] H Q E :=
  ⟨l, i, p, Φ, mt, rfl, ok, s, fun _ => k, fun x l' i' p' H' e => by rw [hb] at e; cases e⟩
theorem use_bhPs {l' p' : Str} {i' : Int} (s : S K C H Φ mt) (ok : HdOk l i p 235) (hb : bhd l i p = some (l', i', p')) (k : ∀ x H', S K C H' ((.ref x, .m (HK l' i' p')) :: Φ) mt → Q (.ref x) H') : spBhP K C [.str (HK l i p).text] H Q E :=
  ⟨l, i, p, Φ, mt, rfl, ok, s, (fun e => by rw [hb] at e; cases e), (fun x l2 i2 p2 H' e s' => by rw [hb] at e; cases e; exact k x H' s')⟩
theorem use_bhL (s : S K C H Φ mt) (h : (.ref q, .t [.s l, .i i, .s p]) ∈ Φ) (ok : HdOk l i p 235) (k1 : bhd l i p = none → ∀ H', S K C H' Φ mt → Q .non H') (k2 : ∀ r l' i' p' H', bhd l i p = some (l', i', p') → S K C H' ((.ref r, .t [.s l', .i i', .s p']) :: Φ) mt → Q (.ref r) H') : spBhL K C [.ref q] H Q E := ⟨q, l, i, p, Φ, mt, rfl, h, ok, s, k1, k2⟩
end
local macro_rules | `(tactic| kt_at_get) => `(tactic| with_reducible first
  | refine st_go ?_
  | ((show rNeD _ _ _ _ _); apply g_nePH; (focus (assumption)); (focus (tb_rel)); (focus (tb_rel)); (focus (assumption)))
  | (apply g_isiM; (focus (assumption)); (focus (assumption)); (focus (tb_rel))))
local macro_rules | `(tactic| kt_len) => `(tactic| with_reducible first
  | (apply use_txH; (focus (assumption)); (focus (tb_rel)); (focus (assumption)); intro _ _)
  | (apply use_bhPn; (focus (assumption)); (focus (assumption)); (focus (assumption)); intro _ _)
  | (apply use_bhPs; (focus (assumption)); (focus (assumption)); (focus (assumption)); intro _ _ _)
  | (apply use_rgt; (focus (assumption)); (focus (tb_rel)); (focus (first | assumption | (apply HdOk.mono; (focus (assumption)); (focus (decide))))); intro _ _)
  | (apply use_hdN; (focus (assumption)); (focus (omega)); intro _ _ _ _ _ _ _)
  | (apply use_neH; (focus (assumption)); (focus (omega)); (focus (tb_rel)); (focus (assumption)); intro _ _ _ _ _ _ _))
section
variable {P : Program} {w : World} {K : PySem.W.Frag} {mg : Str → Option Value} {base : Heap} {Z : Adr} {C : Addr}
theorem ok_l_right (T : Txt K mg Z) : FnOk P Z.wd K mg base CX0 15 Z.a_l_right Z.d_l_right ["_law_head_here"] (spRgt K Z.C_Mark) := by
  refine T.F_l_right.ok sc_l_right (fun vs H Q E h => ?_) (fun cdv A outer s H vs Q E hr h => ?_)
  · obtain ⟨_, _, _, _, _, _, rfl, _⟩ := h; rfl
  · obtain ⟨q, l, i, p, Φ, mt, rfl, hq, ok, s, kk⟩ := h
    refine ⟨_, (pss_cons (ps_set (i := 1) sc_l_right.nd rfl (.inl rfl) (pe_call (ok_l_text T) (hr.mono (by decide)) rfl T.g_l_text T.F_l_text.kp T.b_l_text .nil pass0 (pa_cons (pv 0) pa_nil)))
      (pss_cons (ps_set (i := 2) sc_l_right.nd rfl (.inl rfl) (pe_call (ok_l_behind T) (hr.mono (by decide)) rfl T.g_l_behind T.F_l_behind.kp T.b_l_behind .nil pass0 (pa_cons (pv 0) pa_nil)))
      (pss_cons (ps_for PassesOwn.never rfl (pi_list (pe_lst (pa_cons (pe_call (ok_behind_head T) (hr.mono (by decide)) rfl T.g_behind_head T.F_behind_head.kp T.b_behind_head .nil pass0 (pa_cons (pv 1) pa_nil)) (pa_cons (pe_call (ok_behind_head T) (hr.mono (by decide)) rfl T.g_behind_head T.F_behind_head.kp T.b_behind_head .nil pass0 (pa_cons (pv 1) pa_nil)) pa_nil)))) (pg_name (i := 3) sc_l_right.nd rfl (.inl rfl)) (pss_one (ps_if (pt_cmpR op_isNq (pv 2) pe_non (nomark _)) (pss_one (ps_if (pt_cmpR op_notNq (pv 3) pe_non (nomark _)) (pss_one (ps_ret pe_bl)) pss_nil)) (pss_one (ps_if (PW.pt (pw_or (pt_not (pt_val (pe_callB (isiK K) (by rfl) T.n_isinstance (by decide +kernel) (pa_cons (pv 3) (pa_cons (pe_glob (v := .ref Z.C_Mark) rfl T.g_Mark rfl) pa_nil))))) (pw_or1 (pt_cmpR op_ne (pe_callTy (call_strOwn (ok_Mark_str T) (hr.mono (by decide)) T.m_Mark_str T.b_Mark_str pass0) (by rfl) T.n_str (by decide +kernel) (pa_cons (pv 3) pa_nil)) (pe_call (ok_l_text T) (hr.mono (by decide)) rfl T.g_l_text T.F_l_text.kp T.b_l_text .nil pass0 (pa_cons (pv 2) pa_nil)) (nomark _))))) (pss_one (ps_ret pe_bl)) (pss_one (ps_if (pt_cmpR (neDK K hr.units) (pe_meth0 (pv 3) T.cl_Mark T.m_Mark_parts (ok_Mark_parts T) (hr.mono (by decide)) T.b_Mark_parts .nil pass0) (pe_tup (pa_cons (pe_ix (ixT K) (pv 2) pe_int (fun _ _ => rfl)) (pa_cons (pe_ix (ixT K) (pv 2) pe_int (fun _ _ => rfl)) (pa_cons (pe_ix (ixT K) (pv 2) pe_int (fun _ _ => rfl)) (pa_cons tup0 (pa_cons pe_non (pa_cons pe_non pa_nil))))))) (nomark _)) (pss_one (ps_ret pe_bl)) pss_nil)))))))
      (pss_one (ps_ret pe_bl))))), ?_⟩
    have hI : IsiM K Z.C_Mark := fun _ _ _ _ e => .base (.ins e T.cl_Mark T.t1_Mark T.t2_Mark T.t3_Mark T.t4_Mark)
    kxt_pos
    kopn_word
    rename_i H1 s1
    refine use_bhL s1 hq ok (fun hb H2 s2 => ?_) (fun r l' i' p' H2 hb s2 => ?_)
    · kopn_word
      exact kk _ (by kt_ors)
    · have ok' := bhd_ok ok hb
      kopn_word
      exact kk _ (by kt_ors)
theorem ok_law (T : Txt K mg Z) : FnOk P Z.wd K mg base CX0 16 Z.a_law Z.d_law ["_law_script"] (spLaw K) := by
  refine T.F_law.ok sc_law (fun vs H Q E h => ?_) (fun cdv A outer' s H vs Q E hr h => ?_)
  · obtain ⟨a, ns, rfl, _⟩ := h; rfl
  · obtain ⟨a, ns, rfl, hS, hlen, kk⟩ := h
    refine ⟨_, (pss_cons (ps_for PassesOwn.never rfl (pi_range1 rfl T.n_range (pa_cons (pe_callB (call_maxq rfl) (by rfl) T.n_max (by decide +kernel) (pa_cons pe_int (pa_cons (pe_callB (call_minq rfl) (by rfl) T.n_min (by decide +kernel) (pa_cons (pe_callB (lenQ K) (by rfl) T.n_len (by decide +kernel) (pa_cons (pv 0) pa_nil)) (pa_cons pe_int pa_nil))) pa_nil))) pa_nil)) (pg_name (i := 1) sc_law.nd rfl (.inl rfl)) (pss_cons (ps_set (i := 2) sc_law.nd rfl (.inl rfl) (pe_call (ok_l_box T) (hr.mono (by decide)) rfl T.g_l_box T.F_l_box.kp T.b_l_box .nil pass0 (pa_cons (pe_call (ok_l_cell T) (hr.mono (by decide)) rfl T.g_l_cell T.F_l_cell.kp T.b_l_cell .nil pass0 (pa_cons (pv 0) (pa_cons (pv 1) pa_nil))) pa_nil)))
      (pss_cons (ps_set (i := 3) sc_law.nd rfl (.inl rfl) (pe_call (ok_l_head T) (hr.mono (by decide)) rfl T.g_l_head T.F_l_head.kp T.b_l_head .nil pass0 (pa_cons (pv 2) (pa_cons pe_int pa_nil))))
      (pss_cons (ps_if (pt_not (pt_val (pe_call (ok_l_right T) (hr.mono (by decide)) rfl T.g_l_right T.F_l_right.kp T.b_l_right .nil pass0 (pa_cons (pv 3) pa_nil)))) (pss_one (ps_ret pe_bl)) pss_nil)
      (pss_one (ps_for PassesOwn.never rfl (pi_range1 rfl T.n_range (pa_cons pe_int pa_nil)) (pg_name (i := 4) sc_law.nd rfl (.inl rfl)) (pss_one (ps_if (pt_not (pt_val (pe_call (ok_l_right T) (hr.mono (by decide)) rfl T.g_l_right T.F_l_right.kp T.b_l_right .nil pass0 (pa_cons (pe_call (ok_l_near T) (hr.mono (by decide)) rfl T.g_l_near T.F_l_near.kp T.b_l_near .nil pass0 (pa_cons (pv 2) (pa_cons (pv 3) (pa_cons pe_int pa_nil)))) pa_nil)))) (pss_one (ps_ret pe_bl)) pss_nil))))))))
      (pss_one (ps_ret pe_bl))), ?_⟩
    have s := S.start (C := Z.C_Mark) hS
    kxt_pos
    kopn_word
    generalize hN : ((if (if 4 < (ns.length : Int) then 4 else (ns.length : Int)) > 2 then if 4 < (ns.length : Int) then 4 else (ns.length : Int) else 2) : Int).toNat = N
    have hN4 : N ≤ 4 := by
      rw [← hN]
      split
      · split <;> omega
      · omega
    clear hN
    refine g_forR (fun j σ' H' => ∃ v1 v2 v3 v4 : Option V, σ' = [some (.ref a), v1, v2, v3, v4] ∧ S K Z.C_Mark H' [(.ref a, .q ns)] []) ⟨_, _, _, _, rfl, s⟩ (fun j σ' H' hj g => ?_) (fun σ' H' g => ?_)
    · obtain ⟨v1, v2, v3, v4, rfl, s1⟩ := g
      have hj : j < 4 := by omega
      kopn_word
      rename_i r1 H1 s2 b H2 s3 q l i p H3 ok s4 H4 s5
      refine g_forR (fun j' σ' H' => ∃ v4 : Option V, σ' = [some (.ref a), some (.int (0 + (j : Int))), some (.ref b), some (.ref q), v4] ∧ S K Z.C_Mark H' [(.ref q, .t [.s l, .i i, .s p]), (.ref a, .q ns)] [(b, IsBoxN (350 + j' * 350))]) ⟨_, rfl, ?_⟩ (fun j' σ' H' hj' g => ?_) (fun σ' H' g => ?_)
      · exact S.more s5 (by omega)
      · obtain ⟨v4, rfl, s6⟩ := g
        have hj' : j' < 3 := hj'
        kopn_word
        rename_i s9
        refine ⟨_, rfl, ?_⟩
        have := (S.more (m := 350 + (j' + 1) * 350) s9 (by omega))
        kt_ors
      · obtain ⟨v4, rfl, s6⟩ := g
        kopn_word
        exact ⟨_, _, _, _, rfl, by kt_ors⟩
    · obtain ⟨v1, v2, v3, v4, rfl, s1⟩ := g
      kopn_word
      exact kk _
end

/-! ### what the top has written, the head -/
theorem all_mk {l : PySem.W.OpenLaw} {w : World} {K : PySem.W.Frag} {h : Heap} {mg : Str → Option Value} {fa : Addr} (X : K.In h) (G : h.Ns mainGlobals mg) (hfa : mg "law" = some (.ref fa))
    {C_Mark : Addr}
    {f_is_number : Addr} {od_is_number an_is_number : Option Addr} {sl_is_number : Array (Option Value)} {oc_is_number kV_is_number dc_is_number pm_is_number cd_is_number ct_is_number : Value}
    {f_is_whole : Addr} {od_is_whole an_is_whole : Option Addr} {sl_is_whole : Array (Option Value)} {oc_is_whole kV_is_whole dc_is_whole pm_is_whole cd_is_whole ct_is_whole : Value}
    {dT_is_whole : Addr} {do_is_whole : Obj} {dn_is_whole : Nat} {dus_is_whole : List Value}
    {f_is_figures : Addr} {od_is_figures an_is_figures : Option Addr} {sl_is_figures : Array (Option Value)} {oc_is_figures kV_is_figures dc_is_figures pm_is_figures cd_is_figures ct_is_figures : Value}
    {f_is_letters : Addr} {od_is_letters an_is_letters : Option Addr} {sl_is_letters : Array (Option Value)} {oc_is_letters kV_is_letters dc_is_letters pm_is_letters cd_is_letters ct_is_letters : Value}
    {f_is_points : Addr} {od_is_points an_is_points : Option Addr} {sl_is_points : Array (Option Value)} {oc_is_points kV_is_points dc_is_points pm_is_points cd_is_points ct_is_points : Value}
    {f_is_maker : Addr} {od_is_maker an_is_maker : Option Addr} {sl_is_maker : Array (Option Value)} {oc_is_maker kV_is_maker dc_is_maker pm_is_maker cd_is_maker ct_is_maker : Value}
    {f_is_ended : Addr} {od_is_ended an_is_ended : Option Addr} {sl_is_ended : Array (Option Value)} {oc_is_ended kV_is_ended dc_is_ended pm_is_ended cd_is_ended ct_is_ended : Value}
    {f_Mark_init : Addr} {od_Mark_init an_Mark_init : Option Addr} {sl_Mark_init : Array (Option Value)} {oc_Mark_init kV_Mark_init dc_Mark_init pm_Mark_init cd_Mark_init ct_Mark_init : Value}
    {dT_Mark_init : Addr} {do_Mark_init : Obj} {dn_Mark_init : Nat} {dus_Mark_init : List Value}
    {f_Mark_eq : Addr} {od_Mark_eq an_Mark_eq : Option Addr} {sl_Mark_eq : Array (Option Value)} {oc_Mark_eq kV_Mark_eq dc_Mark_eq pm_Mark_eq cd_Mark_eq ct_Mark_eq : Value}
    {f_Mark_str : Addr} {od_Mark_str an_Mark_str : Option Addr} {sl_Mark_str : Array (Option Value)} {oc_Mark_str kV_Mark_str dc_Mark_str pm_Mark_str cd_Mark_str ct_Mark_str : Value}
    {f_Mark_repr : Addr} {od_Mark_repr an_Mark_repr : Option Addr} {sl_Mark_repr : Array (Option Value)} {oc_Mark_repr kV_Mark_repr dc_Mark_repr pm_Mark_repr cd_Mark_repr ct_Mark_repr : Value}
    {f_Mark_len : Addr} {od_Mark_len an_Mark_len : Option Addr} {sl_Mark_len : Array (Option Value)} {oc_Mark_len kV_Mark_len dc_Mark_len pm_Mark_len cd_Mark_len ct_Mark_len : Value}
    {f_Mark_letters : Addr} {od_Mark_letters an_Mark_letters : Option Addr} {sl_Mark_letters : Array (Option Value)} {oc_Mark_letters kV_Mark_letters dc_Mark_letters pm_Mark_letters cd_Mark_letters ct_Mark_letters : Value}
    {f_Mark_number : Addr} {od_Mark_number an_Mark_number : Option Addr} {sl_Mark_number : Array (Option Value)} {oc_Mark_number kV_Mark_number dc_Mark_number pm_Mark_number cd_Mark_number ct_Mark_number : Value}
    {f_Mark_points : Addr} {od_Mark_points an_Mark_points : Option Addr} {sl_Mark_points : Array (Option Value)} {oc_Mark_points kV_Mark_points dc_Mark_points pm_Mark_points cd_Mark_points ct_Mark_points : Value}
    {f_Mark_makers : Addr} {od_Mark_makers an_Mark_makers : Option Addr} {sl_Mark_makers : Array (Option Value)} {oc_Mark_makers kV_Mark_makers dc_Mark_makers pm_Mark_makers cd_Mark_makers ct_Mark_makers : Value}
    {f_Mark_year : Addr} {od_Mark_year an_Mark_year : Option Addr} {sl_Mark_year : Array (Option Value)} {oc_Mark_year kV_Mark_year dc_Mark_year pm_Mark_year cd_Mark_year ct_Mark_year : Value}
    {f_Mark_copy_number : Addr} {od_Mark_copy_number an_Mark_copy_number : Option Addr} {sl_Mark_copy_number : Array (Option Value)} {oc_Mark_copy_number kV_Mark_copy_number dc_Mark_copy_number pm_Mark_copy_number cd_Mark_copy_number ct_Mark_copy_number : Value}
    {f_Mark_parts : Addr} {od_Mark_parts an_Mark_parts : Option Addr} {sl_Mark_parts : Array (Option Value)} {oc_Mark_parts kV_Mark_parts dc_Mark_parts pm_Mark_parts cd_Mark_parts ct_Mark_parts : Value}
    {f_Mark_key : Addr} {od_Mark_key an_Mark_key : Option Addr} {sl_Mark_key : Array (Option Value)} {oc_Mark_key kV_Mark_key dc_Mark_key pm_Mark_key cd_Mark_key ct_Mark_key : Value}
    {f_Mark_ahead : Addr} {od_Mark_ahead an_Mark_ahead : Option Addr} {sl_Mark_ahead : Array (Option Value)} {oc_Mark_ahead kV_Mark_ahead dc_Mark_ahead pm_Mark_ahead cd_Mark_ahead ct_Mark_ahead : Value}
    {f_Mark_head : Addr} {od_Mark_head an_Mark_head : Option Addr} {sl_Mark_head : Array (Option Value)} {oc_Mark_head kV_Mark_head dc_Mark_head pm_Mark_head cd_Mark_head ct_Mark_head : Value}
    {f_Mark_book : Addr} {od_Mark_book an_Mark_book : Option Addr} {sl_Mark_book : Array (Option Value)} {oc_Mark_book kV_Mark_book dc_Mark_book pm_Mark_book cd_Mark_book ct_Mark_book : Value}
    {f_Mark_with_year : Addr} {od_Mark_with_year an_Mark_with_year : Option Addr} {sl_Mark_with_year : Array (Option Value)} {oc_Mark_with_year kV_Mark_with_year dc_Mark_with_year pm_Mark_with_year cd_Mark_with_year ct_Mark_with_year : Value}
    {dT_Mark_with_year : Addr} {do_Mark_with_year : Obj} {dn_Mark_with_year : Nat} {dus_Mark_with_year : List Value}
    {f_Mark_with_copy : Addr} {od_Mark_with_copy an_Mark_with_copy : Option Addr} {sl_Mark_with_copy : Array (Option Value)} {oc_Mark_with_copy kV_Mark_with_copy dc_Mark_with_copy pm_Mark_with_copy cd_Mark_with_copy ct_Mark_with_copy : Value}
    {dT_Mark_with_copy : Addr} {do_Mark_with_copy : Obj} {dn_Mark_with_copy : Nat} {dus_Mark_with_copy : List Value}
    {f_Mark_same_book : Addr} {od_Mark_same_book an_Mark_same_book : Option Addr} {sl_Mark_same_book : Array (Option Value)} {oc_Mark_same_book kV_Mark_same_book dc_Mark_same_book pm_Mark_same_book cd_Mark_same_book ct_Mark_same_book : Value}
    {f_mark_of_key : Addr} {od_mark_of_key an_mark_of_key : Option Addr} {sl_mark_of_key : Array (Option Value)} {oc_mark_of_key kV_mark_of_key dc_mark_of_key pm_mark_of_key cd_mark_of_key ct_mark_of_key : Value}
    {f_kept_makers : Addr} {od_kept_makers an_kept_makers : Option Addr} {sl_kept_makers : Array (Option Value)} {oc_kept_makers kV_kept_makers dc_kept_makers pm_kept_makers cd_kept_makers ct_kept_makers : Value}
    {f_text_of : Addr} {od_text_of an_text_of : Option Addr} {sl_text_of : Array (Option Value)} {oc_text_of kV_text_of dc_text_of pm_text_of cd_text_of ct_text_of : Value}
    {f_ending : Addr} {od_ending an_ending : Option Addr} {sl_ending : Array (Option Value)} {oc_ending kV_ending dc_ending pm_ending cd_ending ct_ending : Value}
    {f_behind_letters : Addr} {od_behind_letters an_behind_letters : Option Addr} {sl_behind_letters : Array (Option Value)} {oc_behind_letters kV_behind_letters dc_behind_letters pm_behind_letters cd_behind_letters ct_behind_letters : Value}
    {f_behind_number : Addr} {od_behind_number an_behind_number : Option Addr} {sl_behind_number : Array (Option Value)} {oc_behind_number kV_behind_number dc_behind_number pm_behind_number cd_behind_number ct_behind_number : Value}
    {f_behind_point : Addr} {od_behind_point an_behind_point : Option Addr} {sl_behind_point : Array (Option Value)} {oc_behind_point kV_behind_point dc_behind_point pm_behind_point cd_behind_point ct_behind_point : Value}
    {f_behind_points : Addr} {od_behind_points an_behind_points : Option Addr} {sl_behind_points : Array (Option Value)} {oc_behind_points kV_behind_points dc_behind_points pm_behind_points cd_behind_points ct_behind_points : Value}
    {f_behind_blank : Addr} {od_behind_blank an_behind_blank : Option Addr} {sl_behind_blank : Array (Option Value)} {oc_behind_blank kV_behind_blank dc_behind_blank pm_behind_blank cd_behind_blank ct_behind_blank : Value}
    {f_behind_c : Addr} {od_behind_c an_behind_c : Option Addr} {sl_behind_c : Array (Option Value)} {oc_behind_c kV_behind_c dc_behind_c pm_behind_c cd_behind_c ct_behind_c : Value}
    {f_behind_letter : Addr} {od_behind_letter an_behind_letter : Option Addr} {sl_behind_letter : Array (Option Value)} {oc_behind_letter kV_behind_letter dc_behind_letter pm_behind_letter cd_behind_letter ct_behind_letter : Value}
    {f_behind_maker : Addr} {od_behind_maker an_behind_maker : Option Addr} {sl_behind_maker : Array (Option Value)} {oc_behind_maker kV_behind_maker dc_behind_maker pm_behind_maker cd_behind_maker ct_behind_maker : Value}
    {f_behind_year : Addr} {od_behind_year an_behind_year : Option Addr} {sl_behind_year : Array (Option Value)} {oc_behind_year kV_behind_year dc_behind_year pm_behind_year cd_behind_year ct_behind_year : Value}
    {f_behind_copy : Addr} {od_behind_copy an_behind_copy : Option Addr} {sl_behind_copy : Array (Option Value)} {oc_behind_copy kV_behind_copy dc_behind_copy pm_behind_copy cd_behind_copy ct_behind_copy : Value}
    {f_behind_copied : Addr} {od_behind_copied an_behind_copied : Option Addr} {sl_behind_copied : Array (Option Value)} {oc_behind_copied kV_behind_copied dc_behind_copied pm_behind_copied cd_behind_copied ct_behind_copied : Value}
    {f_is_first : Addr} {od_is_first an_is_first : Option Addr} {sl_is_first : Array (Option Value)} {oc_is_first kV_is_first dc_is_first pm_is_first cd_is_first ct_is_first : Value}
    {f_mark_and_signs : Addr} {od_mark_and_signs an_mark_and_signs : Option Addr} {sl_mark_and_signs : Array (Option Value)} {oc_mark_and_signs kV_mark_and_signs dc_mark_and_signs pm_mark_and_signs cd_mark_and_signs ct_mark_and_signs : Value}
    {f_key_written : Addr} {od_key_written an_key_written : Option Addr} {sl_key_written : Array (Option Value)} {oc_key_written kV_key_written dc_key_written pm_key_written cd_key_written ct_key_written : Value}
    {f_walked : Addr} {od_walked an_walked : Option Addr} {sl_walked : Array (Option Value)} {oc_walked kV_walked dc_walked pm_walked cd_walked ct_walked : Value}
    {f_last_figure : Addr} {od_last_figure an_last_figure : Option Addr} {sl_last_figure : Array (Option Value)} {oc_last_figure kV_last_figure dc_last_figure pm_last_figure cd_last_figure ct_last_figure : Value}
    {f_head_of : Addr} {od_head_of an_head_of : Option Addr} {sl_head_of : Array (Option Value)} {oc_head_of kV_head_of dc_head_of pm_head_of cd_head_of ct_head_of : Value}
    {f_behind_head : Addr} {od_behind_head an_behind_head : Option Addr} {sl_behind_head : Array (Option Value)} {oc_behind_head kV_behind_head dc_behind_head pm_behind_head cd_behind_head ct_behind_head : Value}
    {f_letters_behind : Addr} {od_letters_behind an_letters_behind : Option Addr} {sl_letters_behind : Array (Option Value)} {oc_letters_behind kV_letters_behind dc_letters_behind pm_letters_behind cd_letters_behind ct_letters_behind : Value}
    {f_l_cell : Addr} {od_l_cell an_l_cell : Option Addr} {sl_l_cell : Array (Option Value)} {oc_l_cell kV_l_cell dc_l_cell pm_l_cell cd_l_cell ct_l_cell : Value}
    {f_l_box : Addr} {od_l_box an_l_box : Option Addr} {sl_l_box : Array (Option Value)} {oc_l_box kV_l_box dc_l_box pm_l_box cd_l_box ct_l_box : Value}
    {f_l_take : Addr} {od_l_take an_l_take : Option Addr} {sl_l_take : Array (Option Value)} {oc_l_take kV_l_take dc_l_take pm_l_take cd_l_take ct_l_take : Value}
    {f_l_letters : Addr} {od_l_letters an_l_letters : Option Addr} {sl_l_letters : Array (Option Value)} {oc_l_letters kV_l_letters dc_l_letters pm_l_letters cd_l_letters ct_l_letters : Value}
    {f_l_figures : Addr} {od_l_figures an_l_figures : Option Addr} {sl_l_figures : Array (Option Value)} {oc_l_figures kV_l_figures dc_l_figures pm_l_figures cd_l_figures ct_l_figures : Value}
    {f_l_head : Addr} {od_l_head an_l_head : Option Addr} {sl_l_head : Array (Option Value)} {oc_l_head kV_l_head dc_l_head pm_l_head cd_l_head ct_l_head : Value}
    {f_l_text : Addr} {od_l_text an_l_text : Option Addr} {sl_l_text : Array (Option Value)} {oc_l_text kV_l_text dc_l_text pm_l_text cd_l_text ct_l_text : Value}
    {f_l_next_letters : Addr} {od_l_next_letters an_l_next_letters : Option Addr} {sl_l_next_letters : Array (Option Value)} {oc_l_next_letters kV_l_next_letters dc_l_next_letters pm_l_next_letters cd_l_next_letters ct_l_next_letters : Value}
    {f_l_behind : Addr} {od_l_behind an_l_behind : Option Addr} {sl_l_behind : Array (Option Value)} {oc_l_behind kV_l_behind dc_l_behind pm_l_behind cd_l_behind ct_l_behind : Value}
    {f_l_near : Addr} {od_l_near an_l_near : Option Addr} {sl_l_near : Array (Option Value)} {oc_l_near kV_l_near dc_l_near pm_l_near cd_l_near ct_l_near : Value}
    {f_l_right : Addr} {od_l_right an_l_right : Option Addr} {sl_l_right : Array (Option Value)} {oc_l_right kV_l_right dc_l_right pm_l_right cd_l_right ct_l_right : Value}
    {f_law : Addr} {od_law an_law : Option Addr} {sl_law : Array (Option Value)} {oc_law kV_law dc_law pm_law cd_law ct_law : Value}
    {tk_SMALL : Tok}
    {tk_FIGURES : Tok}
    {k_START : Addr}
    {ko_START : Obj} {kn_START : Nat} {ku_START : List Value}
    {tk_MOST_LETTERS : Tok}
    {tk_MOST_MAKERS : Tok}
    {tk_BEHIND_YEAR : Tok}
    {k_COPY_ENDS : Addr}
    {ko_COPY_ENDS : Obj} {kn_COPY_ENDS : Nat} {ku_COPY_ENDS : List Value}
    {k_ENDLESS : Addr} {kes_ENDLESS : Array DictEntry} {ken_ENDLESS : Nat}
    {k_STEPS : Addr} {kes_STEPS : Array DictEntry} {ken_STEPS : Nat}
    {tk_MOST_WITHOUT_RUNS : Tok}
    {k_NO_MORE k_NO_MORE_0 : Addr}
    {ko_NO_MORE : Obj} {kn_NO_MORE : Nat} {ku_NO_MORE : List Value}
    {ko_NO_MORE_0 : Obj} {kn_NO_MORE_0 : Nat} {ku_NO_MORE_0 : List Value}
    (aC_Mark : PySem.W.nsIn K mainGlobals "Mark" = some (some (.ref C_Mark)))
    (pg_Mark : PySem.W.plainGet K C_Mark Str.empty = true)
    (hd_Mark : PySem.W.hasDictIn K C_Mark = true)
    (po_Mark : PySem.W.plainOver K C_Mark = true)
    (sa_Mark : PySem.W.findIn K (.ref C_Mark) "__setattr__" = some (some (.builtin "object.__setattr__")))
    (mk_Mark : PySem.W.makesIn K C_Mark = true)
    (kc_Mark : PySem.W.keepIn K (.ref C_Mark) = true)
    (t1_Mark : PySem.W.findIn K (.ref C_Mark) "__class__" = some (some (.builtin "object.__class__")))
    (t4_Mark : PySem.W.mroIn K C_Mark (.type "object") = some true)
    (t2_Mark : PySem.W.specialIn K (.builtin "object.__class__") "__get__" = some (some (.builtin "getset_descriptor.__get__")))
    (t3_Mark : PySem.W.takesIn K (.builtin "object.__class__") = some true)
    (ne_Mark : PySem.W.findIn K (.ref C_Mark) "__ne__" = some (some (.builtin "object.__ne__")))
    (ic_Mark : PySem.W.isClsIn K C_Mark = true)
    (ty_Mark : PySem.W.typeIn K (.ref C_Mark) = some (.type "type"))
    (na_Mark_parts : PySem.W.findIn K (.ref C_Mark) "_parts" = some none)
    (na_Mark_text : PySem.W.findIn K (.ref C_Mark) "_text" = some none)
    (a_is_number : PySem.W.nsIn K mainGlobals "is_number" = some (some (.ref f_is_number)))
    (l_is_number : K.lookup f_is_number = some ⟨oc_is_number, od_is_number, .func (PySem.W.fnOf "is_number" "is_number" (defArgs s_is_number) (defBody s_is_number) (defScope s_is_number) .none kV_is_number dc_is_number pm_is_number an_is_number cd_is_number ct_is_number), sl_is_number⟩)
    (c_is_number : PySem.W.codeIn K cd_is_number "is_number" = true)
    (k_is_number : PySem.W.keepIn K (.ref f_is_number) = true)
    (a_is_whole : PySem.W.nsIn K mainGlobals "is_whole" = some (some (.ref f_is_whole)))
    (l_is_whole : K.lookup f_is_whole = some ⟨oc_is_whole, od_is_whole, .func (PySem.W.fnOf "is_whole" "is_whole" (defArgs s_is_whole) (defBody s_is_whole) (defScope s_is_whole) (.ref dT_is_whole) kV_is_whole dc_is_whole pm_is_whole an_is_whole cd_is_whole ct_is_whole), sl_is_whole⟩)
    (c_is_whole : PySem.W.codeIn K cd_is_whole "is_whole" = true)
    (k_is_whole : PySem.W.keepIn K (.ref f_is_whole) = true)
    (e_is_whole : K.lookup dT_is_whole = some do_is_whole)
    (x_is_whole : do_is_whole.data = .seq dus_is_whole.toArray dn_is_whole)
    (v_is_whole : Vals [.non] dus_is_whole)
    (a_is_figures : PySem.W.nsIn K mainGlobals "is_figures" = some (some (.ref f_is_figures)))
    (l_is_figures : K.lookup f_is_figures = some ⟨oc_is_figures, od_is_figures, .func (PySem.W.fnOf "is_figures" "is_figures" (defArgs s_is_figures) (defBody s_is_figures) (defScope s_is_figures) .none kV_is_figures dc_is_figures pm_is_figures an_is_figures cd_is_figures ct_is_figures), sl_is_figures⟩)
    (c_is_figures : PySem.W.codeIn K cd_is_figures "is_figures" = true)
    (k_is_figures : PySem.W.keepIn K (.ref f_is_figures) = true)
    (a_is_letters : PySem.W.nsIn K mainGlobals "is_letters" = some (some (.ref f_is_letters)))
    (l_is_letters : K.lookup f_is_letters = some ⟨oc_is_letters, od_is_letters, .func (PySem.W.fnOf "is_letters" "is_letters" (defArgs s_is_letters) (defBody s_is_letters) (defScope s_is_letters) .none kV_is_letters dc_is_letters pm_is_letters an_is_letters cd_is_letters ct_is_letters), sl_is_letters⟩)
    (c_is_letters : PySem.W.codeIn K cd_is_letters "is_letters" = true)
    (k_is_letters : PySem.W.keepIn K (.ref f_is_letters) = true)
    (a_is_points : PySem.W.nsIn K mainGlobals "is_points" = some (some (.ref f_is_points)))
    (l_is_points : K.lookup f_is_points = some ⟨oc_is_points, od_is_points, .func (PySem.W.fnOf "is_points" "is_points" (defArgs s_is_points) (defBody s_is_points) (defScope s_is_points) .none kV_is_points dc_is_points pm_is_points an_is_points cd_is_points ct_is_points), sl_is_points⟩)
    (c_is_points : PySem.W.codeIn K cd_is_points "is_points" = true)
    (k_is_points : PySem.W.keepIn K (.ref f_is_points) = true)
    (a_is_maker : PySem.W.nsIn K mainGlobals "is_maker" = some (some (.ref f_is_maker)))
    (l_is_maker : K.lookup f_is_maker = some ⟨oc_is_maker, od_is_maker, .func (PySem.W.fnOf "is_maker" "is_maker" (defArgs s_is_maker) (defBody s_is_maker) (defScope s_is_maker) .none kV_is_maker dc_is_maker pm_is_maker an_is_maker cd_is_maker ct_is_maker), sl_is_maker⟩)
    (c_is_maker : PySem.W.codeIn K cd_is_maker "is_maker" = true)
    (k_is_maker : PySem.W.keepIn K (.ref f_is_maker) = true)
    (a_is_ended : PySem.W.nsIn K mainGlobals "_is_ended" = some (some (.ref f_is_ended)))
    (l_is_ended : K.lookup f_is_ended = some ⟨oc_is_ended, od_is_ended, .func (PySem.W.fnOf "_is_ended" "_is_ended" (defArgs s_is_ended) (defBody s_is_ended) (defScope s_is_ended) .none kV_is_ended dc_is_ended pm_is_ended an_is_ended cd_is_ended ct_is_ended), sl_is_ended⟩)
    (c_is_ended : PySem.W.codeIn K cd_is_ended "_is_ended" = true)
    (k_is_ended : PySem.W.keepIn K (.ref f_is_ended) = true)
    (a_Mark_init : PySem.W.findIn K (.ref C_Mark) "__init__" = some (some (.ref f_Mark_init)))
    (i_Mark_init : PySem.W.isFn K (.ref f_Mark_init) = true)
    (l_Mark_init : K.lookup f_Mark_init = some ⟨oc_Mark_init, od_Mark_init, .func (PySem.W.fnOf "__init__" "Mark.__init__" (defArgs s_Mark_init) (defBody s_Mark_init) (defScope s_Mark_init) (.ref dT_Mark_init) kV_Mark_init dc_Mark_init pm_Mark_init an_Mark_init cd_Mark_init ct_Mark_init), sl_Mark_init⟩)
    (c_Mark_init : PySem.W.codeIn K cd_Mark_init "Mark.__init__" = true)
    (k_Mark_init : PySem.W.keepIn K (.ref f_Mark_init) = true)
    (e_Mark_init : K.lookup dT_Mark_init = some do_Mark_init)
    (x_Mark_init : do_Mark_init.data = .seq dus_Mark_init.toArray dn_Mark_init)
    (v_Mark_init : Vals [.str Str.empty, .non, .non, .non] dus_Mark_init)
    (a_Mark_eq : PySem.W.findIn K (.ref C_Mark) "__eq__" = some (some (.ref f_Mark_eq)))
    (i_Mark_eq : PySem.W.isFn K (.ref f_Mark_eq) = true)
    (l_Mark_eq : K.lookup f_Mark_eq = some ⟨oc_Mark_eq, od_Mark_eq, .func (PySem.W.fnOf "__eq__" "Mark.__eq__" (defArgs s_Mark_eq) (defBody s_Mark_eq) (defScope s_Mark_eq) .none kV_Mark_eq dc_Mark_eq pm_Mark_eq an_Mark_eq cd_Mark_eq ct_Mark_eq), sl_Mark_eq⟩)
    (c_Mark_eq : PySem.W.codeIn K cd_Mark_eq "Mark.__eq__" = true)
    (k_Mark_eq : PySem.W.keepIn K (.ref f_Mark_eq) = true)
    (a_Mark_str : PySem.W.findIn K (.ref C_Mark) "__str__" = some (some (.ref f_Mark_str)))
    (i_Mark_str : PySem.W.isFn K (.ref f_Mark_str) = true)
    (l_Mark_str : K.lookup f_Mark_str = some ⟨oc_Mark_str, od_Mark_str, .func (PySem.W.fnOf "__str__" "Mark.__str__" (defArgs s_Mark_str) (defBody s_Mark_str) (defScope s_Mark_str) .none kV_Mark_str dc_Mark_str pm_Mark_str an_Mark_str cd_Mark_str ct_Mark_str), sl_Mark_str⟩)
    (c_Mark_str : PySem.W.codeIn K cd_Mark_str "Mark.__str__" = true)
    (k_Mark_str : PySem.W.keepIn K (.ref f_Mark_str) = true)
    (a_Mark_repr : PySem.W.findIn K (.ref C_Mark) "__repr__" = some (some (.ref f_Mark_repr)))
    (i_Mark_repr : PySem.W.isFn K (.ref f_Mark_repr) = true)
    (l_Mark_repr : K.lookup f_Mark_repr = some ⟨oc_Mark_repr, od_Mark_repr, .func (PySem.W.fnOf "__repr__" "Mark.__repr__" (defArgs s_Mark_repr) (defBody s_Mark_repr) (defScope s_Mark_repr) .none kV_Mark_repr dc_Mark_repr pm_Mark_repr an_Mark_repr cd_Mark_repr ct_Mark_repr), sl_Mark_repr⟩)
    (c_Mark_repr : PySem.W.codeIn K cd_Mark_repr "Mark.__repr__" = true)
    (k_Mark_repr : PySem.W.keepIn K (.ref f_Mark_repr) = true)
    (a_Mark_len : PySem.W.findIn K (.ref C_Mark) "__len__" = some (some (.ref f_Mark_len)))
    (i_Mark_len : PySem.W.isFn K (.ref f_Mark_len) = true)
    (l_Mark_len : K.lookup f_Mark_len = some ⟨oc_Mark_len, od_Mark_len, .func (PySem.W.fnOf "__len__" "Mark.__len__" (defArgs s_Mark_len) (defBody s_Mark_len) (defScope s_Mark_len) .none kV_Mark_len dc_Mark_len pm_Mark_len an_Mark_len cd_Mark_len ct_Mark_len), sl_Mark_len⟩)
    (c_Mark_len : PySem.W.codeIn K cd_Mark_len "Mark.__len__" = true)
    (k_Mark_len : PySem.W.keepIn K (.ref f_Mark_len) = true)
    (a_Mark_letters : PySem.W.findIn K (.ref C_Mark) "letters" = some (some (.ref f_Mark_letters)))
    (i_Mark_letters : PySem.W.isFn K (.ref f_Mark_letters) = true)
    (l_Mark_letters : K.lookup f_Mark_letters = some ⟨oc_Mark_letters, od_Mark_letters, .func (PySem.W.fnOf "letters" "Mark.letters" (defArgs s_Mark_letters) (defBody s_Mark_letters) (defScope s_Mark_letters) .none kV_Mark_letters dc_Mark_letters pm_Mark_letters an_Mark_letters cd_Mark_letters ct_Mark_letters), sl_Mark_letters⟩)
    (c_Mark_letters : PySem.W.codeIn K cd_Mark_letters "Mark.letters" = true)
    (k_Mark_letters : PySem.W.keepIn K (.ref f_Mark_letters) = true)
    (a_Mark_number : PySem.W.findIn K (.ref C_Mark) "number" = some (some (.ref f_Mark_number)))
    (i_Mark_number : PySem.W.isFn K (.ref f_Mark_number) = true)
    (l_Mark_number : K.lookup f_Mark_number = some ⟨oc_Mark_number, od_Mark_number, .func (PySem.W.fnOf "number" "Mark.number" (defArgs s_Mark_number) (defBody s_Mark_number) (defScope s_Mark_number) .none kV_Mark_number dc_Mark_number pm_Mark_number an_Mark_number cd_Mark_number ct_Mark_number), sl_Mark_number⟩)
    (c_Mark_number : PySem.W.codeIn K cd_Mark_number "Mark.number" = true)
    (k_Mark_number : PySem.W.keepIn K (.ref f_Mark_number) = true)
    (a_Mark_points : PySem.W.findIn K (.ref C_Mark) "points" = some (some (.ref f_Mark_points)))
    (i_Mark_points : PySem.W.isFn K (.ref f_Mark_points) = true)
    (l_Mark_points : K.lookup f_Mark_points = some ⟨oc_Mark_points, od_Mark_points, .func (PySem.W.fnOf "points" "Mark.points" (defArgs s_Mark_points) (defBody s_Mark_points) (defScope s_Mark_points) .none kV_Mark_points dc_Mark_points pm_Mark_points an_Mark_points cd_Mark_points ct_Mark_points), sl_Mark_points⟩)
    (c_Mark_points : PySem.W.codeIn K cd_Mark_points "Mark.points" = true)
    (k_Mark_points : PySem.W.keepIn K (.ref f_Mark_points) = true)
    (a_Mark_makers : PySem.W.findIn K (.ref C_Mark) "makers" = some (some (.ref f_Mark_makers)))
    (i_Mark_makers : PySem.W.isFn K (.ref f_Mark_makers) = true)
    (l_Mark_makers : K.lookup f_Mark_makers = some ⟨oc_Mark_makers, od_Mark_makers, .func (PySem.W.fnOf "makers" "Mark.makers" (defArgs s_Mark_makers) (defBody s_Mark_makers) (defScope s_Mark_makers) .none kV_Mark_makers dc_Mark_makers pm_Mark_makers an_Mark_makers cd_Mark_makers ct_Mark_makers), sl_Mark_makers⟩)
    (c_Mark_makers : PySem.W.codeIn K cd_Mark_makers "Mark.makers" = true)
    (k_Mark_makers : PySem.W.keepIn K (.ref f_Mark_makers) = true)
    (a_Mark_year : PySem.W.findIn K (.ref C_Mark) "year" = some (some (.ref f_Mark_year)))
    (i_Mark_year : PySem.W.isFn K (.ref f_Mark_year) = true)
    (l_Mark_year : K.lookup f_Mark_year = some ⟨oc_Mark_year, od_Mark_year, .func (PySem.W.fnOf "year" "Mark.year" (defArgs s_Mark_year) (defBody s_Mark_year) (defScope s_Mark_year) .none kV_Mark_year dc_Mark_year pm_Mark_year an_Mark_year cd_Mark_year ct_Mark_year), sl_Mark_year⟩)
    (c_Mark_year : PySem.W.codeIn K cd_Mark_year "Mark.year" = true)
    (k_Mark_year : PySem.W.keepIn K (.ref f_Mark_year) = true)
    (a_Mark_copy_number : PySem.W.findIn K (.ref C_Mark) "copy_number" = some (some (.ref f_Mark_copy_number)))
    (i_Mark_copy_number : PySem.W.isFn K (.ref f_Mark_copy_number) = true)
    (l_Mark_copy_number : K.lookup f_Mark_copy_number = some ⟨oc_Mark_copy_number, od_Mark_copy_number, .func (PySem.W.fnOf "copy_number" "Mark.copy_number" (defArgs s_Mark_copy_number) (defBody s_Mark_copy_number) (defScope s_Mark_copy_number) .none kV_Mark_copy_number dc_Mark_copy_number pm_Mark_copy_number an_Mark_copy_number cd_Mark_copy_number ct_Mark_copy_number), sl_Mark_copy_number⟩)
    (c_Mark_copy_number : PySem.W.codeIn K cd_Mark_copy_number "Mark.copy_number" = true)
    (k_Mark_copy_number : PySem.W.keepIn K (.ref f_Mark_copy_number) = true)
    (a_Mark_parts : PySem.W.findIn K (.ref C_Mark) "parts" = some (some (.ref f_Mark_parts)))
    (i_Mark_parts : PySem.W.isFn K (.ref f_Mark_parts) = true)
    (l_Mark_parts : K.lookup f_Mark_parts = some ⟨oc_Mark_parts, od_Mark_parts, .func (PySem.W.fnOf "parts" "Mark.parts" (defArgs s_Mark_parts) (defBody s_Mark_parts) (defScope s_Mark_parts) .none kV_Mark_parts dc_Mark_parts pm_Mark_parts an_Mark_parts cd_Mark_parts ct_Mark_parts), sl_Mark_parts⟩)
    (c_Mark_parts : PySem.W.codeIn K cd_Mark_parts "Mark.parts" = true)
    (k_Mark_parts : PySem.W.keepIn K (.ref f_Mark_parts) = true)
    (a_Mark_key : PySem.W.findIn K (.ref C_Mark) "key" = some (some (.ref f_Mark_key)))
    (i_Mark_key : PySem.W.isFn K (.ref f_Mark_key) = true)
    (l_Mark_key : K.lookup f_Mark_key = some ⟨oc_Mark_key, od_Mark_key, .func (PySem.W.fnOf "key" "Mark.key" (defArgs s_Mark_key) (defBody s_Mark_key) (defScope s_Mark_key) .none kV_Mark_key dc_Mark_key pm_Mark_key an_Mark_key cd_Mark_key ct_Mark_key), sl_Mark_key⟩)
    (c_Mark_key : PySem.W.codeIn K cd_Mark_key "Mark.key" = true)
    (k_Mark_key : PySem.W.keepIn K (.ref f_Mark_key) = true)
    (a_Mark_ahead : PySem.W.findIn K (.ref C_Mark) "ahead" = some (some (.ref f_Mark_ahead)))
    (i_Mark_ahead : PySem.W.isFn K (.ref f_Mark_ahead) = true)
    (l_Mark_ahead : K.lookup f_Mark_ahead = some ⟨oc_Mark_ahead, od_Mark_ahead, .func (PySem.W.fnOf "ahead" "Mark.ahead" (defArgs s_Mark_ahead) (defBody s_Mark_ahead) (defScope s_Mark_ahead) .none kV_Mark_ahead dc_Mark_ahead pm_Mark_ahead an_Mark_ahead cd_Mark_ahead ct_Mark_ahead), sl_Mark_ahead⟩)
    (c_Mark_ahead : PySem.W.codeIn K cd_Mark_ahead "Mark.ahead" = true)
    (k_Mark_ahead : PySem.W.keepIn K (.ref f_Mark_ahead) = true)
    (a_Mark_head : PySem.W.findIn K (.ref C_Mark) "head" = some (some (.ref f_Mark_head)))
    (i_Mark_head : PySem.W.isFn K (.ref f_Mark_head) = true)
    (l_Mark_head : K.lookup f_Mark_head = some ⟨oc_Mark_head, od_Mark_head, .func (PySem.W.fnOf "head" "Mark.head" (defArgs s_Mark_head) (defBody s_Mark_head) (defScope s_Mark_head) .none kV_Mark_head dc_Mark_head pm_Mark_head an_Mark_head cd_Mark_head ct_Mark_head), sl_Mark_head⟩)
    (c_Mark_head : PySem.W.codeIn K cd_Mark_head "Mark.head" = true)
    (k_Mark_head : PySem.W.keepIn K (.ref f_Mark_head) = true)
    (a_Mark_book : PySem.W.findIn K (.ref C_Mark) "book" = some (some (.ref f_Mark_book)))
    (i_Mark_book : PySem.W.isFn K (.ref f_Mark_book) = true)
    (l_Mark_book : K.lookup f_Mark_book = some ⟨oc_Mark_book, od_Mark_book, .func (PySem.W.fnOf "book" "Mark.book" (defArgs s_Mark_book) (defBody s_Mark_book) (defScope s_Mark_book) .none kV_Mark_book dc_Mark_book pm_Mark_book an_Mark_book cd_Mark_book ct_Mark_book), sl_Mark_book⟩)
    (c_Mark_book : PySem.W.codeIn K cd_Mark_book "Mark.book" = true)
    (k_Mark_book : PySem.W.keepIn K (.ref f_Mark_book) = true)
    (a_Mark_with_year : PySem.W.findIn K (.ref C_Mark) "with_year" = some (some (.ref f_Mark_with_year)))
    (i_Mark_with_year : PySem.W.isFn K (.ref f_Mark_with_year) = true)
    (l_Mark_with_year : K.lookup f_Mark_with_year = some ⟨oc_Mark_with_year, od_Mark_with_year, .func (PySem.W.fnOf "with_year" "Mark.with_year" (defArgs s_Mark_with_year) (defBody s_Mark_with_year) (defScope s_Mark_with_year) (.ref dT_Mark_with_year) kV_Mark_with_year dc_Mark_with_year pm_Mark_with_year an_Mark_with_year cd_Mark_with_year ct_Mark_with_year), sl_Mark_with_year⟩)
    (c_Mark_with_year : PySem.W.codeIn K cd_Mark_with_year "Mark.with_year" = true)
    (k_Mark_with_year : PySem.W.keepIn K (.ref f_Mark_with_year) = true)
    (e_Mark_with_year : K.lookup dT_Mark_with_year = some do_Mark_with_year)
    (x_Mark_with_year : do_Mark_with_year.data = .seq dus_Mark_with_year.toArray dn_Mark_with_year)
    (v_Mark_with_year : Vals [.non] dus_Mark_with_year)
    (a_Mark_with_copy : PySem.W.findIn K (.ref C_Mark) "with_copy" = some (some (.ref f_Mark_with_copy)))
    (i_Mark_with_copy : PySem.W.isFn K (.ref f_Mark_with_copy) = true)
    (l_Mark_with_copy : K.lookup f_Mark_with_copy = some ⟨oc_Mark_with_copy, od_Mark_with_copy, .func (PySem.W.fnOf "with_copy" "Mark.with_copy" (defArgs s_Mark_with_copy) (defBody s_Mark_with_copy) (defScope s_Mark_with_copy) (.ref dT_Mark_with_copy) kV_Mark_with_copy dc_Mark_with_copy pm_Mark_with_copy an_Mark_with_copy cd_Mark_with_copy ct_Mark_with_copy), sl_Mark_with_copy⟩)
    (c_Mark_with_copy : PySem.W.codeIn K cd_Mark_with_copy "Mark.with_copy" = true)
    (k_Mark_with_copy : PySem.W.keepIn K (.ref f_Mark_with_copy) = true)
    (e_Mark_with_copy : K.lookup dT_Mark_with_copy = some do_Mark_with_copy)
    (x_Mark_with_copy : do_Mark_with_copy.data = .seq dus_Mark_with_copy.toArray dn_Mark_with_copy)
    (v_Mark_with_copy : Vals [.non] dus_Mark_with_copy)
    (a_Mark_same_book : PySem.W.findIn K (.ref C_Mark) "same_book" = some (some (.ref f_Mark_same_book)))
    (i_Mark_same_book : PySem.W.isFn K (.ref f_Mark_same_book) = true)
    (l_Mark_same_book : K.lookup f_Mark_same_book = some ⟨oc_Mark_same_book, od_Mark_same_book, .func (PySem.W.fnOf "same_book" "Mark.same_book" (defArgs s_Mark_same_book) (defBody s_Mark_same_book) (defScope s_Mark_same_book) .none kV_Mark_same_book dc_Mark_same_book pm_Mark_same_book an_Mark_same_book cd_Mark_same_book ct_Mark_same_book), sl_Mark_same_book⟩)
    (c_Mark_same_book : PySem.W.codeIn K cd_Mark_same_book "Mark.same_book" = true)
    (k_Mark_same_book : PySem.W.keepIn K (.ref f_Mark_same_book) = true)
    (a_mark_of_key : PySem.W.nsIn K mainGlobals "mark_of_key" = some (some (.ref f_mark_of_key)))
    (l_mark_of_key : K.lookup f_mark_of_key = some ⟨oc_mark_of_key, od_mark_of_key, .func (PySem.W.fnOf "mark_of_key" "mark_of_key" (defArgs s_mark_of_key) (defBody s_mark_of_key) (defScope s_mark_of_key) .none kV_mark_of_key dc_mark_of_key pm_mark_of_key an_mark_of_key cd_mark_of_key ct_mark_of_key), sl_mark_of_key⟩)
    (c_mark_of_key : PySem.W.codeIn K cd_mark_of_key "mark_of_key" = true)
    (k_mark_of_key : PySem.W.keepIn K (.ref f_mark_of_key) = true)
    (a_kept_makers : PySem.W.nsIn K mainGlobals "_kept_makers" = some (some (.ref f_kept_makers)))
    (l_kept_makers : K.lookup f_kept_makers = some ⟨oc_kept_makers, od_kept_makers, .func (PySem.W.fnOf "_kept_makers" "_kept_makers" (defArgs s_kept_makers) (defBody s_kept_makers) (defScope s_kept_makers) .none kV_kept_makers dc_kept_makers pm_kept_makers an_kept_makers cd_kept_makers ct_kept_makers), sl_kept_makers⟩)
    (c_kept_makers : PySem.W.codeIn K cd_kept_makers "_kept_makers" = true)
    (k_kept_makers : PySem.W.keepIn K (.ref f_kept_makers) = true)
    (a_text_of : PySem.W.nsIn K mainGlobals "_text_of" = some (some (.ref f_text_of)))
    (l_text_of : K.lookup f_text_of = some ⟨oc_text_of, od_text_of, .func (PySem.W.fnOf "_text_of" "_text_of" (defArgs s_text_of) (defBody s_text_of) (defScope s_text_of) .none kV_text_of dc_text_of pm_text_of an_text_of cd_text_of ct_text_of), sl_text_of⟩)
    (c_text_of : PySem.W.codeIn K cd_text_of "_text_of" = true)
    (k_text_of : PySem.W.keepIn K (.ref f_text_of) = true)
    (a_ending : PySem.W.nsIn K mainGlobals "ending" = some (some (.ref f_ending)))
    (l_ending : K.lookup f_ending = some ⟨oc_ending, od_ending, .func (PySem.W.fnOf "ending" "ending" (defArgs s_ending) (defBody s_ending) (defScope s_ending) .none kV_ending dc_ending pm_ending an_ending cd_ending ct_ending), sl_ending⟩)
    (c_ending : PySem.W.codeIn K cd_ending "ending" = true)
    (k_ending : PySem.W.keepIn K (.ref f_ending) = true)
    (a_behind_letters : PySem.W.nsIn K mainGlobals "_behind_letters" = some (some (.ref f_behind_letters)))
    (l_behind_letters : K.lookup f_behind_letters = some ⟨oc_behind_letters, od_behind_letters, .func (PySem.W.fnOf "_behind_letters" "_behind_letters" (defArgs s_behind_letters) (defBody s_behind_letters) (defScope s_behind_letters) .none kV_behind_letters dc_behind_letters pm_behind_letters an_behind_letters cd_behind_letters ct_behind_letters), sl_behind_letters⟩)
    (c_behind_letters : PySem.W.codeIn K cd_behind_letters "_behind_letters" = true)
    (k_behind_letters : PySem.W.keepIn K (.ref f_behind_letters) = true)
    (a_behind_number : PySem.W.nsIn K mainGlobals "_behind_number" = some (some (.ref f_behind_number)))
    (l_behind_number : K.lookup f_behind_number = some ⟨oc_behind_number, od_behind_number, .func (PySem.W.fnOf "_behind_number" "_behind_number" (defArgs s_behind_number) (defBody s_behind_number) (defScope s_behind_number) .none kV_behind_number dc_behind_number pm_behind_number an_behind_number cd_behind_number ct_behind_number), sl_behind_number⟩)
    (c_behind_number : PySem.W.codeIn K cd_behind_number "_behind_number" = true)
    (k_behind_number : PySem.W.keepIn K (.ref f_behind_number) = true)
    (a_behind_point : PySem.W.nsIn K mainGlobals "_behind_point" = some (some (.ref f_behind_point)))
    (l_behind_point : K.lookup f_behind_point = some ⟨oc_behind_point, od_behind_point, .func (PySem.W.fnOf "_behind_point" "_behind_point" (defArgs s_behind_point) (defBody s_behind_point) (defScope s_behind_point) .none kV_behind_point dc_behind_point pm_behind_point an_behind_point cd_behind_point ct_behind_point), sl_behind_point⟩)
    (c_behind_point : PySem.W.codeIn K cd_behind_point "_behind_point" = true)
    (k_behind_point : PySem.W.keepIn K (.ref f_behind_point) = true)
    (a_behind_points : PySem.W.nsIn K mainGlobals "_behind_points" = some (some (.ref f_behind_points)))
    (l_behind_points : K.lookup f_behind_points = some ⟨oc_behind_points, od_behind_points, .func (PySem.W.fnOf "_behind_points" "_behind_points" (defArgs s_behind_points) (defBody s_behind_points) (defScope s_behind_points) .none kV_behind_points dc_behind_points pm_behind_points an_behind_points cd_behind_points ct_behind_points), sl_behind_points⟩)
    (c_behind_points : PySem.W.codeIn K cd_behind_points "_behind_points" = true)
    (k_behind_points : PySem.W.keepIn K (.ref f_behind_points) = true)
    (a_behind_blank : PySem.W.nsIn K mainGlobals "_behind_blank" = some (some (.ref f_behind_blank)))
    (l_behind_blank : K.lookup f_behind_blank = some ⟨oc_behind_blank, od_behind_blank, .func (PySem.W.fnOf "_behind_blank" "_behind_blank" (defArgs s_behind_blank) (defBody s_behind_blank) (defScope s_behind_blank) .none kV_behind_blank dc_behind_blank pm_behind_blank an_behind_blank cd_behind_blank ct_behind_blank), sl_behind_blank⟩)
    (c_behind_blank : PySem.W.codeIn K cd_behind_blank "_behind_blank" = true)
    (k_behind_blank : PySem.W.keepIn K (.ref f_behind_blank) = true)
    (a_behind_c : PySem.W.nsIn K mainGlobals "_behind_c" = some (some (.ref f_behind_c)))
    (l_behind_c : K.lookup f_behind_c = some ⟨oc_behind_c, od_behind_c, .func (PySem.W.fnOf "_behind_c" "_behind_c" (defArgs s_behind_c) (defBody s_behind_c) (defScope s_behind_c) .none kV_behind_c dc_behind_c pm_behind_c an_behind_c cd_behind_c ct_behind_c), sl_behind_c⟩)
    (c_behind_c : PySem.W.codeIn K cd_behind_c "_behind_c" = true)
    (k_behind_c : PySem.W.keepIn K (.ref f_behind_c) = true)
    (a_behind_letter : PySem.W.nsIn K mainGlobals "_behind_letter" = some (some (.ref f_behind_letter)))
    (l_behind_letter : K.lookup f_behind_letter = some ⟨oc_behind_letter, od_behind_letter, .func (PySem.W.fnOf "_behind_letter" "_behind_letter" (defArgs s_behind_letter) (defBody s_behind_letter) (defScope s_behind_letter) .none kV_behind_letter dc_behind_letter pm_behind_letter an_behind_letter cd_behind_letter ct_behind_letter), sl_behind_letter⟩)
    (c_behind_letter : PySem.W.codeIn K cd_behind_letter "_behind_letter" = true)
    (k_behind_letter : PySem.W.keepIn K (.ref f_behind_letter) = true)
    (a_behind_maker : PySem.W.nsIn K mainGlobals "_behind_maker" = some (some (.ref f_behind_maker)))
    (l_behind_maker : K.lookup f_behind_maker = some ⟨oc_behind_maker, od_behind_maker, .func (PySem.W.fnOf "_behind_maker" "_behind_maker" (defArgs s_behind_maker) (defBody s_behind_maker) (defScope s_behind_maker) .none kV_behind_maker dc_behind_maker pm_behind_maker an_behind_maker cd_behind_maker ct_behind_maker), sl_behind_maker⟩)
    (c_behind_maker : PySem.W.codeIn K cd_behind_maker "_behind_maker" = true)
    (k_behind_maker : PySem.W.keepIn K (.ref f_behind_maker) = true)
    (a_behind_year : PySem.W.nsIn K mainGlobals "_behind_year" = some (some (.ref f_behind_year)))
    (l_behind_year : K.lookup f_behind_year = some ⟨oc_behind_year, od_behind_year, .func (PySem.W.fnOf "_behind_year" "_behind_year" (defArgs s_behind_year) (defBody s_behind_year) (defScope s_behind_year) .none kV_behind_year dc_behind_year pm_behind_year an_behind_year cd_behind_year ct_behind_year), sl_behind_year⟩)
    (c_behind_year : PySem.W.codeIn K cd_behind_year "_behind_year" = true)
    (k_behind_year : PySem.W.keepIn K (.ref f_behind_year) = true)
    (a_behind_copy : PySem.W.nsIn K mainGlobals "_behind_copy" = some (some (.ref f_behind_copy)))
    (l_behind_copy : K.lookup f_behind_copy = some ⟨oc_behind_copy, od_behind_copy, .func (PySem.W.fnOf "_behind_copy" "_behind_copy" (defArgs s_behind_copy) (defBody s_behind_copy) (defScope s_behind_copy) .none kV_behind_copy dc_behind_copy pm_behind_copy an_behind_copy cd_behind_copy ct_behind_copy), sl_behind_copy⟩)
    (c_behind_copy : PySem.W.codeIn K cd_behind_copy "_behind_copy" = true)
    (k_behind_copy : PySem.W.keepIn K (.ref f_behind_copy) = true)
    (a_behind_copied : PySem.W.nsIn K mainGlobals "_behind_copied" = some (some (.ref f_behind_copied)))
    (l_behind_copied : K.lookup f_behind_copied = some ⟨oc_behind_copied, od_behind_copied, .func (PySem.W.fnOf "_behind_copied" "_behind_copied" (defArgs s_behind_copied) (defBody s_behind_copied) (defScope s_behind_copied) .none kV_behind_copied dc_behind_copied pm_behind_copied an_behind_copied cd_behind_copied ct_behind_copied), sl_behind_copied⟩)
    (c_behind_copied : PySem.W.codeIn K cd_behind_copied "_behind_copied" = true)
    (k_behind_copied : PySem.W.keepIn K (.ref f_behind_copied) = true)
    (a_is_first : PySem.W.nsIn K mainGlobals "_is_first" = some (some (.ref f_is_first)))
    (l_is_first : K.lookup f_is_first = some ⟨oc_is_first, od_is_first, .func (PySem.W.fnOf "_is_first" "_is_first" (defArgs s_is_first) (defBody s_is_first) (defScope s_is_first) .none kV_is_first dc_is_first pm_is_first an_is_first cd_is_first ct_is_first), sl_is_first⟩)
    (c_is_first : PySem.W.codeIn K cd_is_first "_is_first" = true)
    (k_is_first : PySem.W.keepIn K (.ref f_is_first) = true)
    (a_mark_and_signs : PySem.W.nsIn K mainGlobals "mark_and_signs" = some (some (.ref f_mark_and_signs)))
    (l_mark_and_signs : K.lookup f_mark_and_signs = some ⟨oc_mark_and_signs, od_mark_and_signs, .func (PySem.W.fnOf "mark_and_signs" "mark_and_signs" (defArgs s_mark_and_signs) (defBody s_mark_and_signs) (defScope s_mark_and_signs) .none kV_mark_and_signs dc_mark_and_signs pm_mark_and_signs an_mark_and_signs cd_mark_and_signs ct_mark_and_signs), sl_mark_and_signs⟩)
    (c_mark_and_signs : PySem.W.codeIn K cd_mark_and_signs "mark_and_signs" = true)
    (k_mark_and_signs : PySem.W.keepIn K (.ref f_mark_and_signs) = true)
    (a_key_written : PySem.W.nsIn K mainGlobals "key_written" = some (some (.ref f_key_written)))
    (l_key_written : K.lookup f_key_written = some ⟨oc_key_written, od_key_written, .func (PySem.W.fnOf "key_written" "key_written" (defArgs s_key_written) (defBody s_key_written) (defScope s_key_written) .none kV_key_written dc_key_written pm_key_written an_key_written cd_key_written ct_key_written), sl_key_written⟩)
    (c_key_written : PySem.W.codeIn K cd_key_written "key_written" = true)
    (k_key_written : PySem.W.keepIn K (.ref f_key_written) = true)
    (a_walked : PySem.W.nsIn K mainGlobals "_walked" = some (some (.ref f_walked)))
    (l_walked : K.lookup f_walked = some ⟨oc_walked, od_walked, .func (PySem.W.fnOf "_walked" "_walked" (defArgs s_walked) (defBody s_walked) (defScope s_walked) .none kV_walked dc_walked pm_walked an_walked cd_walked ct_walked), sl_walked⟩)
    (c_walked : PySem.W.codeIn K cd_walked "_walked" = true)
    (k_walked : PySem.W.keepIn K (.ref f_walked) = true)
    (a_last_figure : PySem.W.nsIn K mainGlobals "_last_figure" = some (some (.ref f_last_figure)))
    (l_last_figure : K.lookup f_last_figure = some ⟨oc_last_figure, od_last_figure, .func (PySem.W.fnOf "_last_figure" "_last_figure" (defArgs s_last_figure) (defBody s_last_figure) (defScope s_last_figure) .none kV_last_figure dc_last_figure pm_last_figure an_last_figure cd_last_figure ct_last_figure), sl_last_figure⟩)
    (c_last_figure : PySem.W.codeIn K cd_last_figure "_last_figure" = true)
    (k_last_figure : PySem.W.keepIn K (.ref f_last_figure) = true)
    (a_head_of : PySem.W.nsIn K mainGlobals "head_of" = some (some (.ref f_head_of)))
    (l_head_of : K.lookup f_head_of = some ⟨oc_head_of, od_head_of, .func (PySem.W.fnOf "head_of" "head_of" (defArgs s_head_of) (defBody s_head_of) (defScope s_head_of) .none kV_head_of dc_head_of pm_head_of an_head_of cd_head_of ct_head_of), sl_head_of⟩)
    (c_head_of : PySem.W.codeIn K cd_head_of "head_of" = true)
    (k_head_of : PySem.W.keepIn K (.ref f_head_of) = true)
    (a_behind_head : PySem.W.nsIn K mainGlobals "behind_head" = some (some (.ref f_behind_head)))
    (l_behind_head : K.lookup f_behind_head = some ⟨oc_behind_head, od_behind_head, .func (PySem.W.fnOf "behind_head" "behind_head" (defArgs s_behind_head) (defBody s_behind_head) (defScope s_behind_head) .none kV_behind_head dc_behind_head pm_behind_head an_behind_head cd_behind_head ct_behind_head), sl_behind_head⟩)
    (c_behind_head : PySem.W.codeIn K cd_behind_head "behind_head" = true)
    (k_behind_head : PySem.W.keepIn K (.ref f_behind_head) = true)
    (a_letters_behind : PySem.W.nsIn K mainGlobals "_letters_behind" = some (some (.ref f_letters_behind)))
    (l_letters_behind : K.lookup f_letters_behind = some ⟨oc_letters_behind, od_letters_behind, .func (PySem.W.fnOf "_letters_behind" "_letters_behind" (defArgs s_letters_behind) (defBody s_letters_behind) (defScope s_letters_behind) .none kV_letters_behind dc_letters_behind pm_letters_behind an_letters_behind cd_letters_behind ct_letters_behind), sl_letters_behind⟩)
    (c_letters_behind : PySem.W.codeIn K cd_letters_behind "_letters_behind" = true)
    (k_letters_behind : PySem.W.keepIn K (.ref f_letters_behind) = true)
    (a_l_cell : PySem.W.nsIn K mainGlobals "_law_cell" = some (some (.ref f_l_cell)))
    (l_l_cell : K.lookup f_l_cell = some ⟨oc_l_cell, od_l_cell, .func (PySem.W.fnOf "_law_cell" "_law_cell" (defArgs s_l_cell) (defBody s_l_cell) (defScope s_l_cell) .none kV_l_cell dc_l_cell pm_l_cell an_l_cell cd_l_cell ct_l_cell), sl_l_cell⟩)
    (c_l_cell : PySem.W.codeIn K cd_l_cell "_law_cell" = true)
    (k_l_cell : PySem.W.keepIn K (.ref f_l_cell) = true)
    (a_l_box : PySem.W.nsIn K mainGlobals "_law_box" = some (some (.ref f_l_box)))
    (l_l_box : K.lookup f_l_box = some ⟨oc_l_box, od_l_box, .func (PySem.W.fnOf "_law_box" "_law_box" (defArgs s_l_box) (defBody s_l_box) (defScope s_l_box) .none kV_l_box dc_l_box pm_l_box an_l_box cd_l_box ct_l_box), sl_l_box⟩)
    (c_l_box : PySem.W.codeIn K cd_l_box "_law_box" = true)
    (k_l_box : PySem.W.keepIn K (.ref f_l_box) = true)
    (a_l_take : PySem.W.nsIn K mainGlobals "_law_take" = some (some (.ref f_l_take)))
    (l_l_take : K.lookup f_l_take = some ⟨oc_l_take, od_l_take, .func (PySem.W.fnOf "_law_take" "_law_take" (defArgs s_l_take) (defBody s_l_take) (defScope s_l_take) .none kV_l_take dc_l_take pm_l_take an_l_take cd_l_take ct_l_take), sl_l_take⟩)
    (c_l_take : PySem.W.codeIn K cd_l_take "_law_take" = true)
    (k_l_take : PySem.W.keepIn K (.ref f_l_take) = true)
    (a_l_letters : PySem.W.nsIn K mainGlobals "_law_letters" = some (some (.ref f_l_letters)))
    (l_l_letters : K.lookup f_l_letters = some ⟨oc_l_letters, od_l_letters, .func (PySem.W.fnOf "_law_letters" "_law_letters" (defArgs s_l_letters) (defBody s_l_letters) (defScope s_l_letters) .none kV_l_letters dc_l_letters pm_l_letters an_l_letters cd_l_letters ct_l_letters), sl_l_letters⟩)
    (c_l_letters : PySem.W.codeIn K cd_l_letters "_law_letters" = true)
    (k_l_letters : PySem.W.keepIn K (.ref f_l_letters) = true)
    (a_l_figures : PySem.W.nsIn K mainGlobals "_law_figures" = some (some (.ref f_l_figures)))
    (l_l_figures : K.lookup f_l_figures = some ⟨oc_l_figures, od_l_figures, .func (PySem.W.fnOf "_law_figures" "_law_figures" (defArgs s_l_figures) (defBody s_l_figures) (defScope s_l_figures) .none kV_l_figures dc_l_figures pm_l_figures an_l_figures cd_l_figures ct_l_figures), sl_l_figures⟩)
    (c_l_figures : PySem.W.codeIn K cd_l_figures "_law_figures" = true)
    (k_l_figures : PySem.W.keepIn K (.ref f_l_figures) = true)
    (a_l_head : PySem.W.nsIn K mainGlobals "_law_head" = some (some (.ref f_l_head)))
    (l_l_head : K.lookup f_l_head = some ⟨oc_l_head, od_l_head, .func (PySem.W.fnOf "_law_head" "_law_head" (defArgs s_l_head) (defBody s_l_head) (defScope s_l_head) .none kV_l_head dc_l_head pm_l_head an_l_head cd_l_head ct_l_head), sl_l_head⟩)
    (c_l_head : PySem.W.codeIn K cd_l_head "_law_head" = true)
    (k_l_head : PySem.W.keepIn K (.ref f_l_head) = true)
    (a_l_text : PySem.W.nsIn K mainGlobals "_law_text" = some (some (.ref f_l_text)))
    (l_l_text : K.lookup f_l_text = some ⟨oc_l_text, od_l_text, .func (PySem.W.fnOf "_law_text" "_law_text" (defArgs s_l_text) (defBody s_l_text) (defScope s_l_text) .none kV_l_text dc_l_text pm_l_text an_l_text cd_l_text ct_l_text), sl_l_text⟩)
    (c_l_text : PySem.W.codeIn K cd_l_text "_law_text" = true)
    (k_l_text : PySem.W.keepIn K (.ref f_l_text) = true)
    (a_l_next_letters : PySem.W.nsIn K mainGlobals "_law_next_letters" = some (some (.ref f_l_next_letters)))
    (l_l_next_letters : K.lookup f_l_next_letters = some ⟨oc_l_next_letters, od_l_next_letters, .func (PySem.W.fnOf "_law_next_letters" "_law_next_letters" (defArgs s_l_next_letters) (defBody s_l_next_letters) (defScope s_l_next_letters) .none kV_l_next_letters dc_l_next_letters pm_l_next_letters an_l_next_letters cd_l_next_letters ct_l_next_letters), sl_l_next_letters⟩)
    (c_l_next_letters : PySem.W.codeIn K cd_l_next_letters "_law_next_letters" = true)
    (k_l_next_letters : PySem.W.keepIn K (.ref f_l_next_letters) = true)
    (a_l_behind : PySem.W.nsIn K mainGlobals "_law_behind" = some (some (.ref f_l_behind)))
    (l_l_behind : K.lookup f_l_behind = some ⟨oc_l_behind, od_l_behind, .func (PySem.W.fnOf "_law_behind" "_law_behind" (defArgs s_l_behind) (defBody s_l_behind) (defScope s_l_behind) .none kV_l_behind dc_l_behind pm_l_behind an_l_behind cd_l_behind ct_l_behind), sl_l_behind⟩)
    (c_l_behind : PySem.W.codeIn K cd_l_behind "_law_behind" = true)
    (k_l_behind : PySem.W.keepIn K (.ref f_l_behind) = true)
    (a_l_near : PySem.W.nsIn K mainGlobals "_law_near" = some (some (.ref f_l_near)))
    (l_l_near : K.lookup f_l_near = some ⟨oc_l_near, od_l_near, .func (PySem.W.fnOf "_law_near" "_law_near" (defArgs s_l_near) (defBody s_l_near) (defScope s_l_near) .none kV_l_near dc_l_near pm_l_near an_l_near cd_l_near ct_l_near), sl_l_near⟩)
    (c_l_near : PySem.W.codeIn K cd_l_near "_law_near" = true)
    (k_l_near : PySem.W.keepIn K (.ref f_l_near) = true)
    (a_l_right : PySem.W.nsIn K mainGlobals "_law_right" = some (some (.ref f_l_right)))
    (l_l_right : K.lookup f_l_right = some ⟨oc_l_right, od_l_right, .func (PySem.W.fnOf "_law_right" "_law_right" (defArgs s_l_right) (defBody s_l_right) (defScope s_l_right) .none kV_l_right dc_l_right pm_l_right an_l_right cd_l_right ct_l_right), sl_l_right⟩)
    (c_l_right : PySem.W.codeIn K cd_l_right "_law_right" = true)
    (k_l_right : PySem.W.keepIn K (.ref f_l_right) = true)
    (a_law : PySem.W.nsIn K mainGlobals "law" = some (some (.ref f_law)))
    (l_law : K.lookup f_law = some ⟨oc_law, od_law, .func (PySem.W.fnOf "law" "law" (defArgs s_law) (defBody s_law) (defScope s_law) .none kV_law dc_law pm_law an_law cd_law ct_law), sl_law⟩)
    (c_law : PySem.W.codeIn K cd_law "law" = true)
    (k_law : PySem.W.keepIn K (.ref f_law) = true)
    (z_len : PySem.W.nsIn K mainGlobals "len" = some none)
    (z_isinstance : PySem.W.nsIn K mainGlobals "isinstance" = some none)
    (z_range : PySem.W.nsIn K mainGlobals "range" = some none)
    (z_max : PySem.W.nsIn K mainGlobals "max" = some none)
    (z_min : PySem.W.nsIn K mainGlobals "min" = some none)
    (z_int : PySem.W.nsIn K mainGlobals "int" = some none)
    (z_bool : PySem.W.nsIn K mainGlobals "bool" = some none)
    (z_str : PySem.W.nsIn K mainGlobals "str" = some none)
    (z_list : PySem.W.nsIn K mainGlobals "list" = some none)
    (z_tuple : PySem.W.nsIn K mainGlobals "tuple" = some none)
    (q_SMALL : PySem.W.nsIn K mainGlobals "SMALL" = some (some (.str "abcdefghijklmnopqrstuvwxyz" tk_SMALL)))
    (q_FIGURES : PySem.W.nsIn K mainGlobals "FIGURES" = some (some (.str "0123456789" tk_FIGURES)))
    (q_START : PySem.W.nsIn K mainGlobals "START" = some (some (.ref k_START)))
    (kl_START : K.lookup k_START = some ko_START)
    (kx_START : ko_START.data = .seq ku_START.toArray kn_START)
    (kt_START : ko_START.cls = .type "tuple")
    (kv_START : Vals [.str "letters", .int (0)] ku_START)
    (q_MOST_LETTERS : PySem.W.nsIn K mainGlobals "MOST_LETTERS" = some (some (.int (3) tk_MOST_LETTERS)))
    (q_MOST_MAKERS : PySem.W.nsIn K mainGlobals "MOST_MAKERS" = some (some (.int (3) tk_MOST_MAKERS)))
    (q_BEHIND_YEAR : PySem.W.nsIn K mainGlobals "BEHIND_YEAR" = some (some (.int (4) tk_BEHIND_YEAR)))
    (q_COPY_ENDS : PySem.W.nsIn K mainGlobals "COPY_ENDS" = some (some (.ref k_COPY_ENDS)))
    (kl_COPY_ENDS : K.lookup k_COPY_ENDS = some ko_COPY_ENDS)
    (kx_COPY_ENDS : ko_COPY_ENDS.data = .seq ku_COPY_ENDS.toArray kn_COPY_ENDS)
    (kt_COPY_ENDS : ko_COPY_ENDS.cls = .type "tuple")
    (kv_COPY_ENDS : Vals [.str "2", .str "0"] ku_COPY_ENDS)
    (q_ENDLESS : PySem.W.nsIn K mainGlobals "ENDLESS" = some (some (.ref k_ENDLESS)))
    (kdl_ENDLESS : K.lookup k_ENDLESS = some ⟨.type "dict", none, .dict kes_ENDLESS ken_ENDLESS, #[]⟩)
    (kdk_ENDLESS : PySem.W.KeysLit w.params kes_ENDLESS.toList)
    (kds_ENDLESS : (k_ENDLESS == sysModules) = false)
    (kdv_ENDLESS_point : PySem.W.nsIn K k_ENDLESS "point" = some (some (.bool true)))
    (kdv_ENDLESS_points : PySem.W.nsIn K k_ENDLESS "points" = some (some (.bool true)))
    (kdv_ENDLESS_letter : PySem.W.nsIn K k_ENDLESS "letter" = some (some (.bool true)))
    (kdv_ENDLESS_maker : PySem.W.nsIn K k_ENDLESS "maker" = some (some (.bool true)))
    (kdv_ENDLESS_copied : PySem.W.nsIn K k_ENDLESS "copied" = some (some (.bool true)))
    (kn_ENDLESS_letters : PySem.W.nsIn K k_ENDLESS "letters" = some none)
    (kn_ENDLESS_number : PySem.W.nsIn K k_ENDLESS "number" = some none)
    (kn_ENDLESS_blank : PySem.W.nsIn K k_ENDLESS "blank" = some none)
    (kn_ENDLESS_c : PySem.W.nsIn K k_ENDLESS "c" = some none)
    (kn_ENDLESS_year : PySem.W.nsIn K k_ENDLESS "year" = some none)
    (kn_ENDLESS_copy : PySem.W.nsIn K k_ENDLESS "copy" = some none)
    (q_STEPS : PySem.W.nsIn K mainGlobals "STEPS" = some (some (.ref k_STEPS)))
    (kdl_STEPS : K.lookup k_STEPS = some ⟨.type "dict", none, .dict kes_STEPS ken_STEPS, #[]⟩)
    (kdk_STEPS : PySem.W.KeysLit w.params kes_STEPS.toList)
    (kds_STEPS : (k_STEPS == sysModules) = false)
    (kdv_STEPS_letters : PySem.W.nsIn K k_STEPS "letters" = some (some (.ref f_behind_letters)))
    (kdv_STEPS_number : PySem.W.nsIn K k_STEPS "number" = some (some (.ref f_behind_number)))
    (kdv_STEPS_point : PySem.W.nsIn K k_STEPS "point" = some (some (.ref f_behind_point)))
    (kdv_STEPS_points : PySem.W.nsIn K k_STEPS "points" = some (some (.ref f_behind_points)))
    (kdv_STEPS_blank : PySem.W.nsIn K k_STEPS "blank" = some (some (.ref f_behind_blank)))
    (kdv_STEPS_c : PySem.W.nsIn K k_STEPS "c" = some (some (.ref f_behind_c)))
    (kdv_STEPS_letter : PySem.W.nsIn K k_STEPS "letter" = some (some (.ref f_behind_letter)))
    (kdv_STEPS_maker : PySem.W.nsIn K k_STEPS "maker" = some (some (.ref f_behind_maker)))
    (kdv_STEPS_year : PySem.W.nsIn K k_STEPS "year" = some (some (.ref f_behind_year)))
    (kdv_STEPS_copy : PySem.W.nsIn K k_STEPS "copy" = some (some (.ref f_behind_copy)))
    (kdv_STEPS_copied : PySem.W.nsIn K k_STEPS "copied" = some (some (.ref f_behind_copied)))
    (q_MOST_WITHOUT_RUNS : PySem.W.nsIn K mainGlobals "MOST_WITHOUT_RUNS" = some (some (.int (40) tk_MOST_WITHOUT_RUNS)))
    (q_NO_MORE : PySem.W.nsIn K mainGlobals "NO_MORE" = some (some (.ref k_NO_MORE)))
    (kl_NO_MORE : K.lookup k_NO_MORE = some ko_NO_MORE)
    (kx_NO_MORE : ko_NO_MORE.data = .seq ku_NO_MORE.toArray kn_NO_MORE)
    (kt_NO_MORE : ko_NO_MORE.cls = .type "tuple")
    (kv_NO_MORE : Vals [.ref k_NO_MORE_0, .non, .non] ku_NO_MORE)
    (kl_NO_MORE_0 : K.lookup k_NO_MORE_0 = some ko_NO_MORE_0)
    (kx_NO_MORE_0 : ko_NO_MORE_0.data = .seq ku_NO_MORE_0.toArray kn_NO_MORE_0)
    (kt_NO_MORE_0 : ko_NO_MORE_0.cls = .type "tuple")
    (kv_NO_MORE_0 : Vals [] ku_NO_MORE_0)
    : ∃ fd : FuncData, (∀ (s : Shared) (v : Value), BindsTo s fd ⟨[v], []⟩ [("_law_script", v)]) ∧ ∀ base : Heap, K.In base → base.Ns mainGlobals mg → FnOk l.prog w K mg base CX0 16 fa fd ["_law_script"] (spLaw K) := by
  have e := hfa.symm.trans (PySem.W.mg_of X G a_law)
  cases e
  have F_is_number := fun_mk (st := s_is_number) l_is_number c_is_number k_is_number
  have b_is_number := F_is_number.binds (ps := ["thing"]) fun _ _ _ _ _ _ us hl => match us, hl with | [_], _ => rfl
  have F_is_whole : FunD K "is_whole" "is_whole" (defArgs s_is_whole) (defBody s_is_whole) (defScope s_is_whole) [.non] [] f_is_whole (PySem.W.fnOf "is_whole" "is_whole" (defArgs s_is_whole) (defBody s_is_whole) (defScope s_is_whole) (.ref dT_is_whole) kV_is_whole dc_is_whole pm_is_whole an_is_whole cd_is_whole ct_is_whole) := ⟨⟨oc_is_whole, od_is_whole, _, kV_is_whole, dc_is_whole, pm_is_whole, an_is_whole, cd_is_whole, ct_is_whole, sl_is_whole, rfl, l_is_whole, c_is_whole, .inr ⟨by simp, dT_is_whole, do_is_whole, dus_is_whole, dn_is_whole, rfl, e_is_whole, x_is_whole, v_is_whole⟩, .inl rfl⟩, k_is_whole⟩
  have b_is_wholee : ∃ ds, Vals [] ds ∧ Binds K (PySem.W.fnOf "is_whole" "is_whole" (defArgs s_is_whole) (defBody s_is_whole) (defScope s_is_whole) (.ref dT_is_whole) kV_is_whole dc_is_whole pm_is_whole an_is_whole cd_is_whole ct_is_whole) ["thing", "low", "high"] ds := F_is_whole.binds1 3 1 (by simp) (by rfl) fun _ _ _ _ _ _ _ us its hu hi => match us, its, hu, hi with | [_, _, _], [_], _, _ => ⟨_, rfl, rfl⟩
  have b_is_whole : Binds K (PySem.W.fnOf "is_whole" "is_whole" (defArgs s_is_whole) (defBody s_is_whole) (defScope s_is_whole) (.ref dT_is_whole) kV_is_whole dc_is_whole pm_is_whole an_is_whole cd_is_whole ct_is_whole) ["thing", "low", "high"] [] := by
    obtain ⟨ds, r, b⟩ := b_is_wholee
    cases r
    exact b
  have b_is_whole_2e : ∃ ds, Vals [.non] ds ∧ Binds K (PySem.W.fnOf "is_whole" "is_whole" (defArgs s_is_whole) (defBody s_is_whole) (defScope s_is_whole) (.ref dT_is_whole) kV_is_whole dc_is_whole pm_is_whole an_is_whole cd_is_whole ct_is_whole) ["thing", "low", "high"] ds := F_is_whole.binds1 2 0 (by simp) (by rfl) fun _ _ _ _ _ _ _ us its hu hi => match us, its, hu, hi with | [_, _], [_], _, _ => ⟨_, rfl, rfl⟩
  have F_is_figures := fun_mk (st := s_is_figures) l_is_figures c_is_figures k_is_figures
  have b_is_figures := F_is_figures.binds (ps := ["text"]) fun _ _ _ _ _ _ us hl => match us, hl with | [_], _ => rfl
  have F_is_letters := fun_mk (st := s_is_letters) l_is_letters c_is_letters k_is_letters
  have b_is_letters := F_is_letters.binds (ps := ["thing", "most"]) fun _ _ _ _ _ _ us hl => match us, hl with | [_, _], _ => rfl
  have F_is_points := fun_mk (st := s_is_points) l_is_points c_is_points k_is_points
  have b_is_points := F_is_points.binds (ps := ["thing"]) fun _ _ _ _ _ _ us hl => match us, hl with | [_], _ => rfl
  have F_is_maker := fun_mk (st := s_is_maker) l_is_maker c_is_maker k_is_maker
  have b_is_maker := F_is_maker.binds (ps := ["thing"]) fun _ _ _ _ _ _ us hl => match us, hl with | [_], _ => rfl
  have F_is_ended := fun_mk (st := s_is_ended) l_is_ended c_is_ended k_is_ended
  have b_is_ended := F_is_ended.binds (ps := ["text"]) fun _ _ _ _ _ _ us hl => match us, hl with | [_], _ => rfl
  have F_Mark_init : FunD K "__init__" "Mark.__init__" (defArgs s_Mark_init) (defBody s_Mark_init) (defScope s_Mark_init) [.str Str.empty, .non, .non, .non] [] f_Mark_init (PySem.W.fnOf "__init__" "Mark.__init__" (defArgs s_Mark_init) (defBody s_Mark_init) (defScope s_Mark_init) (.ref dT_Mark_init) kV_Mark_init dc_Mark_init pm_Mark_init an_Mark_init cd_Mark_init ct_Mark_init) := ⟨⟨oc_Mark_init, od_Mark_init, _, kV_Mark_init, dc_Mark_init, pm_Mark_init, an_Mark_init, cd_Mark_init, ct_Mark_init, sl_Mark_init, rfl, l_Mark_init, c_Mark_init, .inr ⟨by simp, dT_Mark_init, do_Mark_init, dus_Mark_init, dn_Mark_init, rfl, e_Mark_init, x_Mark_init, v_Mark_init⟩, .inl rfl⟩, k_Mark_init⟩
  have b_Mark_inite : ∃ ds, Vals [] ds ∧ Binds K (PySem.W.fnOf "__init__" "Mark.__init__" (defArgs s_Mark_init) (defBody s_Mark_init) (defScope s_Mark_init) (.ref dT_Mark_init) kV_Mark_init dc_Mark_init pm_Mark_init an_Mark_init cd_Mark_init ct_Mark_init) ["self", "letters", "number", "points", "makers", "year", "copy"] ds := F_Mark_init.binds1 7 4 (by simp) (by rfl) fun _ _ _ _ _ _ _ us its hu hi => match us, its, hu, hi with | [_, _, _, _, _, _, _], [_, _, _, _], _, _ => ⟨_, rfl, rfl⟩
  have b_Mark_init : Binds K (PySem.W.fnOf "__init__" "Mark.__init__" (defArgs s_Mark_init) (defBody s_Mark_init) (defScope s_Mark_init) (.ref dT_Mark_init) kV_Mark_init dc_Mark_init pm_Mark_init an_Mark_init cd_Mark_init ct_Mark_init) ["self", "letters", "number", "points", "makers", "year", "copy"] [] := by
    obtain ⟨ds, r, b⟩ := b_Mark_inite
    cases r
    exact b
  have b_Mark_init_3e : ∃ ds, Vals [.str Str.empty, .non, .non, .non] ds ∧ Binds K (PySem.W.fnOf "__init__" "Mark.__init__" (defArgs s_Mark_init) (defBody s_Mark_init) (defScope s_Mark_init) (.ref dT_Mark_init) kV_Mark_init dc_Mark_init pm_Mark_init an_Mark_init cd_Mark_init ct_Mark_init) ["self", "letters", "number", "points", "makers", "year", "copy"] ds := F_Mark_init.binds1 3 0 (by simp) (by rfl) fun _ _ _ _ _ _ _ us its hu hi => match us, its, hu, hi with | [_, _, _], [_, _, _, _], _, _ => ⟨_, rfl, rfl⟩
  have b_Mark_init_4e : ∃ ds, Vals [.non, .non, .non] ds ∧ Binds K (PySem.W.fnOf "__init__" "Mark.__init__" (defArgs s_Mark_init) (defBody s_Mark_init) (defScope s_Mark_init) (.ref dT_Mark_init) kV_Mark_init dc_Mark_init pm_Mark_init an_Mark_init cd_Mark_init ct_Mark_init) ["self", "letters", "number", "points", "makers", "year", "copy"] ds := F_Mark_init.binds1 4 1 (by simp) (by rfl) fun _ _ _ _ _ _ _ us its hu hi => match us, its, hu, hi with | [_, _, _, _], [_, _, _, _], _, _ => ⟨_, rfl, rfl⟩
  have F_Mark_eq := fun_mk (st := s_Mark_eq) l_Mark_eq c_Mark_eq k_Mark_eq
  have b_Mark_eq := F_Mark_eq.binds (ps := ["self", "other"]) fun _ _ _ _ _ _ us hl => match us, hl with | [_, _], _ => rfl
  have F_Mark_str := fun_mk (st := s_Mark_str) l_Mark_str c_Mark_str k_Mark_str
  have b_Mark_str := F_Mark_str.binds (ps := ["self"]) fun _ _ _ _ _ _ us hl => match us, hl with | [_], _ => rfl
  have F_Mark_repr := fun_mk (st := s_Mark_repr) l_Mark_repr c_Mark_repr k_Mark_repr
  have b_Mark_repr := F_Mark_repr.binds (ps := ["self"]) fun _ _ _ _ _ _ us hl => match us, hl with | [_], _ => rfl
  have F_Mark_len := fun_mk (st := s_Mark_len) l_Mark_len c_Mark_len k_Mark_len
  have b_Mark_len := F_Mark_len.binds (ps := ["self"]) fun _ _ _ _ _ _ us hl => match us, hl with | [_], _ => rfl
  have F_Mark_letters := fun_mk (st := s_Mark_letters) l_Mark_letters c_Mark_letters k_Mark_letters
  have b_Mark_letters := F_Mark_letters.binds (ps := ["self"]) fun _ _ _ _ _ _ us hl => match us, hl with | [_], _ => rfl
  have F_Mark_number := fun_mk (st := s_Mark_number) l_Mark_number c_Mark_number k_Mark_number
  have b_Mark_number := F_Mark_number.binds (ps := ["self"]) fun _ _ _ _ _ _ us hl => match us, hl with | [_], _ => rfl
  have F_Mark_points := fun_mk (st := s_Mark_points) l_Mark_points c_Mark_points k_Mark_points
  have b_Mark_points := F_Mark_points.binds (ps := ["self"]) fun _ _ _ _ _ _ us hl => match us, hl with | [_], _ => rfl
  have F_Mark_makers := fun_mk (st := s_Mark_makers) l_Mark_makers c_Mark_makers k_Mark_makers
  have b_Mark_makers := F_Mark_makers.binds (ps := ["self"]) fun _ _ _ _ _ _ us hl => match us, hl with | [_], _ => rfl
  have F_Mark_year := fun_mk (st := s_Mark_year) l_Mark_year c_Mark_year k_Mark_year
  have b_Mark_year := F_Mark_year.binds (ps := ["self"]) fun _ _ _ _ _ _ us hl => match us, hl with | [_], _ => rfl
  have F_Mark_copy_number := fun_mk (st := s_Mark_copy_number) l_Mark_copy_number c_Mark_copy_number k_Mark_copy_number
  have b_Mark_copy_number := F_Mark_copy_number.binds (ps := ["self"]) fun _ _ _ _ _ _ us hl => match us, hl with | [_], _ => rfl
  have F_Mark_parts := fun_mk (st := s_Mark_parts) l_Mark_parts c_Mark_parts k_Mark_parts
  have b_Mark_parts := F_Mark_parts.binds (ps := ["self"]) fun _ _ _ _ _ _ us hl => match us, hl with | [_], _ => rfl
  have F_Mark_key := fun_mk (st := s_Mark_key) l_Mark_key c_Mark_key k_Mark_key
  have b_Mark_key := F_Mark_key.binds (ps := ["self"]) fun _ _ _ _ _ _ us hl => match us, hl with | [_], _ => rfl
  have F_Mark_ahead := fun_mk (st := s_Mark_ahead) l_Mark_ahead c_Mark_ahead k_Mark_ahead
  have b_Mark_ahead := F_Mark_ahead.binds (ps := ["self", "other"]) fun _ _ _ _ _ _ us hl => match us, hl with | [_, _], _ => rfl
  have F_Mark_head := fun_mk (st := s_Mark_head) l_Mark_head c_Mark_head k_Mark_head
  have b_Mark_head := F_Mark_head.binds (ps := ["self"]) fun _ _ _ _ _ _ us hl => match us, hl with | [_], _ => rfl
  have F_Mark_book := fun_mk (st := s_Mark_book) l_Mark_book c_Mark_book k_Mark_book
  have b_Mark_book := F_Mark_book.binds (ps := ["self"]) fun _ _ _ _ _ _ us hl => match us, hl with | [_], _ => rfl
  have F_Mark_with_year : FunD K "with_year" "Mark.with_year" (defArgs s_Mark_with_year) (defBody s_Mark_with_year) (defScope s_Mark_with_year) [.non] [] f_Mark_with_year (PySem.W.fnOf "with_year" "Mark.with_year" (defArgs s_Mark_with_year) (defBody s_Mark_with_year) (defScope s_Mark_with_year) (.ref dT_Mark_with_year) kV_Mark_with_year dc_Mark_with_year pm_Mark_with_year an_Mark_with_year cd_Mark_with_year ct_Mark_with_year) := ⟨⟨oc_Mark_with_year, od_Mark_with_year, _, kV_Mark_with_year, dc_Mark_with_year, pm_Mark_with_year, an_Mark_with_year, cd_Mark_with_year, ct_Mark_with_year, sl_Mark_with_year, rfl, l_Mark_with_year, c_Mark_with_year, .inr ⟨by simp, dT_Mark_with_year, do_Mark_with_year, dus_Mark_with_year, dn_Mark_with_year, rfl, e_Mark_with_year, x_Mark_with_year, v_Mark_with_year⟩, .inl rfl⟩, k_Mark_with_year⟩
  have b_Mark_with_yeare : ∃ ds, Vals [] ds ∧ Binds K (PySem.W.fnOf "with_year" "Mark.with_year" (defArgs s_Mark_with_year) (defBody s_Mark_with_year) (defScope s_Mark_with_year) (.ref dT_Mark_with_year) kV_Mark_with_year dc_Mark_with_year pm_Mark_with_year an_Mark_with_year cd_Mark_with_year ct_Mark_with_year) ["self", "year"] ds := F_Mark_with_year.binds1 2 1 (by simp) (by rfl) fun _ _ _ _ _ _ _ us its hu hi => match us, its, hu, hi with | [_, _], [_], _, _ => ⟨_, rfl, rfl⟩
  have b_Mark_with_year : Binds K (PySem.W.fnOf "with_year" "Mark.with_year" (defArgs s_Mark_with_year) (defBody s_Mark_with_year) (defScope s_Mark_with_year) (.ref dT_Mark_with_year) kV_Mark_with_year dc_Mark_with_year pm_Mark_with_year an_Mark_with_year cd_Mark_with_year ct_Mark_with_year) ["self", "year"] [] := by
    obtain ⟨ds, r, b⟩ := b_Mark_with_yeare
    cases r
    exact b
  have F_Mark_with_copy : FunD K "with_copy" "Mark.with_copy" (defArgs s_Mark_with_copy) (defBody s_Mark_with_copy) (defScope s_Mark_with_copy) [.non] [] f_Mark_with_copy (PySem.W.fnOf "with_copy" "Mark.with_copy" (defArgs s_Mark_with_copy) (defBody s_Mark_with_copy) (defScope s_Mark_with_copy) (.ref dT_Mark_with_copy) kV_Mark_with_copy dc_Mark_with_copy pm_Mark_with_copy an_Mark_with_copy cd_Mark_with_copy ct_Mark_with_copy) := ⟨⟨oc_Mark_with_copy, od_Mark_with_copy, _, kV_Mark_with_copy, dc_Mark_with_copy, pm_Mark_with_copy, an_Mark_with_copy, cd_Mark_with_copy, ct_Mark_with_copy, sl_Mark_with_copy, rfl, l_Mark_with_copy, c_Mark_with_copy, .inr ⟨by simp, dT_Mark_with_copy, do_Mark_with_copy, dus_Mark_with_copy, dn_Mark_with_copy, rfl, e_Mark_with_copy, x_Mark_with_copy, v_Mark_with_copy⟩, .inl rfl⟩, k_Mark_with_copy⟩
  have b_Mark_with_copye : ∃ ds, Vals [] ds ∧ Binds K (PySem.W.fnOf "with_copy" "Mark.with_copy" (defArgs s_Mark_with_copy) (defBody s_Mark_with_copy) (defScope s_Mark_with_copy) (.ref dT_Mark_with_copy) kV_Mark_with_copy dc_Mark_with_copy pm_Mark_with_copy an_Mark_with_copy cd_Mark_with_copy ct_Mark_with_copy) ["self", "copy"] ds := F_Mark_with_copy.binds1 2 1 (by simp) (by rfl) fun _ _ _ _ _ _ _ us its hu hi => match us, its, hu, hi with | [_, _], [_], _, _ => ⟨_, rfl, rfl⟩
  have b_Mark_with_copy : Binds K (PySem.W.fnOf "with_copy" "Mark.with_copy" (defArgs s_Mark_with_copy) (defBody s_Mark_with_copy) (defScope s_Mark_with_copy) (.ref dT_Mark_with_copy) kV_Mark_with_copy dc_Mark_with_copy pm_Mark_with_copy an_Mark_with_copy cd_Mark_with_copy ct_Mark_with_copy) ["self", "copy"] [] := by
    obtain ⟨ds, r, b⟩ := b_Mark_with_copye
    cases r
    exact b
  have F_Mark_same_book := fun_mk (st := s_Mark_same_book) l_Mark_same_book c_Mark_same_book k_Mark_same_book
  have b_Mark_same_book := F_Mark_same_book.binds (ps := ["self", "other"]) fun _ _ _ _ _ _ us hl => match us, hl with | [_, _], _ => rfl
  have F_mark_of_key := fun_mk (st := s_mark_of_key) l_mark_of_key c_mark_of_key k_mark_of_key
  have b_mark_of_key := F_mark_of_key.binds (ps := ["key"]) fun _ _ _ _ _ _ us hl => match us, hl with | [_], _ => rfl
  have F_kept_makers := fun_mk (st := s_kept_makers) l_kept_makers c_kept_makers k_kept_makers
  have b_kept_makers := F_kept_makers.binds (ps := ["makers"]) fun _ _ _ _ _ _ us hl => match us, hl with | [_], _ => rfl
  have F_text_of := fun_mk (st := s_text_of) l_text_of c_text_of k_text_of
  have b_text_of := F_text_of.binds (ps := ["parts"]) fun _ _ _ _ _ _ us hl => match us, hl with | [_], _ => rfl
  have F_ending := fun_mk (st := s_ending) l_ending c_ending k_ending
  have b_ending := F_ending.binds (ps := ["state"]) fun _ _ _ _ _ _ us hl => match us, hl with | [_], _ => rfl
  have F_behind_letters := fun_mk (st := s_behind_letters) l_behind_letters c_behind_letters k_behind_letters
  have b_behind_letters := F_behind_letters.binds (ps := ["many", "sign"]) fun _ _ _ _ _ _ us hl => match us, hl with | [_, _], _ => rfl
  have F_behind_number := fun_mk (st := s_behind_number) l_behind_number c_behind_number k_behind_number
  have b_behind_number := F_behind_number.binds (ps := ["many", "sign"]) fun _ _ _ _ _ _ us hl => match us, hl with | [_, _], _ => rfl
  have F_behind_point := fun_mk (st := s_behind_point) l_behind_point c_behind_point k_behind_point
  have b_behind_point := F_behind_point.binds (ps := ["_", "sign"]) fun _ _ _ _ _ _ us hl => match us, hl with | [_, _], _ => rfl
  have F_behind_points := fun_mk (st := s_behind_points) l_behind_points c_behind_points k_behind_points
  have b_behind_points := F_behind_points.binds (ps := ["many", "sign"]) fun _ _ _ _ _ _ us hl => match us, hl with | [_, _], _ => rfl
  have F_behind_blank := fun_mk (st := s_behind_blank) l_behind_blank c_behind_blank k_behind_blank
  have b_behind_blank := F_behind_blank.binds (ps := ["many", "sign"]) fun _ _ _ _ _ _ us hl => match us, hl with | [_, _], _ => rfl
  have F_behind_c := fun_mk (st := s_behind_c) l_behind_c c_behind_c k_behind_c
  have b_behind_c := F_behind_c.binds (ps := ["many", "sign"]) fun _ _ _ _ _ _ us hl => match us, hl with | [_, _], _ => rfl
  have F_behind_letter := fun_mk (st := s_behind_letter) l_behind_letter c_behind_letter k_behind_letter
  have b_behind_letter := F_behind_letter.binds (ps := ["many", "sign"]) fun _ _ _ _ _ _ us hl => match us, hl with | [_, _], _ => rfl
  have F_behind_maker := fun_mk (st := s_behind_maker) l_behind_maker c_behind_maker k_behind_maker
  have b_behind_maker := F_behind_maker.binds (ps := ["many", "sign"]) fun _ _ _ _ _ _ us hl => match us, hl with | [_, _], _ => rfl
  have F_behind_year := fun_mk (st := s_behind_year) l_behind_year c_behind_year k_behind_year
  have b_behind_year := F_behind_year.binds (ps := ["many", "sign"]) fun _ _ _ _ _ _ us hl => match us, hl with | [_, _], _ => rfl
  have F_behind_copy := fun_mk (st := s_behind_copy) l_behind_copy c_behind_copy k_behind_copy
  have b_behind_copy := F_behind_copy.binds (ps := ["many", "sign"]) fun _ _ _ _ _ _ us hl => match us, hl with | [_, _], _ => rfl
  have F_behind_copied := fun_mk (st := s_behind_copied) l_behind_copied c_behind_copied k_behind_copied
  have b_behind_copied := F_behind_copied.binds (ps := ["_", "sign"]) fun _ _ _ _ _ _ us hl => match us, hl with | [_, _], _ => rfl
  have F_is_first := fun_mk (st := s_is_first) l_is_first c_is_first k_is_first
  have b_is_first := F_is_first.binds (ps := ["sign"]) fun _ _ _ _ _ _ us hl => match us, hl with | [_], _ => rfl
  have F_mark_and_signs := fun_mk (st := s_mark_and_signs) l_mark_and_signs c_mark_and_signs k_mark_and_signs
  have b_mark_and_signs := F_mark_and_signs.binds (ps := ["text"]) fun _ _ _ _ _ _ us hl => match us, hl with | [_], _ => rfl
  have F_key_written := fun_mk (st := s_key_written) l_key_written c_key_written k_key_written
  have b_key_written := F_key_written.binds (ps := ["text"]) fun _ _ _ _ _ _ us hl => match us, hl with | [_], _ => rfl
  have F_walked := fun_mk (st := s_walked) l_walked c_walked k_walked
  have b_walked := F_walked.binds (ps := ["text"]) fun _ _ _ _ _ _ us hl => match us, hl with | [_], _ => rfl
  have F_last_figure := fun_mk (st := s_last_figure) l_last_figure c_last_figure k_last_figure
  have b_last_figure := F_last_figure.binds (ps := ["text", "at"]) fun _ _ _ _ _ _ us hl => match us, hl with | [_, _], _ => rfl
  have F_head_of := fun_mk (st := s_head_of) l_head_of c_head_of k_head_of
  have b_head_of := F_head_of.binds (ps := ["text"]) fun _ _ _ _ _ _ us hl => match us, hl with | [_], _ => rfl
  have F_behind_head := fun_mk (st := s_behind_head) l_behind_head c_behind_head k_behind_head
  have b_behind_head := F_behind_head.binds (ps := ["text"]) fun _ _ _ _ _ _ us hl => match us, hl with | [_], _ => rfl
  have F_letters_behind := fun_mk (st := s_letters_behind) l_letters_behind c_letters_behind k_letters_behind
  have b_letters_behind := F_letters_behind.binds (ps := ["letters"]) fun _ _ _ _ _ _ us hl => match us, hl with | [_], _ => rfl
  have F_l_cell := fun_mk (st := s_l_cell) l_l_cell c_l_cell k_l_cell
  have b_l_cell := F_l_cell.binds (ps := ["_law_script", "_law_k"]) fun _ _ _ _ _ _ us hl => match us, hl with | [_, _], _ => rfl
  have F_l_box := fun_mk (st := s_l_box) l_l_box c_l_box k_l_box
  have b_l_box := F_l_box.binds (ps := ["_law_cell_here"]) fun _ _ _ _ _ _ us hl => match us, hl with | [_], _ => rfl
  have F_l_take := fun_mk (st := s_l_take) l_l_take c_l_take k_l_take
  have b_l_take := F_l_take.binds (ps := ["_law_box_here", "_law_many"]) fun _ _ _ _ _ _ us hl => match us, hl with | [_, _], _ => rfl
  have F_l_letters := fun_mk (st := s_l_letters) l_l_letters c_l_letters k_l_letters
  have b_l_letters := F_l_letters.binds (ps := ["_law_box_here"]) fun _ _ _ _ _ _ us hl => match us, hl with | [_], _ => rfl
  have F_l_figures := fun_mk (st := s_l_figures) l_l_figures c_l_figures k_l_figures
  have b_l_figures := F_l_figures.binds (ps := ["_law_box_here", "_law_many"]) fun _ _ _ _ _ _ us hl => match us, hl with | [_, _], _ => rfl
  have F_l_head := fun_mk (st := s_l_head) l_l_head c_l_head k_l_head
  have b_l_head := F_l_head.binds (ps := ["_law_box_here", "_law_most"]) fun _ _ _ _ _ _ us hl => match us, hl with | [_, _], _ => rfl
  have F_l_text := fun_mk (st := s_l_text) l_l_text c_l_text k_l_text
  have b_l_text := F_l_text.binds (ps := ["_law_head_here"]) fun _ _ _ _ _ _ us hl => match us, hl with | [_], _ => rfl
  have F_l_next_letters := fun_mk (st := s_l_next_letters) l_l_next_letters c_l_next_letters k_l_next_letters
  have b_l_next_letters := F_l_next_letters.binds (ps := ["_law_letters_here"]) fun _ _ _ _ _ _ us hl => match us, hl with | [_], _ => rfl
  have F_l_behind := fun_mk (st := s_l_behind) l_l_behind c_l_behind k_l_behind
  have b_l_behind := F_l_behind.binds (ps := ["_law_head_here"]) fun _ _ _ _ _ _ us hl => match us, hl with | [_], _ => rfl
  have F_l_near := fun_mk (st := s_l_near) l_l_near c_l_near k_l_near
  have b_l_near := F_l_near.binds (ps := ["_law_box_here", "_law_head_here", "_law_most"]) fun _ _ _ _ _ _ us hl => match us, hl with | [_, _, _], _ => rfl
  have F_l_right := fun_mk (st := s_l_right) l_l_right c_l_right k_l_right
  have b_l_right := F_l_right.binds (ps := ["_law_head_here"]) fun _ _ _ _ _ _ us hl => match us, hl with | [_], _ => rfl
  have F_law := fun_mk (st := s_law) l_law c_law k_law
  have b_law := F_law.binds (ps := ["_law_script"]) fun _ _ _ _ _ _ us hl => match us, hl with | [_], _ => rfl
  have T : Txt K mg { a_is_number := f_is_number, a_is_whole := f_is_whole, a_is_figures := f_is_figures, a_is_letters := f_is_letters, a_is_points := f_is_points, a_is_maker := f_is_maker, a_is_ended := f_is_ended, a_Mark_init := f_Mark_init, a_Mark_eq := f_Mark_eq, a_Mark_str := f_Mark_str, a_Mark_repr := f_Mark_repr, a_Mark_len := f_Mark_len, a_Mark_letters := f_Mark_letters, a_Mark_number := f_Mark_number, a_Mark_points := f_Mark_points, a_Mark_makers := f_Mark_makers, a_Mark_year := f_Mark_year, a_Mark_copy_number := f_Mark_copy_number, a_Mark_parts := f_Mark_parts, a_Mark_key := f_Mark_key, a_Mark_ahead := f_Mark_ahead, a_Mark_head := f_Mark_head, a_Mark_book := f_Mark_book, a_Mark_with_year := f_Mark_with_year, a_Mark_with_copy := f_Mark_with_copy, a_Mark_same_book := f_Mark_same_book, a_mark_of_key := f_mark_of_key, a_kept_makers := f_kept_makers, a_text_of := f_text_of, a_ending := f_ending, a_behind_letters := f_behind_letters, a_behind_number := f_behind_number, a_behind_point := f_behind_point, a_behind_points := f_behind_points, a_behind_blank := f_behind_blank, a_behind_c := f_behind_c, a_behind_letter := f_behind_letter, a_behind_maker := f_behind_maker, a_behind_year := f_behind_year, a_behind_copy := f_behind_copy, a_behind_copied := f_behind_copied, a_is_first := f_is_first, a_mark_and_signs := f_mark_and_signs, a_key_written := f_key_written, a_walked := f_walked, a_last_figure := f_last_figure, a_head_of := f_head_of, a_behind_head := f_behind_head, a_letters_behind := f_letters_behind, a_l_cell := f_l_cell, a_l_box := f_l_box, a_l_take := f_l_take, a_l_letters := f_l_letters, a_l_figures := f_l_figures, a_l_head := f_l_head, a_l_text := f_l_text, a_l_next_letters := f_l_next_letters, a_l_behind := f_l_behind, a_l_near := f_l_near, a_l_right := f_l_right, a_law := fa, d_is_number := _, d_is_whole := _, d_is_figures := _, d_is_letters := _, d_is_points := _, d_is_maker := _, d_is_ended := _, d_Mark_init := _, d_Mark_eq := _, d_Mark_str := _, d_Mark_repr := _, d_Mark_len := _, d_Mark_letters := _, d_Mark_number := _, d_Mark_points := _, d_Mark_makers := _, d_Mark_year := _, d_Mark_copy_number := _, d_Mark_parts := _, d_Mark_key := _, d_Mark_ahead := _, d_Mark_head := _, d_Mark_book := _, d_Mark_with_year := _, d_Mark_with_copy := _, d_Mark_same_book := _, d_mark_of_key := _, d_kept_makers := _, d_text_of := _, d_ending := _, d_behind_letters := _, d_behind_number := _, d_behind_point := _, d_behind_points := _, d_behind_blank := _, d_behind_c := _, d_behind_letter := _, d_behind_maker := _, d_behind_year := _, d_behind_copy := _, d_behind_copied := _, d_is_first := _, d_mark_and_signs := _, d_key_written := _, d_walked := _, d_last_figure := _, d_head_of := _, d_behind_head := _, d_letters_behind := _, d_l_cell := _, d_l_box := _, d_l_take := _, d_l_letters := _, d_l_figures := _, d_l_head := _, d_l_text := _, d_l_next_letters := _, d_l_behind := _, d_l_near := _, d_l_right := _, d_law := _, C_Mark := C_Mark, k_START := k_START, k_COPY_ENDS := k_COPY_ENDS, k_NO_MORE := k_NO_MORE, k_NO_MORE_0 := k_NO_MORE_0, k_ENDLESS := k_ENDLESS, k_STEPS := k_STEPS, wd := w } :=
    { F_is_number := F_is_number,
      g_is_number := PySem.W.mg_of X G a_is_number,
      b_is_number := b_is_number,
      F_is_whole := F_is_whole,
      g_is_whole := PySem.W.mg_of X G a_is_whole,
      b_is_whole := b_is_whole,
      b_is_whole_2 := b_is_whole_2e,
      F_is_figures := F_is_figures,
      g_is_figures := PySem.W.mg_of X G a_is_figures,
      b_is_figures := b_is_figures,
      F_is_letters := F_is_letters,
      g_is_letters := PySem.W.mg_of X G a_is_letters,
      b_is_letters := b_is_letters,
      F_is_points := F_is_points,
      g_is_points := PySem.W.mg_of X G a_is_points,
      b_is_points := b_is_points,
      F_is_maker := F_is_maker,
      g_is_maker := PySem.W.mg_of X G a_is_maker,
      b_is_maker := b_is_maker,
      F_is_ended := F_is_ended,
      g_is_ended := PySem.W.mg_of X G a_is_ended,
      b_is_ended := b_is_ended,
      F_Mark_init := F_Mark_init,
      b_Mark_init := b_Mark_init,
      b_Mark_init_3 := b_Mark_init_3e,
      b_Mark_init_4 := b_Mark_init_4e,
      F_Mark_eq := F_Mark_eq,
      m_Mark_eq := ⟨a_Mark_eq, i_Mark_eq, k_Mark_eq⟩,
      b_Mark_eq := b_Mark_eq,
      F_Mark_str := F_Mark_str,
      m_Mark_str := ⟨a_Mark_str, i_Mark_str, k_Mark_str⟩,
      b_Mark_str := b_Mark_str,
      F_Mark_repr := F_Mark_repr,
      m_Mark_repr := ⟨a_Mark_repr, i_Mark_repr, k_Mark_repr⟩,
      b_Mark_repr := b_Mark_repr,
      F_Mark_len := F_Mark_len,
      m_Mark_len := ⟨a_Mark_len, i_Mark_len, k_Mark_len⟩,
      b_Mark_len := b_Mark_len,
      F_Mark_letters := F_Mark_letters,
      m_Mark_letters := ⟨a_Mark_letters, i_Mark_letters, k_Mark_letters⟩,
      b_Mark_letters := b_Mark_letters,
      F_Mark_number := F_Mark_number,
      m_Mark_number := ⟨a_Mark_number, i_Mark_number, k_Mark_number⟩,
      b_Mark_number := b_Mark_number,
      F_Mark_points := F_Mark_points,
      m_Mark_points := ⟨a_Mark_points, i_Mark_points, k_Mark_points⟩,
      b_Mark_points := b_Mark_points,
      F_Mark_makers := F_Mark_makers,
      m_Mark_makers := ⟨a_Mark_makers, i_Mark_makers, k_Mark_makers⟩,
      b_Mark_makers := b_Mark_makers,
      F_Mark_year := F_Mark_year,
      m_Mark_year := ⟨a_Mark_year, i_Mark_year, k_Mark_year⟩,
      b_Mark_year := b_Mark_year,
      F_Mark_copy_number := F_Mark_copy_number,
      m_Mark_copy_number := ⟨a_Mark_copy_number, i_Mark_copy_number, k_Mark_copy_number⟩,
      b_Mark_copy_number := b_Mark_copy_number,
      F_Mark_parts := F_Mark_parts,
      m_Mark_parts := ⟨a_Mark_parts, i_Mark_parts, k_Mark_parts⟩,
      b_Mark_parts := b_Mark_parts,
      F_Mark_key := F_Mark_key,
      m_Mark_key := ⟨a_Mark_key, i_Mark_key, k_Mark_key⟩,
      b_Mark_key := b_Mark_key,
      F_Mark_ahead := F_Mark_ahead,
      m_Mark_ahead := ⟨a_Mark_ahead, i_Mark_ahead, k_Mark_ahead⟩,
      b_Mark_ahead := b_Mark_ahead,
      F_Mark_head := F_Mark_head,
      m_Mark_head := ⟨a_Mark_head, i_Mark_head, k_Mark_head⟩,
      b_Mark_head := b_Mark_head,
      F_Mark_book := F_Mark_book,
      m_Mark_book := ⟨a_Mark_book, i_Mark_book, k_Mark_book⟩,
      b_Mark_book := b_Mark_book,
      F_Mark_with_year := F_Mark_with_year,
      m_Mark_with_year := ⟨a_Mark_with_year, i_Mark_with_year, k_Mark_with_year⟩,
      b_Mark_with_year := b_Mark_with_year,
      F_Mark_with_copy := F_Mark_with_copy,
      m_Mark_with_copy := ⟨a_Mark_with_copy, i_Mark_with_copy, k_Mark_with_copy⟩,
      b_Mark_with_copy := b_Mark_with_copy,
      F_Mark_same_book := F_Mark_same_book,
      m_Mark_same_book := ⟨a_Mark_same_book, i_Mark_same_book, k_Mark_same_book⟩,
      b_Mark_same_book := b_Mark_same_book,
      F_mark_of_key := F_mark_of_key,
      g_mark_of_key := PySem.W.mg_of X G a_mark_of_key,
      b_mark_of_key := b_mark_of_key,
      F_kept_makers := F_kept_makers,
      g_kept_makers := PySem.W.mg_of X G a_kept_makers,
      b_kept_makers := b_kept_makers,
      F_text_of := F_text_of,
      g_text_of := PySem.W.mg_of X G a_text_of,
      b_text_of := b_text_of,
      F_ending := F_ending,
      g_ending := PySem.W.mg_of X G a_ending,
      b_ending := b_ending,
      F_behind_letters := F_behind_letters,
      g_behind_letters := PySem.W.mg_of X G a_behind_letters,
      b_behind_letters := b_behind_letters,
      F_behind_number := F_behind_number,
      g_behind_number := PySem.W.mg_of X G a_behind_number,
      b_behind_number := b_behind_number,
      F_behind_point := F_behind_point,
      g_behind_point := PySem.W.mg_of X G a_behind_point,
      b_behind_point := b_behind_point,
      F_behind_points := F_behind_points,
      g_behind_points := PySem.W.mg_of X G a_behind_points,
      b_behind_points := b_behind_points,
      F_behind_blank := F_behind_blank,
      g_behind_blank := PySem.W.mg_of X G a_behind_blank,
      b_behind_blank := b_behind_blank,
      F_behind_c := F_behind_c,
      g_behind_c := PySem.W.mg_of X G a_behind_c,
      b_behind_c := b_behind_c,
      F_behind_letter := F_behind_letter,
      g_behind_letter := PySem.W.mg_of X G a_behind_letter,
      b_behind_letter := b_behind_letter,
      F_behind_maker := F_behind_maker,
      g_behind_maker := PySem.W.mg_of X G a_behind_maker,
      b_behind_maker := b_behind_maker,
      F_behind_year := F_behind_year,
      g_behind_year := PySem.W.mg_of X G a_behind_year,
      b_behind_year := b_behind_year,
      F_behind_copy := F_behind_copy,
      g_behind_copy := PySem.W.mg_of X G a_behind_copy,
      b_behind_copy := b_behind_copy,
      F_behind_copied := F_behind_copied,
      g_behind_copied := PySem.W.mg_of X G a_behind_copied,
      b_behind_copied := b_behind_copied,
      F_is_first := F_is_first,
      g_is_first := PySem.W.mg_of X G a_is_first,
      b_is_first := b_is_first,
      F_mark_and_signs := F_mark_and_signs,
      g_mark_and_signs := PySem.W.mg_of X G a_mark_and_signs,
      b_mark_and_signs := b_mark_and_signs,
      F_key_written := F_key_written,
      g_key_written := PySem.W.mg_of X G a_key_written,
      b_key_written := b_key_written,
      F_walked := F_walked,
      g_walked := PySem.W.mg_of X G a_walked,
      b_walked := b_walked,
      F_last_figure := F_last_figure,
      g_last_figure := PySem.W.mg_of X G a_last_figure,
      b_last_figure := b_last_figure,
      F_head_of := F_head_of,
      g_head_of := PySem.W.mg_of X G a_head_of,
      b_head_of := b_head_of,
      F_behind_head := F_behind_head,
      g_behind_head := PySem.W.mg_of X G a_behind_head,
      b_behind_head := b_behind_head,
      F_letters_behind := F_letters_behind,
      g_letters_behind := PySem.W.mg_of X G a_letters_behind,
      b_letters_behind := b_letters_behind,
      F_l_cell := F_l_cell,
      g_l_cell := PySem.W.mg_of X G a_l_cell,
      b_l_cell := b_l_cell,
      F_l_box := F_l_box,
      g_l_box := PySem.W.mg_of X G a_l_box,
      b_l_box := b_l_box,
      F_l_take := F_l_take,
      g_l_take := PySem.W.mg_of X G a_l_take,
      b_l_take := b_l_take,
      F_l_letters := F_l_letters,
      g_l_letters := PySem.W.mg_of X G a_l_letters,
      b_l_letters := b_l_letters,
      F_l_figures := F_l_figures,
      g_l_figures := PySem.W.mg_of X G a_l_figures,
      b_l_figures := b_l_figures,
      F_l_head := F_l_head,
      g_l_head := PySem.W.mg_of X G a_l_head,
      b_l_head := b_l_head,
      F_l_text := F_l_text,
      g_l_text := PySem.W.mg_of X G a_l_text,
      b_l_text := b_l_text,
      F_l_next_letters := F_l_next_letters,
      g_l_next_letters := PySem.W.mg_of X G a_l_next_letters,
      b_l_next_letters := b_l_next_letters,
      F_l_behind := F_l_behind,
      g_l_behind := PySem.W.mg_of X G a_l_behind,
      b_l_behind := b_l_behind,
      F_l_near := F_l_near,
      g_l_near := PySem.W.mg_of X G a_l_near,
      b_l_near := b_l_near,
      F_l_right := F_l_right,
      g_l_right := PySem.W.mg_of X G a_l_right,
      b_l_right := b_l_right,
      F_law := F_law,
      g_law := PySem.W.mg_of X G a_law,
      b_law := b_law,
      g_Mark := PySem.W.mg_of X G aC_Mark,
      cl_Mark := ⟨pg_Mark, hd_Mark, po_Mark, sa_Mark⟩,
      M_Mark := ⟨mk_Mark, a_Mark_init, i_Mark_init, kc_Mark⟩,
      t1_Mark := t1_Mark,
      t2_Mark := t2_Mark,
      t3_Mark := t3_Mark,
      t4_Mark := t4_Mark,
      ne_Mark := ne_Mark,
      ki_Mark := by rw [show (PySem.W.clsIn K C_Mark).isSome = true from ic_Mark, ty_Mark]; rfl,
      na_Mark_parts := na_Mark_parts,
      na_Mark_text := na_Mark_text,
      n_len := PySem.W.mg_none_of X G z_len,
      n_isinstance := PySem.W.mg_none_of X G z_isinstance,
      n_range := PySem.W.mg_none_of X G z_range,
      n_max := PySem.W.mg_none_of X G z_max,
      n_min := PySem.W.mg_none_of X G z_min,
      n_int := PySem.W.mg_none_of X G z_int,
      n_bool := PySem.W.mg_none_of X G z_bool,
      n_str := PySem.W.mg_none_of X G z_str,
      n_list := PySem.W.mg_none_of X G z_list,
      n_tuple := PySem.W.mg_none_of X G z_tuple,
      c_ENDLESS := PySem.W.mg_of X G q_ENDLESS,
      kd_ENDLESS := ⟨kes_ENDLESS, ken_ENDLESS, kdl_ENDLESS, kdk_ENDLESS, kds_ENDLESS⟩,
      kd_ENDLESS_point := ⟨_, _, _, kdl_ENDLESS, kdk_ENDLESS, kdv_ENDLESS_point, rfl⟩,
      kd_ENDLESS_points := ⟨_, _, _, kdl_ENDLESS, kdk_ENDLESS, kdv_ENDLESS_points, rfl⟩,
      kd_ENDLESS_letter := ⟨_, _, _, kdl_ENDLESS, kdk_ENDLESS, kdv_ENDLESS_letter, rfl⟩,
      kd_ENDLESS_maker := ⟨_, _, _, kdl_ENDLESS, kdk_ENDLESS, kdv_ENDLESS_maker, rfl⟩,
      kd_ENDLESS_copied := ⟨_, _, _, kdl_ENDLESS, kdk_ENDLESS, kdv_ENDLESS_copied, rfl⟩,
      kn_ENDLESS_letters := kn_ENDLESS_letters,
      kn_ENDLESS_number := kn_ENDLESS_number,
      kn_ENDLESS_blank := kn_ENDLESS_blank,
      kn_ENDLESS_c := kn_ENDLESS_c,
      kn_ENDLESS_year := kn_ENDLESS_year,
      kn_ENDLESS_copy := kn_ENDLESS_copy,
      c_STEPS := PySem.W.mg_of X G q_STEPS,
      kd_STEPS := ⟨kes_STEPS, ken_STEPS, kdl_STEPS, kdk_STEPS, kds_STEPS⟩,
      kd_STEPS_letters := ⟨_, _, _, kdl_STEPS, kdk_STEPS, kdv_STEPS_letters, rfl⟩,
      kd_STEPS_number := ⟨_, _, _, kdl_STEPS, kdk_STEPS, kdv_STEPS_number, rfl⟩,
      kd_STEPS_point := ⟨_, _, _, kdl_STEPS, kdk_STEPS, kdv_STEPS_point, rfl⟩,
      kd_STEPS_points := ⟨_, _, _, kdl_STEPS, kdk_STEPS, kdv_STEPS_points, rfl⟩,
      kd_STEPS_blank := ⟨_, _, _, kdl_STEPS, kdk_STEPS, kdv_STEPS_blank, rfl⟩,
      kd_STEPS_c := ⟨_, _, _, kdl_STEPS, kdk_STEPS, kdv_STEPS_c, rfl⟩,
      kd_STEPS_letter := ⟨_, _, _, kdl_STEPS, kdk_STEPS, kdv_STEPS_letter, rfl⟩,
      kd_STEPS_maker := ⟨_, _, _, kdl_STEPS, kdk_STEPS, kdv_STEPS_maker, rfl⟩,
      kd_STEPS_year := ⟨_, _, _, kdl_STEPS, kdk_STEPS, kdv_STEPS_year, rfl⟩,
      kd_STEPS_copy := ⟨_, _, _, kdl_STEPS, kdk_STEPS, kdv_STEPS_copy, rfl⟩,
      kd_STEPS_copied := ⟨_, _, _, kdl_STEPS, kdk_STEPS, kdv_STEPS_copied, rfl⟩,
      c_SMALL := ⟨_, PySem.W.mg_of X G q_SMALL⟩,
      c_FIGURES := ⟨_, PySem.W.mg_of X G q_FIGURES⟩,
      c_START := PySem.W.mg_of X G q_START,
      t_START := fun _ => .inr ⟨ko_START, ku_START.toArray, kn_START, kl_START, kt_START, kx_START, (by have q := Paired.length kv_START; rw [List.size_toArray, ← q]; show 2 ≤ sizeLine; decide), kv_START⟩,
      c_MOST_LETTERS := ⟨_, PySem.W.mg_of X G q_MOST_LETTERS⟩,
      c_MOST_MAKERS := ⟨_, PySem.W.mg_of X G q_MOST_MAKERS⟩,
      c_BEHIND_YEAR := ⟨_, PySem.W.mg_of X G q_BEHIND_YEAR⟩,
      c_COPY_ENDS := PySem.W.mg_of X G q_COPY_ENDS,
      t_COPY_ENDS := fun _ => .inr ⟨ko_COPY_ENDS, ku_COPY_ENDS.toArray, kn_COPY_ENDS, kl_COPY_ENDS, kt_COPY_ENDS, kx_COPY_ENDS, (by have q := Paired.length kv_COPY_ENDS; rw [List.size_toArray, ← q]; show 2 ≤ sizeLine; decide), kv_COPY_ENDS⟩,
      c_MOST_WITHOUT_RUNS := ⟨_, PySem.W.mg_of X G q_MOST_WITHOUT_RUNS⟩,
      c_NO_MORE := PySem.W.mg_of X G q_NO_MORE,
      t_NO_MORE := fun _ => .inr ⟨ko_NO_MORE, ku_NO_MORE.toArray, kn_NO_MORE, kl_NO_MORE, kt_NO_MORE, kx_NO_MORE, (by have q := Paired.length kv_NO_MORE; rw [List.size_toArray, ← q]; show 3 ≤ sizeLine; decide), kv_NO_MORE⟩,
      t_NO_MORE_0 := fun _ => .inr ⟨ko_NO_MORE_0, ku_NO_MORE_0.toArray, kn_NO_MORE_0, kl_NO_MORE_0, kt_NO_MORE_0, kx_NO_MORE_0, (by have q := Paired.length kv_NO_MORE_0; rw [List.size_toArray, ← q]; show 0 ≤ sizeLine; decide), kv_NO_MORE_0⟩ }
  exact ⟨PySem.W.fnOf "law" "law" (defArgs s_law) (defBody s_law) (defScope s_law) .none kV_law dc_law pm_law an_law cd_law ct_law, fun s v => .of_eq rfl, fun base _ _ => ok_law T⟩
theorem walk {l : PySem.W.OpenLaw} {q : Program} {loose : List Str} {XP : (Str → Option Value) → Heap → Prop} {YP : World → Heap → Prop} {d : DefRec} {K : Params → PySem.W.Frag} (hn : l.most = some 63) (hdf : d.params.defaults = [])
    (hY : ∀ (w : World) (h : Heap), YP w h → (K w.params).In h)
    (F : ∀ (w : World) (mg : Str → Option Value) (fa : Addr) (h : Heap), (K w.params).In h → h.Ns mainGlobals mg → mg d.name = some (.ref fa) →
      ∃ fd : FuncData, (∀ (s : Shared) (u : Value), BindsTo s fd ⟨[u], []⟩ [("_law_script", u)]) ∧ ∀ base : Heap, (K w.params).In base → base.Ns mainGlobals mg → FnOk l.prog w (K w.params) mg base CX0 16 fa fd ["_law_script"] (spLaw (K w.params))) :
    PySem.W.WalkO q loose XP YP l.row.toRowW d [] (fun f vs => PySem.call f vs) :=
  L2.walk_of (n := 63) (k := 16) (x := "_law_script") (CX := fun _ => CX0) (sp := fun w => spLaw (K w.params)) hn (by decide) hdf ⟨rfl, by decide, by decide⟩ hY F (fun _ _ a ns hl _ hS => ⟨a, ns, rfl, hS, hl, fun _ => rfl⟩) fun _ _ _ _ _ z => z
end My
open PySem PySem.W PyProof.Rows in
set_option maxRecDepth 100000 in
set_option maxHeartbeats 0 in
set_option pp.maxSteps 40 in
theorem PySem.Challenge.cw_spinemarks_k44_behind_a_head_holds : PySem.Challenge.rw_spinemarks_k44_behind_a_head.Holds := by
  w_on; o_law; k_head; (case hw => w_witness2)
  k_fill
  refine My.walk (l := PySem.Challenge.rw_spinemarks_k44_behind_a_head) rfl rfl (fun w h Y => PySem.W.kIn_of Y) ?F
  case F =>
    intro w mg fa h KX G hmg
    refine' My.all_mk KX G hmg ?aC_Mark ?pg_Mark ?hd_Mark ?po_Mark ?sa_Mark ?mk_Mark ?kc_Mark ?t1_Mark ?t4_Mark ?t2_Mark ?t3_Mark ?ne_Mark ?ic_Mark ?ty_Mark ?na_Mark_parts ?na_Mark_text ?a_is_number ?l_is_number ?c_is_number ?k_is_number ?a_is_whole ?l_is_whole ?c_is_whole ?k_is_whole ?e_is_whole ?x_is_whole ?v_is_whole ?a_is_figures ?l_is_figures ?c_is_figures ?k_is_figures ?a_is_letters ?l_is_letters ?c_is_letters ?k_is_letters ?a_is_points ?l_is_points ?c_is_points ?k_is_points ?a_is_maker ?l_is_maker ?c_is_maker ?k_is_maker ?a_is_ended ?l_is_ended ?c_is_ended ?k_is_ended ?a_Mark_init ?i_Mark_init ?l_Mark_init ?c_Mark_init ?k_Mark_init ?e_Mark_init ?x_Mark_init ?v_Mark_init ?a_Mark_eq ?i_Mark_eq ?l_Mark_eq ?c_Mark_eq ?k_Mark_eq ?a_Mark_str ?i_Mark_str ?l_Mark_str ?c_Mark_str ?k_Mark_str ?a_Mark_repr ?i_Mark_repr ?l_Mark_repr ?c_Mark_repr ?k_Mark_repr ?a_Mark_len ?i_Mark_len ?l_Mark_len ?c_Mark_len ?k_Mark_len ?a_Mark_letters ?i_Mark_letters ?l_Mark_letters ?c_Mark_letters ?k_Mark_letters ?a_Mark_number ?i_Mark_number ?l_Mark_number ?c_Mark_number ?k_Mark_number ?a_Mark_points ?i_Mark_points ?l_Mark_points ?c_Mark_points ?k_Mark_points ?a_Mark_makers ?i_Mark_makers ?l_Mark_makers ?c_Mark_makers ?k_Mark_makers ?a_Mark_year ?i_Mark_year ?l_Mark_year ?c_Mark_year ?k_Mark_year ?a_Mark_copy_number ?i_Mark_copy_number ?l_Mark_copy_number ?c_Mark_copy_number ?k_Mark_copy_number ?a_Mark_parts ?i_Mark_parts ?l_Mark_parts ?c_Mark_parts ?k_Mark_parts ?a_Mark_key ?i_Mark_key ?l_Mark_key ?c_Mark_key ?k_Mark_key ?a_Mark_ahead ?i_Mark_ahead ?l_Mark_ahead ?c_Mark_ahead ?k_Mark_ahead ?a_Mark_head ?i_Mark_head ?l_Mark_head ?c_Mark_head ?k_Mark_head ?a_Mark_book ?i_Mark_book ?l_Mark_book ?c_Mark_book ?k_Mark_book ?a_Mark_with_year ?i_Mark_with_year ?l_Mark_with_year ?c_Mark_with_year ?k_Mark_with_year ?e_Mark_with_year ?x_Mark_with_year ?v_Mark_with_year ?a_Mark_with_copy ?i_Mark_with_copy ?l_Mark_with_copy ?c_Mark_with_copy ?k_Mark_with_copy ?e_Mark_with_copy ?x_Mark_with_copy ?v_Mark_with_copy ?a_Mark_same_book ?i_Mark_same_book ?l_Mark_same_book ?c_Mark_same_book ?k_Mark_same_book ?a_mark_of_key ?l_mark_of_key ?c_mark_of_key ?k_mark_of_key ?a_kept_makers ?l_kept_makers ?c_kept_makers ?k_kept_makers ?a_text_of ?l_text_of ?c_text_of ?k_text_of ?a_ending ?l_ending ?c_ending ?k_ending ?a_behind_letters ?l_behind_letters ?c_behind_letters ?k_behind_letters ?a_behind_number ?l_behind_number ?c_behind_number ?k_behind_number ?a_behind_point ?l_behind_point ?c_behind_point ?k_behind_point ?a_behind_points ?l_behind_points ?c_behind_points ?k_behind_points ?a_behind_blank ?l_behind_blank ?c_behind_blank ?k_behind_blank ?a_behind_c ?l_behind_c ?c_behind_c ?k_behind_c ?a_behind_letter ?l_behind_letter ?c_behind_letter ?k_behind_letter ?a_behind_maker ?l_behind_maker ?c_behind_maker ?k_behind_maker ?a_behind_year ?l_behind_year ?c_behind_year ?k_behind_year ?a_behind_copy ?l_behind_copy ?c_behind_copy ?k_behind_copy ?a_behind_copied ?l_behind_copied ?c_behind_copied ?k_behind_copied ?a_is_first ?l_is_first ?c_is_first ?k_is_first ?a_mark_and_signs ?l_mark_and_signs ?c_mark_and_signs ?k_mark_and_signs ?a_key_written ?l_key_written ?c_key_written ?k_key_written ?a_walked ?l_walked ?c_walked ?k_walked ?a_last_figure ?l_last_figure ?c_last_figure ?k_last_figure ?a_head_of ?l_head_of ?c_head_of ?k_head_of ?a_behind_head ?l_behind_head ?c_behind_head ?k_behind_head ?a_letters_behind ?l_letters_behind ?c_letters_behind ?k_letters_behind ?a_l_cell ?l_l_cell ?c_l_cell ?k_l_cell ?a_l_box ?l_l_box ?c_l_box ?k_l_box ?a_l_take ?l_l_take ?c_l_take ?k_l_take ?a_l_letters ?l_l_letters ?c_l_letters ?k_l_letters ?a_l_figures ?l_l_figures ?c_l_figures ?k_l_figures ?a_l_head ?l_l_head ?c_l_head ?k_l_head ?a_l_text ?l_l_text ?c_l_text ?k_l_text ?a_l_next_letters ?l_l_next_letters ?c_l_next_letters ?k_l_next_letters ?a_l_behind ?l_l_behind ?c_l_behind ?k_l_behind ?a_l_near ?l_l_near ?c_l_near ?k_l_near ?a_l_right ?l_l_right ?c_l_right ?k_l_right ?a_law ?l_law ?c_law ?k_law ?z_len ?z_isinstance ?z_range ?z_max ?z_min ?z_int ?z_bool ?z_str ?z_list ?z_tuple ?q_SMALL ?q_FIGURES ?q_START ?kl_START ?kx_START ?kt_START ?kv_START ?q_MOST_LETTERS ?q_MOST_MAKERS ?q_BEHIND_YEAR ?q_COPY_ENDS ?kl_COPY_ENDS ?kx_COPY_ENDS ?kt_COPY_ENDS ?kv_COPY_ENDS ?q_ENDLESS ?kdl_ENDLESS ?kdk_ENDLESS ?kds_ENDLESS ?kdv_ENDLESS_point ?kdv_ENDLESS_points ?kdv_ENDLESS_letter ?kdv_ENDLESS_maker ?kdv_ENDLESS_copied ?kn_ENDLESS_letters ?kn_ENDLESS_number ?kn_ENDLESS_blank ?kn_ENDLESS_c ?kn_ENDLESS_year ?kn_ENDLESS_copy ?q_STEPS ?kdl_STEPS ?kdk_STEPS ?kds_STEPS ?kdv_STEPS_letters ?kdv_STEPS_number ?kdv_STEPS_point ?kdv_STEPS_points ?kdv_STEPS_blank ?kdv_STEPS_c ?kdv_STEPS_letter ?kdv_STEPS_maker ?kdv_STEPS_year ?kdv_STEPS_copy ?kdv_STEPS_copied ?q_MOST_WITHOUT_RUNS ?q_NO_MORE ?kl_NO_MORE ?kx_NO_MORE ?kt_NO_MORE ?kv_NO_MORE ?kl_NO_MORE_0 ?kx_NO_MORE_0 ?kt_NO_MORE_0 ?kv_NO_MORE_0
    (case aC_Mark => k_is)
    (case pg_Mark => k_is)
    (case hd_Mark => k_is)
    (case po_Mark => k_is)
    (case sa_Mark => k_is)
    (case mk_Mark => k_is)
    (case kc_Mark => k_is)
    (case t1_Mark => k_is)
    (case t4_Mark => k_is)
    (case t2_Mark => k_is)
    (case t3_Mark => k_is)
    (case ne_Mark => k_is)
    (case ic_Mark => k_is)
    (case ty_Mark => k_is)
    (case na_Mark_parts => k_is)
    (case na_Mark_text => k_is)
    (case a_is_number => k_is)
    (case l_is_number => k_is)
    (case c_is_number => k_is)
    (case k_is_number => k_is)
    (case a_is_whole => k_is)
    (case l_is_whole => k_is)
    (case c_is_whole => k_is)
    (case k_is_whole => k_is)
    (case e_is_whole => k_is)
    (case x_is_whole => first | rfl | k_is)
    (case v_is_whole => first | (repeat (first | exact .nil | refine .cons ?_ ?_ | rfl | exact ⟨_, rfl⟩)))
    (case a_is_figures => k_is)
    (case l_is_figures => k_is)
    (case c_is_figures => k_is)
    (case k_is_figures => k_is)
    (case a_is_letters => k_is)
    (case l_is_letters => k_is)
    (case c_is_letters => k_is)
    (case k_is_letters => k_is)
    (case a_is_points => k_is)
    (case l_is_points => k_is)
    (case c_is_points => k_is)
    (case k_is_points => k_is)
    (case a_is_maker => k_is)
    (case l_is_maker => k_is)
    (case c_is_maker => k_is)
    (case k_is_maker => k_is)
    (case a_is_ended => k_is)
    (case l_is_ended => k_is)
    (case c_is_ended => k_is)
    (case k_is_ended => k_is)
    (case a_Mark_init => k_is)
    (case i_Mark_init => k_is)
    (case l_Mark_init => k_is)
    (case c_Mark_init => k_is)
    (case k_Mark_init => k_is)
    (case e_Mark_init => k_is)
    (case x_Mark_init => first | rfl | k_is)
    (case v_Mark_init => first | (repeat (first | exact .nil | refine .cons ?_ ?_ | rfl | exact ⟨_, rfl⟩)))
    (case a_Mark_eq => k_is)
    (case i_Mark_eq => k_is)
    (case l_Mark_eq => k_is)
    (case c_Mark_eq => k_is)
    (case k_Mark_eq => k_is)
    (case a_Mark_str => k_is)
    (case i_Mark_str => k_is)
    (case l_Mark_str => k_is)
    (case c_Mark_str => k_is)
    (case k_Mark_str => k_is)
    (case a_Mark_repr => k_is)
    (case i_Mark_repr => k_is)
    (case l_Mark_repr => k_is)
    (case c_Mark_repr => k_is)
    (case k_Mark_repr => k_is)
    (case a_Mark_len => k_is)
    (case i_Mark_len => k_is)
    (case l_Mark_len => k_is)
    (case c_Mark_len => k_is)
    (case k_Mark_len => k_is)
    (case a_Mark_letters => k_is)
    (case i_Mark_letters => k_is)
    (case l_Mark_letters => k_is)
    (case c_Mark_letters => k_is)
    (case k_Mark_letters => k_is)
    (case a_Mark_number => k_is)
    (case i_Mark_number => k_is)
    (case l_Mark_number => k_is)
    (case c_Mark_number => k_is)
    (case k_Mark_number => k_is)
    (case a_Mark_points => k_is)
    (case i_Mark_points => k_is)
    (case l_Mark_points => k_is)
    (case c_Mark_points => k_is)
    (case k_Mark_points => k_is)
    (case a_Mark_makers => k_is)
    (case i_Mark_makers => k_is)
    (case l_Mark_makers => k_is)
    (case c_Mark_makers => k_is)
    (case k_Mark_makers => k_is)
    (case a_Mark_year => k_is)
    (case i_Mark_year => k_is)
    (case l_Mark_year => k_is)
    (case c_Mark_year => k_is)
    (case k_Mark_year => k_is)
    (case a_Mark_copy_number => k_is)
    (case i_Mark_copy_number => k_is)
    (case l_Mark_copy_number => k_is)
    (case c_Mark_copy_number => k_is)
    (case k_Mark_copy_number => k_is)
    (case a_Mark_parts => k_is)
    (case i_Mark_parts => k_is)
    (case l_Mark_parts => k_is)
    (case c_Mark_parts => k_is)
    (case k_Mark_parts => k_is)
    (case a_Mark_key => k_is)
    (case i_Mark_key => k_is)
    (case l_Mark_key => k_is)
    (case c_Mark_key => k_is)
    (case k_Mark_key => k_is)
    (case a_Mark_ahead => k_is)
    (case i_Mark_ahead => k_is)
    (case l_Mark_ahead => k_is)
    (case c_Mark_ahead => k_is)
    (case k_Mark_ahead => k_is)
    (case a_Mark_head => k_is)
    (case i_Mark_head => k_is)
    (case l_Mark_head => k_is)
    (case c_Mark_head => k_is)
    (case k_Mark_head => k_is)
    (case a_Mark_book => k_is)
    (case i_Mark_book => k_is)
    (case l_Mark_book => k_is)
    (case c_Mark_book => k_is)
    (case k_Mark_book => k_is)
    (case a_Mark_with_year => k_is)
    (case i_Mark_with_year => k_is)
    (case l_Mark_with_year => k_is)
    (case c_Mark_with_year => k_is)
    (case k_Mark_with_year => k_is)
    (case e_Mark_with_year => k_is)
    (case x_Mark_with_year => first | rfl | k_is)
    (case v_Mark_with_year => first | (repeat (first | exact .nil | refine .cons ?_ ?_ | rfl | exact ⟨_, rfl⟩)))
    (case a_Mark_with_copy => k_is)
    (case i_Mark_with_copy => k_is)
    (case l_Mark_with_copy => k_is)
    (case c_Mark_with_copy => k_is)
    (case k_Mark_with_copy => k_is)
    (case e_Mark_with_copy => k_is)
    (case x_Mark_with_copy => first | rfl | k_is)
    (case v_Mark_with_copy => first | (repeat (first | exact .nil | refine .cons ?_ ?_ | rfl | exact ⟨_, rfl⟩)))
    (case a_Mark_same_book => k_is)
    (case i_Mark_same_book => k_is)
    (case l_Mark_same_book => k_is)
    (case c_Mark_same_book => k_is)
    (case k_Mark_same_book => k_is)
    (case a_mark_of_key => k_is)
    (case l_mark_of_key => k_is)
    (case c_mark_of_key => k_is)
    (case k_mark_of_key => k_is)
    (case a_kept_makers => k_is)
    (case l_kept_makers => k_is)
    (case c_kept_makers => k_is)
    (case k_kept_makers => k_is)
    (case a_text_of => k_is)
    (case l_text_of => k_is)
    (case c_text_of => k_is)
    (case k_text_of => k_is)
    (case a_ending => k_is)
    (case l_ending => k_is)
    (case c_ending => k_is)
    (case k_ending => k_is)
    (case a_behind_letters => k_is)
    (case l_behind_letters => k_is)
    (case c_behind_letters => k_is)
    (case k_behind_letters => k_is)
    (case a_behind_number => k_is)
    (case l_behind_number => k_is)
    (case c_behind_number => k_is)
    (case k_behind_number => k_is)
    (case a_behind_point => k_is)
    (case l_behind_point => k_is)
    (case c_behind_point => k_is)
    (case k_behind_point => k_is)
    (case a_behind_points => k_is)
    (case l_behind_points => k_is)
    (case c_behind_points => k_is)
    (case k_behind_points => k_is)
    (case a_behind_blank => k_is)
    (case l_behind_blank => k_is)
    (case c_behind_blank => k_is)
    (case k_behind_blank => k_is)
    (case a_behind_c => k_is)
    (case l_behind_c => k_is)
    (case c_behind_c => k_is)
    (case k_behind_c => k_is)
    (case a_behind_letter => k_is)
    (case l_behind_letter => k_is)
    (case c_behind_letter => k_is)
    (case k_behind_letter => k_is)
    (case a_behind_maker => k_is)
    (case l_behind_maker => k_is)
    (case c_behind_maker => k_is)
    (case k_behind_maker => k_is)
    (case a_behind_year => k_is)
    (case l_behind_year => k_is)
    (case c_behind_year => k_is)
    (case k_behind_year => k_is)
    (case a_behind_copy => k_is)
    (case l_behind_copy => k_is)
    (case c_behind_copy => k_is)
    (case k_behind_copy => k_is)
    (case a_behind_copied => k_is)
    (case l_behind_copied => k_is)
    (case c_behind_copied => k_is)
    (case k_behind_copied => k_is)
    (case a_is_first => k_is)
    (case l_is_first => k_is)
    (case c_is_first => k_is)
    (case k_is_first => k_is)
    (case a_mark_and_signs => k_is)
    (case l_mark_and_signs => k_is)
    (case c_mark_and_signs => k_is)
    (case k_mark_and_signs => k_is)
    (case a_key_written => k_is)
    (case l_key_written => k_is)
    (case c_key_written => k_is)
    (case k_key_written => k_is)
    (case a_walked => k_is)
    (case l_walked => k_is)
    (case c_walked => k_is)
    (case k_walked => k_is)
    (case a_last_figure => k_is)
    (case l_last_figure => k_is)
    (case c_last_figure => k_is)
    (case k_last_figure => k_is)
    (case a_head_of => k_is)
    (case l_head_of => k_is)
    (case c_head_of => k_is)
    (case k_head_of => k_is)
    (case a_behind_head => k_is)
    (case l_behind_head => k_is)
    (case c_behind_head => k_is)
    (case k_behind_head => k_is)
    (case a_letters_behind => k_is)
    (case l_letters_behind => k_is)
    (case c_letters_behind => k_is)
    (case k_letters_behind => k_is)
    (case a_l_cell => k_is)
    (case l_l_cell => k_is)
    (case c_l_cell => k_is)
    (case k_l_cell => k_is)
    (case a_l_box => k_is)
    (case l_l_box => k_is)
    (case c_l_box => k_is)
    (case k_l_box => k_is)
    (case a_l_take => k_is)
    (case l_l_take => k_is)
    (case c_l_take => k_is)
    (case k_l_take => k_is)
    (case a_l_letters => k_is)
    (case l_l_letters => k_is)
    (case c_l_letters => k_is)
    (case k_l_letters => k_is)
    (case a_l_figures => k_is)
    (case l_l_figures => k_is)
    (case c_l_figures => k_is)
    (case k_l_figures => k_is)
    (case a_l_head => k_is)
    (case l_l_head => k_is)
    (case c_l_head => k_is)
    (case k_l_head => k_is)
    (case a_l_text => k_is)
    (case l_l_text => k_is)
    (case c_l_text => k_is)
    (case k_l_text => k_is)
    (case a_l_next_letters => k_is)
    (case l_l_next_letters => k_is)
    (case c_l_next_letters => k_is)
    (case k_l_next_letters => k_is)
    (case a_l_behind => k_is)
    (case l_l_behind => k_is)
    (case c_l_behind => k_is)
    (case k_l_behind => k_is)
    (case a_l_near => k_is)
    (case l_l_near => k_is)
    (case c_l_near => k_is)
    (case k_l_near => k_is)
    (case a_l_right => k_is)
    (case l_l_right => k_is)
    (case c_l_right => k_is)
    (case k_l_right => k_is)
    (case a_law => k_is)
    (case l_law => k_is)
    (case c_law => k_is)
    (case k_law => k_is)
    (case z_len => k_is)
    (case z_isinstance => k_is)
    (case z_range => k_is)
    (case z_max => k_is)
    (case z_min => k_is)
    (case z_int => k_is)
    (case z_bool => k_is)
    (case z_str => k_is)
    (case z_list => k_is)
    (case z_tuple => k_is)
    (case q_SMALL => k_is)
    (case q_FIGURES => k_is)
    (case q_START => k_is)
    (case kl_START => k_is)
    (case kx_START => first | rfl | k_is)
    (case kt_START => first | rfl | k_is)
    (case kv_START => first | (repeat (first | exact .nil | refine .cons ?_ ?_ | rfl | exact ⟨_, rfl⟩)))
    (case q_MOST_LETTERS => k_is)
    (case q_MOST_MAKERS => k_is)
    (case q_BEHIND_YEAR => k_is)
    (case q_COPY_ENDS => k_is)
    (case kl_COPY_ENDS => k_is)
    (case kx_COPY_ENDS => first | rfl | k_is)
    (case kt_COPY_ENDS => first | rfl | k_is)
    (case kv_COPY_ENDS => first | (repeat (first | exact .nil | refine .cons ?_ ?_ | rfl | exact ⟨_, rfl⟩)))
    (case q_ENDLESS => k_is)
    (case kdl_ENDLESS => k_is)
    (case kdk_ENDLESS => repeat (first | exact trivial | refine ⟨⟨_, _, rfl, rfl⟩, ?_⟩))
    (case kds_ENDLESS => decide +kernel)
    (case kdv_ENDLESS_point => k_is)
    (case kdv_ENDLESS_points => k_is)
    (case kdv_ENDLESS_letter => k_is)
    (case kdv_ENDLESS_maker => k_is)
    (case kdv_ENDLESS_copied => k_is)
    (case kn_ENDLESS_letters => k_is)
    (case kn_ENDLESS_number => k_is)
    (case kn_ENDLESS_blank => k_is)
    (case kn_ENDLESS_c => k_is)
    (case kn_ENDLESS_year => k_is)
    (case kn_ENDLESS_copy => k_is)
    (case q_STEPS => k_is)
    (case kdl_STEPS => k_is)
    (case kdk_STEPS => repeat (first | exact trivial | refine ⟨⟨_, _, rfl, rfl⟩, ?_⟩))
    (case kds_STEPS => decide +kernel)
    (case kdv_STEPS_letters => k_is)
    (case kdv_STEPS_number => k_is)
    (case kdv_STEPS_point => k_is)
    (case kdv_STEPS_points => k_is)
    (case kdv_STEPS_blank => k_is)
    (case kdv_STEPS_c => k_is)
    (case kdv_STEPS_letter => k_is)
    (case kdv_STEPS_maker => k_is)
    (case kdv_STEPS_year => k_is)
    (case kdv_STEPS_copy => k_is)
    (case kdv_STEPS_copied => k_is)
    (case q_MOST_WITHOUT_RUNS => k_is)
    (case q_NO_MORE => k_is)
    (case kl_NO_MORE => k_is)
    (case kx_NO_MORE => first | rfl | k_is)
    (case kt_NO_MORE => first | rfl | k_is)
    (case kv_NO_MORE => first | (repeat (first | exact .nil | refine .cons ?_ ?_ | rfl | exact ⟨_, rfl⟩)))
    (case kl_NO_MORE_0 => k_is)
    (case kx_NO_MORE_0 => first | rfl | k_is)
    (case kt_NO_MORE_0 => first | rfl | k_is)
    (case kv_NO_MORE_0 => first | (repeat (first | exact .nil | refine .cons ?_ ?_ | rfl | exact ⟨_, rfl⟩)))
