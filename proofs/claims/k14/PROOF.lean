import PyProof.Rows.All
import Wide.All
import OpenK.AllK
import Wide.FinOn
import HandS.ForMost
import HandS.More
import HandS.IsInst
import HandS.Defaults
import HandS.Wide
import HandS.Flow
import HandS.Walk
import HandS.Evl
import HandS.FStr
import HandS.Star
import HandS.StrMore
import HandS.TupAny
import HandS.MakeKw
import HandS.MakeKwOnly
import HandS.Style
import HandS.RaiseMore
import KE.LtData
import KE.IntTextLaws
import KE.IntTextText
import KE.KIntText
import KE.KUnpackStar
import HandS.IterVal
import KE.GoesMore
import KE.GoesZip
import KE.GoesEnum
import KE.SortKeyHeap
import KE.DataCmp
import HandS.Keys
import HandS.SortKw
import PySem.Challenge.RW_spinemarks_k14_lists_in_order
set_option Elab.async false
set_option linter.all false
set_option maxRecDepth 100000
set_option maxHeartbeats 4000000
set_option pp.maxSteps 400
set_option pp.deepTerms false


namespace My
open PySem PySem.Spec PyProof.Rows L2 Evl
def top (i : Nat) : Stmt := PySem.Challenge.pw_spinemarks_k14_lists_in_order.main.body.getD i (.Pass ⟨0, 0, 0, 0⟩)
abbrev s_in_order : Stmt := top 11
theorem sc_in_order : FnScope ["marks", "falling"] ["marks", "falling"] (defScope s_in_order) := ⟨rfl, rfl, rfl, by decide +kernel, rfl, by decide +kernel, by decide +kernel⟩
abbrev s_first_wrong : Stmt := top 12
theorem sc_first_wrong : FnScope ["marks", "at"] ["marks"] (defScope s_first_wrong) := ⟨rfl, rfl, rfl, by decide +kernel, rfl, by decide +kernel, by decide +kernel⟩
abbrev s_key : Stmt := top 13
theorem sc_key : FnScope ["mark"] ["mark"] (defScope s_key) := ⟨rfl, rfl, rfl, by decide +kernel, rfl, by decide +kernel, by decide +kernel⟩
abbrev s_is_number : Stmt := top 16
theorem sc_is_number : FnScope ["thing"] ["thing"] (defScope s_is_number) := ⟨rfl, rfl, rfl, by decide +kernel, rfl, by decide +kernel, by decide +kernel⟩
abbrev s_is_whole : Stmt := top 17
theorem sc_is_whole : FnScope ["thing", "low", "high"] ["thing", "low", "high"] (defScope s_is_whole) := ⟨rfl, rfl, rfl, by decide +kernel, rfl, by decide +kernel, by decide +kernel⟩
abbrev s_is_figures : Stmt := top 18
theorem sc_is_figures : FnScope ["text"] ["text"] (defScope s_is_figures) := ⟨rfl, rfl, rfl, by decide +kernel, rfl, by decide +kernel, by decide +kernel⟩
abbrev s_is_letters : Stmt := top 19
theorem sc_is_letters : FnScope ["thing", "most"] ["thing", "most"] (defScope s_is_letters) := ⟨rfl, rfl, rfl, by decide +kernel, rfl, by decide +kernel, by decide +kernel⟩
abbrev s_is_points : Stmt := top 20
theorem sc_is_points : FnScope ["thing"] ["thing"] (defScope s_is_points) := ⟨rfl, rfl, rfl, by decide +kernel, rfl, by decide +kernel, by decide +kernel⟩
abbrev s_is_maker : Stmt := top 21
theorem sc_is_maker : FnScope ["thing"] ["thing"] (defScope s_is_maker) := ⟨rfl, rfl, rfl, by decide +kernel, rfl, by decide +kernel, by decide +kernel⟩
abbrev s_is_ended : Stmt := top 22
theorem sc_is_ended : FnScope ["text"] ["text"] (defScope s_is_ended) := ⟨rfl, rfl, rfl, by decide +kernel, rfl, by decide +kernel, by decide +kernel⟩
abbrev s_Mark_init : Stmt := inClass (top 24) 0
theorem sc_Mark_init : FnScope ["self", "letters", "number", "points", "makers", "year", "copy", "kept"] ["self", "letters", "number", "points", "makers", "year", "copy"] (defScope s_Mark_init) := ⟨rfl, rfl, rfl, by decide +kernel, rfl, by decide +kernel, by decide +kernel⟩
abbrev s_Mark_eq : Stmt := inClass (top 24) 1
theorem sc_Mark_eq : FnScope ["self", "other"] ["self", "other"] (defScope s_Mark_eq) := ⟨rfl, rfl, rfl, by decide +kernel, rfl, by decide +kernel, by decide +kernel⟩
abbrev s_Mark_str : Stmt := inClass (top 24) 2
theorem sc_Mark_str : FnScope ["self"] ["self"] (defScope s_Mark_str) := ⟨rfl, rfl, rfl, by decide +kernel, rfl, by decide +kernel, by decide +kernel⟩
abbrev s_Mark_repr : Stmt := inClass (top 24) 3
theorem sc_Mark_repr : FnScope ["self"] ["self"] (defScope s_Mark_repr) := ⟨rfl, rfl, rfl, by decide +kernel, rfl, by decide +kernel, by decide +kernel⟩
abbrev s_Mark_len : Stmt := inClass (top 24) 4
theorem sc_Mark_len : FnScope ["self"] ["self"] (defScope s_Mark_len) := ⟨rfl, rfl, rfl, by decide +kernel, rfl, by decide +kernel, by decide +kernel⟩
abbrev s_Mark_letters : Stmt := inClass (top 24) 5
theorem sc_Mark_letters : FnScope ["self"] ["self"] (defScope s_Mark_letters) := ⟨rfl, rfl, rfl, by decide +kernel, rfl, by decide +kernel, by decide +kernel⟩
abbrev s_Mark_number : Stmt := inClass (top 24) 6
theorem sc_Mark_number : FnScope ["self"] ["self"] (defScope s_Mark_number) := ⟨rfl, rfl, rfl, by decide +kernel, rfl, by decide +kernel, by decide +kernel⟩
abbrev s_Mark_points : Stmt := inClass (top 24) 7
theorem sc_Mark_points : FnScope ["self"] ["self"] (defScope s_Mark_points) := ⟨rfl, rfl, rfl, by decide +kernel, rfl, by decide +kernel, by decide +kernel⟩
abbrev s_Mark_makers : Stmt := inClass (top 24) 8
theorem sc_Mark_makers : FnScope ["self"] ["self"] (defScope s_Mark_makers) := ⟨rfl, rfl, rfl, by decide +kernel, rfl, by decide +kernel, by decide +kernel⟩
abbrev s_Mark_year : Stmt := inClass (top 24) 9
theorem sc_Mark_year : FnScope ["self"] ["self"] (defScope s_Mark_year) := ⟨rfl, rfl, rfl, by decide +kernel, rfl, by decide +kernel, by decide +kernel⟩
abbrev s_Mark_copy_number : Stmt := inClass (top 24) 10
theorem sc_Mark_copy_number : FnScope ["self"] ["self"] (defScope s_Mark_copy_number) := ⟨rfl, rfl, rfl, by decide +kernel, rfl, by decide +kernel, by decide +kernel⟩
abbrev s_Mark_parts : Stmt := inClass (top 24) 11
theorem sc_Mark_parts : FnScope ["self"] ["self"] (defScope s_Mark_parts) := ⟨rfl, rfl, rfl, by decide +kernel, rfl, by decide +kernel, by decide +kernel⟩
abbrev s_Mark_key : Stmt := inClass (top 24) 12
theorem sc_Mark_key : FnScope ["self", "letters", "number", "points", "makers", "year", "copy"] ["self"] (defScope s_Mark_key) := ⟨rfl, rfl, rfl, by decide +kernel, rfl, by decide +kernel, by decide +kernel⟩
abbrev s_Mark_ahead : Stmt := inClass (top 24) 13
theorem sc_Mark_ahead : FnScope ["self", "other"] ["self", "other"] (defScope s_Mark_ahead) := ⟨rfl, rfl, rfl, by decide +kernel, rfl, by decide +kernel, by decide +kernel⟩
abbrev s_Mark_head : Stmt := inClass (top 24) 14
theorem sc_Mark_head : FnScope ["self", "letters", "number", "points", "_"] ["self"] (defScope s_Mark_head) := ⟨rfl, rfl, rfl, by decide +kernel, rfl, by decide +kernel, by decide +kernel⟩
abbrev s_Mark_book : Stmt := inClass (top 24) 15
theorem sc_Mark_book : FnScope ["self"] ["self"] (defScope s_Mark_book) := ⟨rfl, rfl, rfl, by decide +kernel, rfl, by decide +kernel, by decide +kernel⟩
abbrev s_Mark_with_year : Stmt := inClass (top 24) 16
theorem sc_Mark_with_year : FnScope ["self", "year"] ["self", "year"] (defScope s_Mark_with_year) := ⟨rfl, rfl, rfl, by decide +kernel, rfl, by decide +kernel, by decide +kernel⟩
abbrev s_Mark_with_copy : Stmt := inClass (top 24) 17
theorem sc_Mark_with_copy : FnScope ["self", "copy"] ["self", "copy"] (defScope s_Mark_with_copy) := ⟨rfl, rfl, rfl, by decide +kernel, rfl, by decide +kernel, by decide +kernel⟩
abbrev s_Mark_same_book : Stmt := inClass (top 24) 18
theorem sc_Mark_same_book : FnScope ["self", "other"] ["self", "other"] (defScope s_Mark_same_book) := ⟨rfl, rfl, rfl, by decide +kernel, rfl, by decide +kernel, by decide +kernel⟩
abbrev s_kept_makers : Stmt := top 25
theorem sc_kept_makers : FnScope ["makers", "maker"] ["makers"] (defScope s_kept_makers) := ⟨rfl, rfl, rfl, by decide +kernel, rfl, by decide +kernel, by decide +kernel⟩
abbrev s_text_of : Stmt := top 26
theorem sc_text_of : FnScope ["parts", "letters", "number", "points", "makers", "year", "copy", "head", "words"] ["parts"] (defScope s_text_of) := ⟨rfl, rfl, rfl, by decide +kernel, rfl, by decide +kernel, by decide +kernel⟩
abbrev s_l_cell_at : Stmt := top 28
theorem sc_l_cell_at : FnScope ["_law_script", "_law_k"] ["_law_script", "_law_k"] (defScope s_l_cell_at) := ⟨rfl, rfl, rfl, by decide +kernel, rfl, by decide +kernel, by decide +kernel⟩
abbrev s_l_pool : Stmt := top 29
theorem sc_l_pool : FnScope ["_law_cell", "_law_number", "_law_k", "_law_mix"] ["_law_cell"] (defScope s_l_pool) := ⟨rfl, rfl, rfl, by decide +kernel, rfl, by decide +kernel, by decide +kernel⟩
abbrev s_l_take : Stmt := top 30
theorem sc_l_take : FnScope ["_law_pool_here", "_law_size", "_law_found"] ["_law_pool_here", "_law_size"] (defScope s_l_take) := ⟨rfl, rfl, rfl, by decide +kernel, rfl, by decide +kernel, by decide +kernel⟩
abbrev s_l_figures : Stmt := top 31
theorem sc_l_figures : FnScope ["_law_pool_here", "_law_most", "_law_signs", "_law_k"] ["_law_pool_here", "_law_most"] (defScope s_l_figures) := ⟨rfl, rfl, rfl, by decide +kernel, rfl, by decide +kernel, by decide +kernel⟩
abbrev s_l_maker : Stmt := top 32
theorem sc_l_maker : FnScope ["_law_pool_here", "_law_most", "_law_letter"] ["_law_pool_here", "_law_most"] (defScope s_l_maker) := ⟨rfl, rfl, rfl, by decide +kernel, rfl, by decide +kernel, by decide +kernel⟩
abbrev s_l_parts : Stmt := top 33
theorem sc_l_parts : FnScope ["_law_pool_here", "_law_most", "_law_letters", "_law_k", "_law_number", "_law_tens", "_law_hands", "_law_age", "_law_twin"] ["_law_pool_here"] (defScope s_l_parts) := ⟨rfl, rfl, rfl, by decide +kernel, rfl, by decide +kernel, by decide +kernel⟩
abbrev s_l_near_word : Stmt := top 34
theorem sc_l_near_word : FnScope ["_law_word", "_law_pool_here", "_law_more", "_law_kept"] ["_law_word", "_law_pool_here"] (defScope s_l_near_word) := ⟨rfl, rfl, rfl, by decide +kernel, rfl, by decide +kernel, by decide +kernel⟩
abbrev s_l_near_makers : Stmt := top 35
theorem sc_l_near_makers : FnScope ["_law_hands", "_law_pool_here", "_law_way", "_law_kept", "_law_maker_here"] ["_law_hands", "_law_pool_here"] (defScope s_l_near_makers) := ⟨rfl, rfl, rfl, by decide +kernel, rfl, by decide +kernel, by decide +kernel⟩
abbrev s_l_near_year : Stmt := top 36
theorem sc_l_near_year : FnScope ["_law_age", "_law_pool_here", "_law_way"] ["_law_age", "_law_pool_here"] (defScope s_l_near_year) := ⟨rfl, rfl, rfl, by decide +kernel, rfl, by decide +kernel, by decide +kernel⟩
abbrev s_l_near_copy : Stmt := top 37
theorem sc_l_near_copy : FnScope ["_law_twin", "_law_pool_here", "_law_digits"] ["_law_twin", "_law_pool_here"] (defScope s_l_near_copy) := ⟨rfl, rfl, rfl, by decide +kernel, rfl, by decide +kernel, by decide +kernel⟩
abbrev s_l_near : Stmt := top 38
theorem sc_l_near : FnScope ["_law_parts_here", "_law_at", "_law_pool_here", "_law_tail", "_law_row"] ["_law_parts_here", "_law_at", "_law_pool_here"] (defScope s_l_near) := ⟨rfl, rfl, rfl, by decide +kernel, rfl, by decide +kernel, by decide +kernel⟩
abbrev s_l_mark : Stmt := top 39
theorem sc_l_mark : FnScope ["_law_parts_here"] ["_law_parts_here"] (defScope s_l_mark) := ⟨rfl, rfl, rfl, by decide +kernel, rfl, by decide +kernel, by decide +kernel⟩
abbrev s_l_key : Stmt := top 40
theorem sc_l_key : FnScope ["_law_parts_here", "_law_age", "_law_twin"] ["_law_parts_here"] (defScope s_l_key) := ⟨rfl, rfl, rfl, by decide +kernel, rfl, by decide +kernel, by decide +kernel⟩
abbrev s_l_whole : Stmt := top 42
theorem sc_l_whole : FnScope ["_law_found"] ["_law_found"] (defScope s_l_whole) := ⟨rfl, rfl, rfl, by decide +kernel, rfl, by decide +kernel, by decide +kernel⟩
abbrev s_l_cells : Stmt := top 43
theorem sc_l_cells : FnScope ["_law_script", "_law_count", "_law_cells_here", "_law_k", "_law_cell"] ["_law_script", "_law_count"] (defScope s_l_cells) := ⟨rfl, rfl, rfl, by decide +kernel, rfl, by decide +kernel, by decide +kernel⟩
abbrev s_l_rows : Stmt := top 44
theorem sc_l_rows : FnScope ["_law_script", "_law_count", "_law_rows_here", "_law_cell", "_law_pool_here", "_law_way", "_law_which", "_law_at", "_law_parts_here"] ["_law_script", "_law_count"] (defScope s_l_rows) := ⟨rfl, rfl, rfl, by decide +kernel, rfl, by decide +kernel, by decide +kernel⟩
abbrev s_l_once : Stmt := top 45
theorem sc_l_once : FnScope ["_law_rows_here", "_law_row", "_law_parts_here"] ["_law_rows_here"] (defScope s_l_once) := ⟨rfl, rfl, rfl, by decide +kernel, rfl, by decide +kernel, by decide +kernel⟩
abbrev s_l_same : Stmt := top 46
theorem sc_l_same : FnScope ["_law_told", "_law_due", "_law_spine", "_law_parts_here"] ["_law_told", "_law_due"] (defScope s_l_same) := ⟨rfl, rfl, rfl, by decide +kernel, rfl, by decide +kernel, by decide +kernel⟩
abbrev s_l_wrong : Stmt := top 47
theorem sc_l_wrong : FnScope ["_law_rows_here", "_law_due", "_law_k", "_law_told", "_law_parts_here"] ["_law_rows_here"] (defScope s_l_wrong) := ⟨rfl, rfl, rfl, by decide +kernel, rfl, by decide +kernel, by decide +kernel⟩
abbrev s_law : Stmt := top 48
theorem sc_law : FnScope ["_law_script", "_law_count", "_law_rows_here", "_law_upward", "_law_spines", "_law_parts_here", "_law_handed", "_law_told", "_law_once_here", "_law_place", "_law_twice", "_law_early", "_law_row"] ["_law_script"] (defScope s_law) := ⟨rfl, rfl, rfl, by decide +kernel, rfl, by decide +kernel, by decide +kernel⟩
/-- where the defs and classes stand -/
structure Adr where
  (a_in_order a_first_wrong a_key a_is_number a_is_whole a_is_figures a_is_letters a_is_points a_is_maker a_is_ended a_Mark_init a_Mark_eq a_Mark_str a_Mark_repr a_Mark_len a_Mark_letters a_Mark_number a_Mark_points a_Mark_makers a_Mark_year a_Mark_copy_number a_Mark_parts a_Mark_key a_Mark_ahead a_Mark_head a_Mark_book a_Mark_with_year a_Mark_with_copy a_Mark_same_book a_kept_makers a_text_of a_l_cell_at a_l_pool a_l_take a_l_figures a_l_maker a_l_parts a_l_near_word a_l_near_makers a_l_near_year a_l_near_copy a_l_near a_l_mark a_l_key a_l_whole a_l_cells a_l_rows a_l_once a_l_same a_l_wrong a_law : Addr)
  (d_in_order d_first_wrong d_key d_is_number d_is_whole d_is_figures d_is_letters d_is_points d_is_maker d_is_ended d_Mark_init d_Mark_eq d_Mark_str d_Mark_repr d_Mark_len d_Mark_letters d_Mark_number d_Mark_points d_Mark_makers d_Mark_year d_Mark_copy_number d_Mark_parts d_Mark_key d_Mark_ahead d_Mark_head d_Mark_book d_Mark_with_year d_Mark_with_copy d_Mark_same_book d_kept_makers d_text_of d_l_cell_at d_l_pool d_l_take d_l_figures d_l_maker d_l_parts d_l_near_word d_l_near_makers d_l_near_year d_l_near_copy d_l_near d_l_mark d_l_key d_l_whole d_l_cells d_l_rows d_l_once d_l_same d_l_wrong d_law : FuncData)
  (C_Mark : Addr)
/-- what the top has written -/
structure Txt (K : PySem.W.Frag) (mg : Str → Option Value) (Z : Adr) : Prop where
  F_in_order : FunD K "in_order" "in_order" (defArgs s_in_order) (defBody s_in_order) (defScope s_in_order) [.bl false] [] Z.a_in_order Z.d_in_order
  g_in_order : mg "in_order" = some (.ref Z.a_in_order)
  b_in_order : Binds K Z.d_in_order ["marks", "falling"] []
  b_in_order_k1_falling : ∃ its : List Value, KBn K Z.d_in_order ["marks", "falling"] 1 ["falling"] (fun us ws => us ++ (ws.drop 0).take 1) (fun vs zs => vs ++ (zs.drop 0).take 1)
  b_in_order_1 : ∃ ds, Vals [.bl false] ds ∧ Binds K Z.d_in_order ["marks", "falling"] ds
  F_first_wrong : Fun K "first_wrong" "first_wrong" s_first_wrong Z.a_first_wrong Z.d_first_wrong
  g_first_wrong : mg "first_wrong" = some (.ref Z.a_first_wrong)
  b_first_wrong : Binds K Z.d_first_wrong ["marks"] []
  F_key : Fun K "_key" "_key" s_key Z.a_key Z.d_key
  g_key : mg "_key" = some (.ref Z.a_key)
  b_key : Binds K Z.d_key ["mark"] []
  F_is_number : Fun K "is_number" "is_number" s_is_number Z.a_is_number Z.d_is_number
  g_is_number : mg "is_number" = some (.ref Z.a_is_number)
  b_is_number : Binds K Z.d_is_number ["thing"] []
  F_is_whole : FunD K "is_whole" "is_whole" (defArgs s_is_whole) (defBody s_is_whole) (defScope s_is_whole) [.non] [] Z.a_is_whole Z.d_is_whole
  g_is_whole : mg "is_whole" = some (.ref Z.a_is_whole)
  b_is_whole : Binds K Z.d_is_whole ["thing", "low", "high"] []
  b_is_whole_2 : ∃ ds, Vals [.non] ds ∧ Binds K Z.d_is_whole ["thing", "low", "high"] ds
  F_is_figures : Fun K "is_figures" "is_figures" s_is_figures Z.a_is_figures Z.d_is_figures
  g_is_figures : mg "is_figures" = some (.ref Z.a_is_figures)
  b_is_figures : Binds K Z.d_is_figures ["text"] []
  F_is_letters : Fun K "is_letters" "is_letters" s_is_letters Z.a_is_letters Z.d_is_letters
  g_is_letters : mg "is_letters" = some (.ref Z.a_is_letters)
  b_is_letters : Binds K Z.d_is_letters ["thing", "most"] []
  F_is_points : Fun K "is_points" "is_points" s_is_points Z.a_is_points Z.d_is_points
  g_is_points : mg "is_points" = some (.ref Z.a_is_points)
  b_is_points : Binds K Z.d_is_points ["thing"] []
  F_is_maker : Fun K "is_maker" "is_maker" s_is_maker Z.a_is_maker Z.d_is_maker
  g_is_maker : mg "is_maker" = some (.ref Z.a_is_maker)
  b_is_maker : Binds K Z.d_is_maker ["thing"] []
  F_is_ended : Fun K "_is_ended" "_is_ended" s_is_ended Z.a_is_ended Z.d_is_ended
  g_is_ended : mg "_is_ended" = some (.ref Z.a_is_ended)
  b_is_ended : Binds K Z.d_is_ended ["text"] []
  F_Mark_init : FunD K "__init__" "Mark.__init__" (defArgs s_Mark_init) (defBody s_Mark_init) (defScope s_Mark_init) [.str Str.empty, .non, .non, .non] [] Z.a_Mark_init Z.d_Mark_init
  b_Mark_init : Binds K Z.d_Mark_init ["self", "letters", "number", "points", "makers", "year", "copy"] []
  b_Mark_init_k3_points_makers_year_copy : ∃ its : List Value, KBn K Z.d_Mark_init ["self", "letters", "number", "points", "makers", "year", "copy"] 3 ["points", "makers", "year", "copy"] (fun us ws => us ++ (ws.drop 0).take 1 ++ (ws.drop 1).take 1 ++ (ws.drop 2).take 1 ++ (ws.drop 3).take 1) (fun vs zs => vs ++ (zs.drop 0).take 1 ++ (zs.drop 1).take 1 ++ (zs.drop 2).take 1 ++ (zs.drop 3).take 1)
  b_Mark_init_4 : ∃ ds, Vals [.non, .non, .non] ds ∧ Binds K Z.d_Mark_init ["self", "letters", "number", "points", "makers", "year", "copy"] ds
  F_Mark_eq : Fun K "__eq__" "Mark.__eq__" s_Mark_eq Z.a_Mark_eq Z.d_Mark_eq
  m_Mark_eq : Meth K Z.C_Mark "__eq__" Z.a_Mark_eq
  b_Mark_eq : Binds K Z.d_Mark_eq ["self", "other"] []
  F_Mark_str : Fun K "__str__" "Mark.__str__" s_Mark_str Z.a_Mark_str Z.d_Mark_str
  m_Mark_str : Meth K Z.C_Mark "__str__" Z.a_Mark_str
  b_Mark_str : Binds K Z.d_Mark_str ["self"] []
  F_Mark_repr : Fun K "__repr__" "Mark.__repr__" s_Mark_repr Z.a_Mark_repr Z.d_Mark_repr
  m_Mark_repr : Meth K Z.C_Mark "__repr__" Z.a_Mark_repr
  b_Mark_repr : Binds K Z.d_Mark_repr ["self"] []
  F_Mark_len : Fun K "__len__" "Mark.__len__" s_Mark_len Z.a_Mark_len Z.d_Mark_len
  m_Mark_len : Meth K Z.C_Mark "__len__" Z.a_Mark_len
  b_Mark_len : Binds K Z.d_Mark_len ["self"] []
  F_Mark_letters : Fun K "letters" "Mark.letters" s_Mark_letters Z.a_Mark_letters Z.d_Mark_letters
  m_Mark_letters : Meth K Z.C_Mark "letters" Z.a_Mark_letters
  b_Mark_letters : Binds K Z.d_Mark_letters ["self"] []
  F_Mark_number : Fun K "number" "Mark.number" s_Mark_number Z.a_Mark_number Z.d_Mark_number
  m_Mark_number : Meth K Z.C_Mark "number" Z.a_Mark_number
  b_Mark_number : Binds K Z.d_Mark_number ["self"] []
  F_Mark_points : Fun K "points" "Mark.points" s_Mark_points Z.a_Mark_points Z.d_Mark_points
  m_Mark_points : Meth K Z.C_Mark "points" Z.a_Mark_points
  b_Mark_points : Binds K Z.d_Mark_points ["self"] []
  F_Mark_makers : Fun K "makers" "Mark.makers" s_Mark_makers Z.a_Mark_makers Z.d_Mark_makers
  m_Mark_makers : Meth K Z.C_Mark "makers" Z.a_Mark_makers
  b_Mark_makers : Binds K Z.d_Mark_makers ["self"] []
  F_Mark_year : Fun K "year" "Mark.year" s_Mark_year Z.a_Mark_year Z.d_Mark_year
  m_Mark_year : Meth K Z.C_Mark "year" Z.a_Mark_year
  b_Mark_year : Binds K Z.d_Mark_year ["self"] []
  F_Mark_copy_number : Fun K "copy_number" "Mark.copy_number" s_Mark_copy_number Z.a_Mark_copy_number Z.d_Mark_copy_number
  m_Mark_copy_number : Meth K Z.C_Mark "copy_number" Z.a_Mark_copy_number
  b_Mark_copy_number : Binds K Z.d_Mark_copy_number ["self"] []
  F_Mark_parts : Fun K "parts" "Mark.parts" s_Mark_parts Z.a_Mark_parts Z.d_Mark_parts
  m_Mark_parts : Meth K Z.C_Mark "parts" Z.a_Mark_parts
  b_Mark_parts : Binds K Z.d_Mark_parts ["self"] []
  F_Mark_key : Fun K "key" "Mark.key" s_Mark_key Z.a_Mark_key Z.d_Mark_key
  m_Mark_key : Meth K Z.C_Mark "key" Z.a_Mark_key
  b_Mark_key : Binds K Z.d_Mark_key ["self"] []
  F_Mark_ahead : Fun K "ahead" "Mark.ahead" s_Mark_ahead Z.a_Mark_ahead Z.d_Mark_ahead
  m_Mark_ahead : Meth K Z.C_Mark "ahead" Z.a_Mark_ahead
  b_Mark_ahead : Binds K Z.d_Mark_ahead ["self", "other"] []
  F_Mark_head : Fun K "head" "Mark.head" s_Mark_head Z.a_Mark_head Z.d_Mark_head
  m_Mark_head : Meth K Z.C_Mark "head" Z.a_Mark_head
  b_Mark_head : Binds K Z.d_Mark_head ["self"] []
  F_Mark_book : Fun K "book" "Mark.book" s_Mark_book Z.a_Mark_book Z.d_Mark_book
  m_Mark_book : Meth K Z.C_Mark "book" Z.a_Mark_book
  b_Mark_book : Binds K Z.d_Mark_book ["self"] []
  F_Mark_with_year : FunD K "with_year" "Mark.with_year" (defArgs s_Mark_with_year) (defBody s_Mark_with_year) (defScope s_Mark_with_year) [.non] [] Z.a_Mark_with_year Z.d_Mark_with_year
  m_Mark_with_year : Meth K Z.C_Mark "with_year" Z.a_Mark_with_year
  b_Mark_with_year : Binds K Z.d_Mark_with_year ["self", "year"] []
  F_Mark_with_copy : FunD K "with_copy" "Mark.with_copy" (defArgs s_Mark_with_copy) (defBody s_Mark_with_copy) (defScope s_Mark_with_copy) [.non] [] Z.a_Mark_with_copy Z.d_Mark_with_copy
  m_Mark_with_copy : Meth K Z.C_Mark "with_copy" Z.a_Mark_with_copy
  b_Mark_with_copy : Binds K Z.d_Mark_with_copy ["self", "copy"] []
  F_Mark_same_book : Fun K "same_book" "Mark.same_book" s_Mark_same_book Z.a_Mark_same_book Z.d_Mark_same_book
  m_Mark_same_book : Meth K Z.C_Mark "same_book" Z.a_Mark_same_book
  b_Mark_same_book : Binds K Z.d_Mark_same_book ["self", "other"] []
  F_kept_makers : Fun K "_kept_makers" "_kept_makers" s_kept_makers Z.a_kept_makers Z.d_kept_makers
  g_kept_makers : mg "_kept_makers" = some (.ref Z.a_kept_makers)
  b_kept_makers : Binds K Z.d_kept_makers ["makers"] []
  F_text_of : Fun K "_text_of" "_text_of" s_text_of Z.a_text_of Z.d_text_of
  g_text_of : mg "_text_of" = some (.ref Z.a_text_of)
  b_text_of : Binds K Z.d_text_of ["parts"] []
  F_l_cell_at : Fun K "_law_cell_at" "_law_cell_at" s_l_cell_at Z.a_l_cell_at Z.d_l_cell_at
  g_l_cell_at : mg "_law_cell_at" = some (.ref Z.a_l_cell_at)
  b_l_cell_at : Binds K Z.d_l_cell_at ["_law_script", "_law_k"] []
  F_l_pool : Fun K "_law_pool" "_law_pool" s_l_pool Z.a_l_pool Z.d_l_pool
  g_l_pool : mg "_law_pool" = some (.ref Z.a_l_pool)
  b_l_pool : Binds K Z.d_l_pool ["_law_cell"] []
  F_l_take : Fun K "_law_take" "_law_take" s_l_take Z.a_l_take Z.d_l_take
  g_l_take : mg "_law_take" = some (.ref Z.a_l_take)
  b_l_take : Binds K Z.d_l_take ["_law_pool_here", "_law_size"] []
  F_l_figures : Fun K "_law_figures" "_law_figures" s_l_figures Z.a_l_figures Z.d_l_figures
  g_l_figures : mg "_law_figures" = some (.ref Z.a_l_figures)
  b_l_figures : Binds K Z.d_l_figures ["_law_pool_here", "_law_most"] []
  F_l_maker : Fun K "_law_maker" "_law_maker" s_l_maker Z.a_l_maker Z.d_l_maker
  g_l_maker : mg "_law_maker" = some (.ref Z.a_l_maker)
  b_l_maker : Binds K Z.d_l_maker ["_law_pool_here", "_law_most"] []
  F_l_parts : Fun K "_law_parts" "_law_parts" s_l_parts Z.a_l_parts Z.d_l_parts
  g_l_parts : mg "_law_parts" = some (.ref Z.a_l_parts)
  b_l_parts : Binds K Z.d_l_parts ["_law_pool_here"] []
  F_l_near_word : Fun K "_law_near_word" "_law_near_word" s_l_near_word Z.a_l_near_word Z.d_l_near_word
  g_l_near_word : mg "_law_near_word" = some (.ref Z.a_l_near_word)
  b_l_near_word : Binds K Z.d_l_near_word ["_law_word", "_law_pool_here"] []
  F_l_near_makers : Fun K "_law_near_makers" "_law_near_makers" s_l_near_makers Z.a_l_near_makers Z.d_l_near_makers
  g_l_near_makers : mg "_law_near_makers" = some (.ref Z.a_l_near_makers)
  b_l_near_makers : Binds K Z.d_l_near_makers ["_law_hands", "_law_pool_here"] []
  F_l_near_year : Fun K "_law_near_year" "_law_near_year" s_l_near_year Z.a_l_near_year Z.d_l_near_year
  g_l_near_year : mg "_law_near_year" = some (.ref Z.a_l_near_year)
  b_l_near_year : Binds K Z.d_l_near_year ["_law_age", "_law_pool_here"] []
  F_l_near_copy : Fun K "_law_near_copy" "_law_near_copy" s_l_near_copy Z.a_l_near_copy Z.d_l_near_copy
  g_l_near_copy : mg "_law_near_copy" = some (.ref Z.a_l_near_copy)
  b_l_near_copy : Binds K Z.d_l_near_copy ["_law_twin", "_law_pool_here"] []
  F_l_near : Fun K "_law_near" "_law_near" s_l_near Z.a_l_near Z.d_l_near
  g_l_near : mg "_law_near" = some (.ref Z.a_l_near)
  b_l_near : Binds K Z.d_l_near ["_law_parts_here", "_law_at", "_law_pool_here"] []
  F_l_mark : Fun K "_law_mark" "_law_mark" s_l_mark Z.a_l_mark Z.d_l_mark
  g_l_mark : mg "_law_mark" = some (.ref Z.a_l_mark)
  b_l_mark : Binds K Z.d_l_mark ["_law_parts_here"] []
  F_l_key : Fun K "_law_key" "_law_key" s_l_key Z.a_l_key Z.d_l_key
  g_l_key : mg "_law_key" = some (.ref Z.a_l_key)
  b_l_key : Binds K Z.d_l_key ["_law_parts_here"] []
  F_l_whole : Fun K "_law_whole" "_law_whole" s_l_whole Z.a_l_whole Z.d_l_whole
  g_l_whole : mg "_law_whole" = some (.ref Z.a_l_whole)
  b_l_whole : Binds K Z.d_l_whole ["_law_found"] []
  F_l_cells : Fun K "_law_cells" "_law_cells" s_l_cells Z.a_l_cells Z.d_l_cells
  g_l_cells : mg "_law_cells" = some (.ref Z.a_l_cells)
  b_l_cells : Binds K Z.d_l_cells ["_law_script", "_law_count"] []
  F_l_rows : Fun K "_law_rows" "_law_rows" s_l_rows Z.a_l_rows Z.d_l_rows
  g_l_rows : mg "_law_rows" = some (.ref Z.a_l_rows)
  b_l_rows : Binds K Z.d_l_rows ["_law_script", "_law_count"] []
  F_l_once : Fun K "_law_once" "_law_once" s_l_once Z.a_l_once Z.d_l_once
  g_l_once : mg "_law_once" = some (.ref Z.a_l_once)
  b_l_once : Binds K Z.d_l_once ["_law_rows_here"] []
  F_l_same : Fun K "_law_same" "_law_same" s_l_same Z.a_l_same Z.d_l_same
  g_l_same : mg "_law_same" = some (.ref Z.a_l_same)
  b_l_same : Binds K Z.d_l_same ["_law_told", "_law_due"] []
  F_l_wrong : Fun K "_law_wrong" "_law_wrong" s_l_wrong Z.a_l_wrong Z.d_l_wrong
  g_l_wrong : mg "_law_wrong" = some (.ref Z.a_l_wrong)
  b_l_wrong : Binds K Z.d_l_wrong ["_law_rows_here"] []
  F_law : Fun K "law" "law" s_law Z.a_law Z.d_law
  g_law : mg "law" = some (.ref Z.a_law)
  b_law : Binds K Z.d_law ["_law_script"] []
  g_Mark : mg "Mark" = some (.ref Z.C_Mark)
  cl_Mark : Cls K Z.C_Mark
  M_Mark : Mk K Z.C_Mark Z.a_Mark_init
  t1_Mark : PySem.W.findIn K (.ref Z.C_Mark) "__class__" = some (some (.builtin "object.__class__"))
  t4_Mark : PySem.W.mroIn K Z.C_Mark (.type "object") = some true
  t2_Mark : PySem.W.specialIn K (.builtin "object.__class__") "__get__" = some (some (.builtin "getset_descriptor.__get__"))
  t3_Mark : PySem.W.takesIn K (.builtin "object.__class__") = some true
  ne_Mark : PySem.W.findIn K (.ref Z.C_Mark) "__ne__" = some (some (.builtin "object.__ne__"))
  ki_Mark : ((PySem.W.clsIn K Z.C_Mark).isSome && PySem.W.typeIn K (.ref Z.C_Mark) == some (.type "type")) = true
  na_Mark_parts : NoAttr K Z.C_Mark "_parts"
  na_Mark_text : NoAttr K Z.C_Mark "_text"
  n_len : mg "len" = none
  n_isinstance : mg "isinstance" = none
  n_range : mg "range" = none
  n_max : mg "max" = none
  n_int : mg "int" = none
  n_bool : mg "bool" = none
  n_str : mg "str" = none
  n_list : mg "list" = none
  n_tuple : mg "tuple" = none
  n_zip : mg "zip" = none
  n_sorted : mg "sorted" = none
  c_SMALL : ∃ t, mg "SMALL" = some (.str "abcdefghijklmnopqrstuvwxyz" t)
theorem vals_dt : ∀ {vs : List V} {us : List Value} (n : Nat), Vals vs us → Vals ((vs.drop n).take 1) ((us.drop n).take 1)
  | _, _, n, .nil => by cases n <;> exact .nil
  | _, _, 0, .cons h r => .cons h .nil
  | _, _, n + 1, .cons h r => vals_dt n r
/-- what makes a list that may change -/
def tMut (t : TE) : TE := t
theorem peM {X : Cx} {e : Expr} {te : TE} (h : PE X e te) : PE X e (tMut te) := h
/-! rules by name -/
def qAddS : R2 := fun x y H Q => ∃ i j, x = .str i ∧ y = .str j ∧ i.length + j.length ≤ sizeLine ∧ Q (.str (i ++ j)) H
theorem op_addS {X : Cx} : OpR X (binaryOp .Add) qAddS := op_add_str
def qLenS : List V → Hp → VK → Prop := fun xs H Q => ∃ z, xs = [.str z] ∧ z.length ≤ sizeLine ∧ Q (.int z.length) H
theorem call_lenS {X : Cx} : CallR X (.builtin "len") qLenS := call_len_str
def qStrI : List V → Hp → VK → Prop := fun xs H Q => ∃ i : Int, xs = [.int i] ∧ i.natAbs.log2 < 1920 ∧ Q (.str (toString i)) H
theorem call_strI {X : Cx} : CallR X (.type "str") qStrI := call_str_int
def qStrS : List V → Hp → VK → Prop := fun xs H Q => ∃ a, xs = [.str a] ∧ Q (.str a) H
theorem call_strS {X : Cx} : CallR X (.type "str") qStrS := SkE.call_str_str
def qInt1 : List V → Hp → VK → Prop := fun xs H Q => (∃ i, xs = [.int i] ∧ Q (.int i) H) ∨ ∃ k, xs = [.bl k] ∧ Q (.int (if k then 1 else 0)) H
theorem call_intq {X : Cx} : CallR X (.type "int") qInt1 := call_int1
def qIntS : List V → Hp → VK → Prop := fun xs H Q => ∃ a n, xs = [.str a] ∧ PySem.intText? a = some n ∧ a.length ≤ 640 ∧ Q (.int n) H
theorem call_intS {X : Cx} : CallR X (.type "int") qIntS := call_int_str
def qMax2 : List V → Hp → VK → Prop := fun xs H Q => ∃ i j, xs = [.int i, .int j] ∧ Q (.int (if j > i then j else i)) H
theorem call_maxq {X : Cx} (hc : X.calm = true) : CallR X (.builtin "max") qMax2 := call_max2 hc
def qMin2 : List V → Hp → VK → Prop := fun xs H Q => ∃ i j, xs = [.int i, .int j] ∧ Q (.int (if j < i then j else i)) H
theorem call_minq {X : Cx} (hc : X.calm = true) : CallR X (.builtin "min") qMin2 := call_min2 hc
def qLtS : R2 := fun x y H Q => ∃ i j, x = .str i ∧ y = .str j ∧ Q (.bl (decide (i.cps.toList < j.cps.toList))) H
theorem op_ltS {X : Cx} : OpR X (compareOp .Lt) qLtS := op_lt_str
def qInS : R2 := fun x y H Q => ∃ (c : Nat) (z : Str), x = .str ⟨#[c]⟩ ∧ y = .str z ∧ Q (.bl (decide (c ∈ z.cps.toList))) H
theorem op_inq {X : Cx} : OpR X (compareOp .In) qInS := op_in_sign
def qNotInS : R2 := fun x y H Q => ∃ (c : Nat) (z : Str), x = .str ⟨#[c]⟩ ∧ y = .str z ∧ Q (.bl (!decide (c ∈ z.cps.toList))) H
theorem op_notInq {X : Cx} : OpR X (compareOp .NotIn) qNotInS := op_notIn_sign
def qIsN : R2 := fun x y H Q => y = .non ∧ Q (.bl (decide (x = .non))) H
theorem op_isNq {X : Cx} : OpR X (compareOp .Is) qIsN := op_isN
def qNotN : R2 := fun x y H Q => y = .non ∧ Q (.bl (!decide (x = .non))) H
theorem op_notNq {X : Cx} : OpR X (compareOp .IsNot) qNotN := op_notN
def tJoinS (ts : List TE) : TE := fun σ H Q => tJs ts Str.empty σ H fun out H1 => Q (.str out) H1
theorem pe_joinedq {X : Cx} {v1 v2 : Expr} {rest : List Expr} {ts : List TE} {pos : Pos} (h : PJ X (v1 :: v2 :: rest) ts) : PE X (.JoinedStr (v1 :: v2 :: rest) pos) (tJoinS ts) := pe_joined h
def tTru (K : PySem.W.Frag) (ta : TE) : TT := fun σ H Q => ta σ H fun x H' => ∃ k, TruV K x H' k ∧ Q k H'
theorem pt_truthq {X : Cx} {a : Expr} {ta : TE} (ha : PE X a ta) (he : ∀ whole, isTrue a X.env whole = (do let v ← whole; standAt a.pos; holding [v] (truthy v))) : PT X a (tTru X.K ta) := pt_truth ha he
/-! rules with the written part told by name (for what stands within a comprehension) -/
section
variable (K : PySem.W.Frag) {X : Cx}
theorem ixL (hK : X.K = K := by rfl) : IxR X (rIxL K) := by subst hK; exact ix_list
theorem ixT (hK : X.K = K := by rfl) : IxR X (rIxT K) := by subst hK; exact ix_tup
theorem slL (hK : X.K = K := by rfl) : SlR X (rSlL K) := by subst hK; exact sl_list
theorem lenQ (hK : X.K = K := by rfl) : CallR X (.builtin "len") (rLenS K) := by subst hK; exact call_len_seq
theorem sumK (hc : X.calm = true) (hK : X.K = K := by rfl) : CallR X (.builtin "sum") (rSum K) := by subst hK; exact cr_sum hc
theorem isiK (hK : X.K = K := by rfl) : CallR X (.builtin "isinstance") (rIsi K) := by subst hK; exact call_isi
theorem isiTK (hK : X.K = K := by rfl) : CallR X (.builtin "isinstance") (rIsiT K) := by subst hK; exact call_isiT
theorem listK (hK : X.K = K := by rfl) : CallR X (.type "list") (rListS K) := by subst hK; exact call_list_of
def rTupOf (K : PySem.W.Frag) : List V → Hp → VK → Prop := fun xs H Q => ∃ p ys, xs = [.ref p] ∧ ((SqL K H p ys ∧ ∀ l, H l = none → Q (.ref l) (upd H l (.tup ys))) ∨ (SqT K H p ys ∧ Q (.ref p) H))
theorem tupK (hK : X.K = K := by rfl) : CallR X (.type "tuple") (rTupOf K) := by subst hK; exact call_tuple_of
theorem inQ (hK : X.K = K := by rfl) : OpR X (compareOp .In) (rIn K false) := by subst hK; exact op_in_seq
theorem notInQ (hK : X.K = K := by rfl) : OpR X (compareOp .NotIn) (rIn K true) := by subst hK; exact op_notIn_seq
theorem eqDK (hu : X.A.units + 64 < cLine) (hK : X.K = K := by rfl) : OpR X (compareOp .Eq) (rEqD K) := by subst hK; exact op_eqD hu
theorem neDK (hu : X.A.units + 64 < cLine) (hK : X.K = K := by rfl) : OpR X (compareOp .NotEq) (rNeD K) := by subst hK; exact op_neD hu
theorem fldK {e : Expr} {f : Str} {pos : Pos} {ta : TE} (he : PE X e ta) (hb : attributeBase e f X.env (eval e X.env) = eval e X.env) (hK : X.K = K := by rfl) : PE X (.Attribute e f pos) (tFld K ta f) := by subst hK; exact pe_fld he hb
theorem bmK {o e : Expr} {es : List Expr} {to : TE} {t : TA} {name : Str} {apos cpos : Pos} {T id : String} {r : V → List V → Hp → VK → Prop} (pa : PlainAttrs T) (slot : Slot T name id) (hty : typeOf (.builtin id) = pure (.type "method_descriptor")) (hm : MtR X id r) (ho : PE X o to) (ha : PA X (e :: es) t)
    (hK : X.K = K := by rfl) (hbase : attributeBase o name X.env (eval o X.env) = eval o X.env := by rfl)
    (hfew : ((backTo cpos (starEach (e :: es) X.env)).all (fun x => !x.1) && (backToKw cpos (keywordEach [] X.env)).all (fun x => x.1.isSome)
      && decide ((e :: es).length + ([] : List Keyword).length + (if ([] : List Keyword).isEmpty then 0 else 1) < 30)) = true := by rfl)
    (hline : (apos.endLine == cpos.line) = true := by rfl) (hs : starEach (e :: es) X.env = (false, eval e X.env) :: starEach es X.env := by rfl) (hplain : (backTo cpos (starEach es X.env)).any (·.1) = false := by rfl) :
    PE X (.Call (.Attribute o name apos) (e :: es) [] cpos) (tBM K T r to t) := by subst hK; exact pe_bm pa slot hty hm ho ha hbase hfew hline hs hplain
def rJoin (K : PySem.W.Frag) : V → List V → Hp → VK → Prop := fun x xs H Q => ∃ a p, ∃ ys : List Str, x = .str a ∧ xs = [.ref p] ∧ (SqL K H p (ys.map V.str) ∨ SqT K H p (ys.map V.str)) ∧
      (ys.map (·.length)).sum + ys.length * a.length ≤ 16777216 ∧ Q (.str (Txt.join a ys)) H
theorem joinK {o e : Expr} {to te : TE} {apos pos : Pos} (ho : PE X o to) (he : PE X e te) (hK : X.K = K := by rfl) (hs : starEach [e] X.env = [(false, eval e X.env)] := by rfl) (hbase : attributeBase o "join" X.env (eval o X.env) = eval o X.env := by rfl) (hline : (apos.endLine == pos.line) = true := by rfl) :
    PE X (.Call (.Attribute o "join" apos) [e] [] pos) (tM1 (rJoin K) to te) := by subst hK; exact pe_join ho he hs hbase hline
end
/-! ### words of mine, over HandS and Evl -/
section
variable {K : PySem.W.Frag} {σ : L2.St} {H H' : Hp} {ta tb te tv : TE} {t u : TT} {x y z v : V} {D : Ends} {tz tu : TS}
abbrev ii (xs : List Int) : List V := xs.map V.int
theorem ip_mulI {X : Cx} : PIp X .Mult (fun x y H Q => ∃ i j, x = .int i ∧ y = .int j ∧ CMul i j ∧ Q (.int (i * j)) H) := iop_mul
theorem et_yes : EvT tYes σ H true := fun H1 _ _ q => q H1 (Ex.refl H1)
theorem ev_sumN {ns : List Int} (h : EvL ta σ H (ii ns)) : Ev (tCB (rSum K) (tCons ta tNil)) σ H (.int ns.sum) := fun H1 e Q q =>
  h H1 e _ fun p H2 _ e2 h2 => ⟨p, ns, rfl, sq_of h2, q H2 e2⟩
theorem ev_sum {p : Addr} {ns : List Int} (h : Ev ta σ H (.ref p)) (hS : SqL K H p (ii ns)) : Ev (tCB (rSum K) (tCons ta tNil)) σ H (.int ns.sum) := fun H1 e Q q =>
  h H1 e _ fun H2 e2 => ⟨p, ns, rfl, ex_l (e.trans e2) hS, q H2 e2⟩
theorem given_all {n : Nat} {f : Nat → V} : given n (fun _ => true) f = (List.range n).map f := by
  unfold given
  rw [List.filter_eq_self.mpr (fun _ _ => rfl)]
/-- self.f = e -/
theorem q_fld {a C dx : Addr} {fs : List (Str × V)} {f : Str} (hv : Ev tv σ H v) (ha : Ev ta σ H (.ref a)) (ho : H a = some (.ins C dx fs)) (hc : Cls K C) (hn : NoAttr K C f) (hl : fs.length < 1000)
    (k : ∀ H1, Ex H H1 → tz D σ (upd H1 a (.ins C dx (putF f v fs)))) : tSeq (sFld K ta tv f) tz D σ H :=
  hv H (Ex.refl H) _ fun H1 e1 => ha H1 e1 _ fun H2 e2 => ⟨a, C, dx, fs, rfl, e2 _ _ (e1 _ _ ho), hc, hn, hl, k H2 (e1.trans e2)⟩
theorem q_fldL {a C dx : Addr} {fs : List (Str × V)} {f : Str} {xs : List V} (hv : EvL tv σ H xs) (ha : Ev ta σ H (.ref a)) (ho : H a = some (.ins C dx fs)) (hc : Cls K C) (hn : NoAttr K C f) (hl : fs.length < 1000)
    (k : ∀ p H1, H p = none → Ex H H1 → H1 p = some (.lst xs) → tz D σ (upd H1 a (.ins C dx (putF f (.ref p) fs)))) : tSeq (sFld K ta tv f) tz D σ H :=
  hv H (Ex.refl H) _ fun p H1 hp e1 h1 => ha H1 e1 _ fun H2 e2 => ⟨a, C, dx, fs, rfl, e2 _ _ (e1 _ _ ho), hc, hn, hl, k p H2 hp (e1.trans e2) (e2 _ _ h1)⟩
theorem s_fld {a C dx : Addr} {fs : List (Str × V)} {f : Str} (hv : Ev tv σ H v) (ha : Ev ta σ H (.ref a)) (ho : H a = some (.ins C dx fs)) (hc : Cls K C) (hn : NoAttr K C f) (hl : fs.length < 1000)
    (k : ∀ H1, Ex H H1 → D.nx σ (upd H1 a (.ins C dx (putF f v fs)))) : sFld K ta tv f D σ H :=
  hv H (Ex.refl H) _ fun H1 e1 => ha H1 e1 _ fun H2 e2 => ⟨a, C, dx, fs, rfl, e2 _ _ (e1 _ _ ho), hc, hn, hl, k H2 (e1.trans e2)⟩
theorem ev_fld {a C dx : Addr} {fs : List (Str × V)} {f : Str} (ha : Ev ta σ H (.ref a)) (ho : H a = some (.ins C dx fs)) (hc : Cls K C) (hn : NoAttr K C f) (hl : fs.lookup f = some v) : Ev (tFld K ta f) σ H v :=
  fun H1 e Q q => ha H1 e _ fun H2 e2 => ⟨a, C, dx, fs, v, rfl, e2 _ _ (e _ _ ho), hc, hn, hl, q H2 e2⟩
/-- a value of one of the kinds that is an int, a truth or none of both -/
def isI : V → Bool | .int _ => true | .bl _ => true | _ => false
def isB : V → Bool | .bl _ => true | _ => false
def KnI (K : PySem.W.Frag) (H : Hp) (x : V) : Prop := ∃ t, TyX K H x t ∧ PySem.W.kitOne K t (.type "bool") = some (isB x) ∧ PySem.W.kitOne K t (.type "int") = some (isI x)
theorem kni_int {i : Int} : KnI K H (.int i) := ⟨_, .base (.int i), kit_ty (r := false) (by decide +kernel), kit_ty (r := true) (by decide +kernel)⟩
theorem kni_bl {b : Bool} : KnI K H (.bl b) := ⟨_, .base (.bl b), kit_ty (r := true) (by decide +kernel), kit_ty (r := true) (by decide +kernel)⟩
theorem kni_non : KnI K H .non := ⟨_, .base .non, kit_ty (r := false) (by decide +kernel), kit_ty (r := false) (by decide +kernel)⟩
theorem kni_str {s : Str} : KnI K H (.str s) := ⟨_, .base (.str s), kit_ty (r := false) (by decide +kernel), kit_ty (r := false) (by decide +kernel)⟩
def oi : Option Int → V | none => .non | some i => .int i
def whole (x : V) (lo : Int) (hi : Option Int) : Bool := match x with
  | .int i => decide (lo ≤ i) && (match hi with | none => true | some h => decide (i ≤ h))
  | _ => false
theorem cut_take (xs : List V) (n : Nat) : cutV xs none (some (n : Int)) = xs.take n := by
  unfold cutV
  rw [HT.sIx_none, HT.sIx_nat]
  show (xs.drop 0).take (min n xs.length - 0) = xs.take n
  rw [List.drop_zero, Nat.sub_zero]
  by_cases h : n ≤ xs.length
  · rw [Nat.min_eq_left h]
  · rw [Nat.min_eq_right (by omega), List.take_length, List.take_of_length_le (by omega)]
theorem ii_get {xs : List Int} {j : Nat} (h : j < xs.length) : (ii xs)[j]? = some (.int (xs.getD j 0)) := by
  rw [List.getElem?_map, List.getElem?_eq_getElem h, List.getD_eq_getElem?_getD, List.getElem?_eq_getElem h]
  rfl
theorem ii_len (xs : List Int) : (ii xs).length = xs.length := List.length_map ..
theorem ii_of {xs : List Int} {j : Nat} {y : V} (h : (ii xs)[j]? = some y) : ∃ z, xs[j]? = some z ∧ y = .int z := by
  rw [List.getElem?_map] at h
  cases e : xs[j]? with
  | none => rw [e] at h; cases h
  | some z => rw [e] at h; exact ⟨z, rfl, (Option.some.inj h).symm⟩
end
/-! what is known and never changes (kb), beside what may change -/
theorem grow {kb H H1 : Hp} {p : Addr} {o : HO} (e : Ex kb H) (hp : H p = none) (e1 : Ex H H1) (h1 : H1 p = some o) : Ex (upd kb p o) H1 := fun b u q => by
  by_cases hb : b = p
  · subst hb
    rw [upd_same] at q
    cases q
    exact h1
  · rw [upd_ne hb] at q
    exact e1 b u (e b u q)
theorem kb_new {kb H : Hp} {p : Addr} {o : HO} (e : Ex kb H) (hp : H p = none) : Ex kb (upd kb p o) := Ex.new (fresh_back e hp)
theorem kb_none {kb H : Hp} {p x : Addr} {o u : HO} (hx : kb x = none) (h : H x = some u) (hp : H p = none) : upd kb p o x = none := by
  rw [upd_ne (ne_of_none h hp)]
  exact hx
theorem rep_flat {α : Type} (n : Nat) (x : α) : (List.replicate n [x]).flatten = List.replicate n x := by
  induction n with
  | zero => rfl
  | succ n ih => rw [List.replicate_succ, List.flatten_cons, ih]; rfl

theorem ii_map {n : Nat} {f : Nat → Int} : ii ((List.range n).map f) = (List.range n).map (fun l => V.int (f l)) := List.map_map ..
/-- kb: what is known and stays; mt: what may change, as it stands -/
structure ST (kb H : Hp) (mt : List (Addr × HO)) : Prop where
  e : Ex kb H
  m : ∀ p ∈ mt, kb p.1 = none ∧ H p.1 = some p.2
  d : mt.Pairwise fun p q => p.1 ≠ q.1
section
variable {kb H H1 : Hp} {mt : List (Addr × HO)} {p a b c : Addr} {o o1 o2 o3 u : HO}
theorem ST.ext (s : ST kb H mt) (e : Ex H H1) : ST kb H1 mt := ⟨s.e.trans e, fun p hp => ⟨(s.m p hp).1, e _ _ (s.m p hp).2⟩, s.d⟩
theorem ST.new (s : ST kb H mt) (hp : H p = none) (e : Ex H H1) (h1 : H1 p = some o) : ST (upd kb p o) H1 mt :=
  ⟨grow s.e hp e h1, fun q hq => ⟨kb_none (s.m q hq).1 (s.m q hq).2 hp, e _ _ (s.m q hq).2⟩, s.d⟩
theorem ST.kb_ex (s : ST kb H mt) (hp : H p = none) : Ex kb (upd kb p o) := kb_new s.e hp
theorem ST.newM (s : ST kb H mt) (hp : H p = none) (e : Ex H H1) (h1 : H1 p = some o) : ST kb H1 ((p, o) :: mt) :=
  ⟨s.e.trans e, fun q hq => by
    rcases List.mem_cons.mp hq with rfl | hq
    · exact ⟨fresh_back s.e hp, h1⟩
    · exact ⟨(s.m q hq).1, e _ _ (s.m q hq).2⟩, List.pairwise_cons.mpr ⟨fun q hq => (ne_of_none (s.m q hq).2 hp).symm, s.d⟩⟩
theorem ST.set (s : ST kb H ((a, o) :: mt)) : ST kb (upd H a u) ((a, u) :: mt) :=
  ⟨Ex.mut s.e (s.m _ List.mem_cons_self).1, fun q hq => by
    rcases List.mem_cons.mp hq with rfl | hq
    · exact ⟨(s.m (a, o) List.mem_cons_self).1, upd_same⟩
    · exact ⟨(s.m q (List.mem_cons_of_mem _ hq)).1, by rw [upd_ne ((List.pairwise_cons.mp s.d).1 q hq).symm]; exact (s.m q (List.mem_cons_of_mem _ hq)).2⟩, by
    have z := List.pairwise_cons.mp s.d
    exact List.pairwise_cons.mpr ⟨z.1, z.2⟩⟩
theorem ST.perm {mt' : List (Addr × HO)} (s : ST kb H mt) (h : mt.Perm mt') : ST kb H mt' := ⟨s.e, fun p hp => s.m p (h.mem_iff.mpr hp), s.d.perm h fun z => z.symm⟩
theorem ST.set2 {x : Addr × HO} (s : ST kb H (x :: (a, o) :: mt)) : ST kb (upd H a u) (x :: (a, u) :: mt) := ((s.perm (List.Perm.swap ..)).set).perm (List.Perm.swap ..)
theorem ST.set3 {x y : Addr × HO} (s : ST kb H (x :: y :: (a, o) :: mt)) : ST kb (upd H a u) (x :: y :: (a, u) :: mt) :=
  ((s.perm ((List.Perm.cons x (List.Perm.swap ..)).trans (List.Perm.swap ..))).set).perm ((List.Perm.swap ..).trans (List.Perm.cons x (List.Perm.swap ..)))
theorem ST.at1 (s : ST kb H ((a, o) :: mt)) : H a = some o := (s.m (a, o) List.mem_cons_self).2
theorem ST.at2 {x : Addr × HO} (s : ST kb H (x :: (a, o) :: mt)) : H a = some o := (s.m (a, o) (List.mem_cons_of_mem _ List.mem_cons_self)).2
theorem ST.at3 {x y : Addr × HO} (s : ST kb H (x :: y :: (a, o) :: mt)) : H a = some o := (s.m (a, o) (List.mem_cons_of_mem _ (List.mem_cons_of_mem _ List.mem_cons_self))).2
theorem ST.l {K : PySem.W.Frag} {xs : List V} (s : ST kb H mt) (h : kb a = some (.lst xs)) : SqL K H a xs := sq_of (s.e _ _ h)
/-- a mutable thing is laid down: it stays as it is from here on -/
theorem ST.fix (s : ST kb H ((a, o) :: mt)) : ST (upd kb a o) H mt :=
  ⟨fun b w q => by
    by_cases hb : b = a
    · subst hb; rw [upd_same] at q; cases q; exact s.at1
    · rw [upd_ne hb] at q; exact s.e b w q, fun q hq => ⟨by
      rw [upd_ne ((List.pairwise_cons.mp s.d).1 q hq).symm]
      exact (s.m q (List.mem_cons_of_mem _ hq)).1, (s.m q (List.mem_cons_of_mem _ hq)).2⟩, (List.pairwise_cons.mp s.d).2⟩
end
section
variable {K : PySem.W.Frag} {σ : L2.St} {H H' : Hp} {ta tb te tv : TE} {v : V} {D : Ends} {tz : TS}
theorem st_fldv {a C dx : Addr} {fs fs' : List (Str × V)} {f : Str} {kb : Hp} {mt : List (Addr × HO)} (s : ST kb H ((a, .ins C dx fs) :: mt)) (hv : Ev tv σ H v) (ha : Ev ta σ H (.ref a)) (hc : Cls K C) (hn : NoAttr K C f) (hl : fs.length < 1000) (hf : putF f v fs = fs')
    (k : ∀ H1, ST kb H1 ((a, .ins C dx fs') :: mt) → tz D σ H1) : tSeq (sFld K ta tv f) tz D σ H := by
  subst hf
  exact q_fld hv ha s.at1 hc hn hl fun H1 e1 => k _ (s.ext e1).set
theorem st_fldl {a C dx : Addr} {fs : List (Str × V)} {f : Str} {xs : List V} {kb : Hp} {mt : List (Addr × HO)} (s : ST kb H ((a, .ins C dx fs) :: mt)) (hv : EvL tv σ H xs) (ha : Ev ta σ H (.ref a)) (hc : Cls K C) (hn : NoAttr K C f) (hl : fs.length < 1000)
    (k : ∀ p H1, Ex kb (upd kb p (.lst xs)) → ST (upd kb p (.lst xs)) H1 ((a, .ins C dx (putF f (.ref p) fs)) :: mt) → tz D σ H1) : tSeq (sFld K ta tv f) tz D σ H :=
  q_fldL hv ha s.at1 hc hn hl fun p H1 hp e1 h1 => k p _ (s.kb_ex hp) (s.new hp e1 h1).set
theorem st_fldm {a C dx : Addr} {fs : List (Str × V)} {f : Str} {xs : List V} {kb : Hp} {mt : List (Addr × HO)} (s : ST kb H ((a, .ins C dx fs) :: mt)) (hv : EvL tv σ H xs) (ha : Ev ta σ H (.ref a)) (hc : Cls K C) (hn : NoAttr K C f) (hl : fs.length < 1000)
    (k : ∀ p H1, ST kb H1 ((p, .lst xs) :: (a, .ins C dx (putF f (.ref p) fs)) :: mt) → tz D σ H1) : tSeq (sFld K ta tv f) tz D σ H :=
  q_fldL hv ha s.at1 hc hn hl fun p H1 hp e1 h1 => k p _ (s.newM hp e1 h1).set2
/-- xs.insert(0, a new list) -/
def rIns : V → List V → Hp → VK → Prop := fun x vs H Q => ∃ (l : Addr) (xs : List V) (i : Int) (y : V), x = .ref l ∧ vs = [.int i, y] ∧ H l = some (.lst xs) ∧ xs.length < sizeLine ∧ 0 ≤ i ∧ i < 2 ^ 63 ∧ Q .non (upd H l (.lst (xs.take i.toNat ++ [y] ++ xs.drop i.toNat)))
theorem q_ins0L {l : Addr} {xs ys : List V} (hl : H l = some (.lst xs)) (ha : Ev ta σ H (.ref l)) (h : EvL te σ H ys) (hz : xs.length < 100000) (k : ∀ p H1, H p = none → Ex H H1 → H1 p = some (.lst ys) → tz D σ (upd H1 l (.lst (.ref p :: xs)))) :
    tSeq (tDrop (tBM K "list" rIns ta (tCons (tC (.int 0)) (tCons te tNil)))) tz D σ H := ha H (Ex.refl H) _ fun H1 e1 =>
  ⟨Or.inl ⟨rfl, xs, sq_of (e1 l _ hl)⟩, h H1 e1 _ fun p H2 hp e2 h2 => ⟨l, xs, 0, .ref p, rfl, rfl, e2 l _ (e1 l _ hl), sz_lt hz, Int.le_refl 0, by decide, k p H2 (fresh_back e1 hp) (e1.trans e2) h2⟩⟩
end
theorem lk_head {f : Str} {v : V} {fs : List (Str × V)} : List.lookup f ((f, v) :: fs) = some v := by simp [List.lookup]
theorem lk_tail {f g : Str} {v : V} {fs : List (Str × V)} (h : (f == g) = false) : List.lookup f ((g, v) :: fs) = List.lookup f fs := by simp [List.lookup, h]
section
variable {X : Cx} {x : Str} {pos : Pos}
theorem pe_gi {i : Int} (hg : Gl X x) (h : ∃ t, X.mg x = some (.int i t)) (hd : (x == ("__debug__" : Str)) = false := by decide) : PE X (.Name x pos) (tC (.int i)) := by
  obtain ⟨t, h⟩ := h
  exact pe_glob hg h ⟨t, rfl⟩ (hd := hd)
theorem pe_gs {i : Str} (hg : Gl X x) (h : ∃ t, X.mg x = some (.str i t)) (hd : (x == ("__debug__" : Str)) = false := by decide) : PE X (.Name x pos) (tC (.str i)) := by
  obtain ⟨t, h⟩ := h
  exact pe_glob hg h ⟨t, rfl⟩ (hd := hd)
end
section
variable {K : PySem.W.Frag} {σ : L2.St} {H H' : Hp} {ta tb te tv : TE} {v : V} {D : Ends} {tz : TS} {tr : TA} {xs ys vs dvs : List V}
theorem s_ins0L {l : Addr} {xs ys : List V} (hl : H l = some (.lst xs)) (ha : Ev ta σ H (.ref l)) (h : EvL te σ H ys) (hz : xs.length < 100000) (k : ∀ p H1, H p = none → Ex H H1 → H1 p = some (.lst ys) → D.nx σ (upd H1 l (.lst (.ref p :: xs)))) :
    tDrop (tBM K "list" rIns ta (tCons (tC (.int 0)) (tCons te tNil))) D σ H := ha H (Ex.refl H) _ fun H1 e1 =>
  ⟨Or.inl ⟨rfl, xs, sq_of (e1 l _ hl)⟩, h H1 e1 _ fun p H2 hp e2 h2 => ⟨l, xs, 0, .ref p, rfl, rfl, e2 l _ (e1 l _ hl), sz_lt hz, Int.le_refl 0, by decide, k p H2 (fresh_back e1 hp) (e1.trans e2) h2⟩⟩
/-- [z] * n, a list and a list -/
theorem el_rep {z : V} {n : Nat} (ha : Ev ta σ H z) (hb : Ev tb σ H (.int (n : Int))) (hn : n ≤ 100000) : EvL (tOp rRep (tLst (tCons ta tNil)) tb) σ H (List.replicate n z) := fun H1 e Q q =>
  el_lst (ea_cons ha ea_nil) (by show 1 ≤ 100000; decide) H1 e _ fun p H2 hp e2 h2 => hb H2 (e.trans e2) _ fun H3 e3 =>
    ⟨p, (n : Int), [z], rfl, rfl, e3 _ _ h2, by omega, by omega, by show 1 * _ ≤ _; rw [Nat.one_mul, Int.toNat_natCast]; exact sz_of hn, fun r hr => by
      rw [Int.toNat_natCast, rep_flat]
      exact q r _ (fresh_back (e2.trans e3) hr) ((e2.trans e3).trans (Ex.new hr)) upd_same⟩
theorem el_cat (ha : EvL ta σ H xs) (hb : ∀ H1, Ex H H1 → EvL tb σ H1 ys) (hz : xs.length + ys.length ≤ 100000) : EvL (tOp rCat ta tb) σ H (xs ++ ys) := fun H1 e Q q =>
  ha H1 e _ fun p H2 hp e2 h2 => hb H2 (e.trans e2) H2 (Ex.refl H2) _ fun r H3 hr e3 h3 => ⟨p, r, xs, ys, rfl, rfl, e3 _ _ h2, h3, sz_of hz, fun t ht =>
    q t _ (fresh_back (e2.trans e3) ht) ((e2.trans e3).trans (Ex.new ht)) upd_same⟩
theorem el_cat1 {a : Addr} (ha : Ev ta σ H (.ref a)) (hA : H a = some (.lst xs)) (hb : EvL tb σ H ys) (hz : xs.length + ys.length ≤ 100000) : EvL (tOp rCat ta tb) σ H (xs ++ ys) := fun H1 e Q q =>
  ha H1 e _ fun H2 e2 => hb H2 (e.trans e2) _ fun r H3 hr e3 h3 => ⟨a, r, xs, ys, rfl, rfl, ((e.trans e2).trans e3) _ _ hA, h3, sz_of hz, fun t ht =>
    q t _ (fresh_back (e2.trans e3) ht) ((e2.trans e3).trans (Ex.new ht)) upd_same⟩
theorem el_slN {tl th : TO} {lo hi : Option Int} (h : EvL te σ H xs) (h1 : EvO tl σ H lo) (h2 : EvO th σ H hi) : EvL (tSl (rSlL K) te tl th) σ H (cutV xs lo hi) := fun H1 e _ q =>
  h H1 e _ fun a H2 ha e2 hx => h1 H2 (e.trans e2) _ fun H3 e3 => h2 H3 ((e.trans e2).trans e3) _ fun H4 e4 =>
    ⟨a, xs, rfl, sq_of (e4 _ _ (e3 _ _ hx)), fun p hp => q p _ (fresh_back ((e2.trans e3).trans e4) hp) (((e2.trans e3).trans e4).trans (Ex.new hp)) upd_same⟩
/-- a call whose first argument is a new list -/
theorem el_callL {sp : Sp} {E : XK} (h : EvL te σ H xs) (hr : EvA tr σ H vs) (hs : ∀ p H1, Ex H H1 → H1 p = some (.lst xs) → SpL sp (.ref p :: vs ++ dvs) H1 ys) : EvL (tCall sp dvs E (tCons te tr)) σ H ys := fun H1 e Q q =>
  h H1 e _ fun p H2 hp e2 h2 => hr H2 (e.trans e2) _ fun H3 e3 => hs p H3 ((e.trans e2).trans e3) (e3 _ _ h2) H3 (Ex.refl H3) Q (fun r H4 hr e4 h4 => q r H4 (fresh_back (e2.trans e3) hr) ((e2.trans e3).trans e4) h4) E
theorem el_callLL {sp : Sp} {E : XK} {zs : List V} (h : EvL te σ H xs) (hb : ∀ H1, Ex H H1 → EvL tb σ H1 zs) (hr : EvA tr σ H vs) (hs : ∀ p r H1, Ex H H1 → H1 p = some (.lst xs) → H1 r = some (.lst zs) → SpL sp (.ref p :: .ref r :: vs ++ dvs) H1 ys) : EvL (tCall sp dvs E (tCons te (tCons tb tr))) σ H ys := fun H1 e Q q =>
  h H1 e _ fun p H2 hp e2 h2 => hb H2 (e.trans e2) H2 (Ex.refl H2) _ fun r H3 hr' e3 h3 => hr H3 ((e.trans e2).trans e3) _ fun H4 e4 => hs p r H4 (((e.trans e2).trans e3).trans e4) (e4 _ _ (e3 _ _ h2)) (e4 _ _ h3) H4 (Ex.refl H4) Q
    (fun t H5 ht e5 h5 => q t H5 (fresh_back ((e2.trans e3).trans e4) ht) (((e2.trans e3).trans e4).trans e5) h5) E
end

/-! ### further rules of mine -/
section
variable {X : Cx}
theorem PI.or {tg e : Expr} {w1 w2 : TI} (h1 : PI X tg e w1) (h2 : PI X tg e w2) : PI X tg e (fun σ H R => w1 σ H R ∨ w2 σ H R) :=
  ⟨fun pins s σ H R I h => h.elim (fun h => h1.run pins s σ H R I h) (fun h => h2.run pins s σ H R I h)⟩
/-- a < b of data that are alike -/
def rLtD (K : PySem.W.Frag) : R2 := fun x y H Q => ∃ d e, Dp K H x d ∧ Dp K H y e ∧ PySem.W.alike d e = true ∧ d ≠ .none ∧ d.depth ≤ 60 ∧ Q (.bl (PySem.W.dataLt d e)) H
theorem op_ltD (K : PySem.W.Frag) (hu : X.A.units + 64 < cLine) (hK : X.K = K := by rfl) : OpR X (compareOp .Lt) (rLtD K) := by
  subst hK
  intro pins s σ H x y v u Q I rx ry h
  obtain ⟨d, e, hd, he, ha, hn, hdp, q⟩ := h
  obtain ⟨as, r1⟩ := Dp.reads I d x v hd rx
  obtain ⟨bs, r2⟩ := Dp.reads I e y u he ry
  show wpAny _ _ (richCompare .Lt v u) _ _ _
  exact PySem.W.rcLt_alike d e X.A s v u as bs r1 r2 ha hn (by omega) _ _ _ _ ⟨.bl _, H, I, rfl, q⟩
/-- a == b by the own __eq__ of the class of both -/
def rEqOwn (C : Addr) (sp : Sp) (E : XK) : R2 := fun x y H Q => ∃ a b dx dy fs gs, x = .ref a ∧ y = .ref b ∧ H a = some (.ins C dx fs) ∧ H b = some (.ins C dy gs) ∧ sp [.ref a, .ref b] H (fun v H' => (∃ k, v = .bl k) ∧ Q v H') E
theorem op_eqOwn {CX : CXT} {C f : Addr} {fd : FuncData} {ps : List Str} {sp : Sp} {E : XK} {n : Nat} (F : FnOk X.prog X.w X.K X.mg X.base CX n f fd ps sp) (hr : Room n X.A) (M : Meth X.K C "__eq__" f) (hb : Binds X.K fd ps []) (hx : Passes CX X E) :
    OpR X (compareOp .Eq) (rEqOwn C sp E) := by
  intro pins s σ H x y v u Q I rx ry h
  obtain ⟨a, b, dx, dy, fs, gs, rfl, rfl, ha, hb', hsp⟩ := h
  cases rx
  cases ry
  obtain ⟨mA, J, _⟩ := ins_get I.hok ha
  obtain ⟨mB, J', _⟩ := ins_get I.hok hb'
  obtain ⟨od, J, _⟩ := J.look
  obtain ⟨od', J', _⟩ := J'.look
  obtain ⟨m, hF⟩ := I.fr
  show wpAny _ _ (richCompare .Eq _ _) _ _ _
  refine PySem.W.cmp_K (op := .Eq) (tb := .ref C) hr.units0 hF I.ok.mod.kin J J'.type (by simp [PySem.W.notFirst]) M.at_ M.fn ?_
  have hl := F.len _ _ _ _ hsp
  have r2 : Vals [V.ref a, V.ref b] [Value.ref a, Value.ref b] := .cons rfl (.cons rfl .nil)
  refine wpAny_call (codeAny_mono (F.run X.A X.stack s H ⟨[.ref a, .ref b], []⟩ [.ref a, .ref b] [.ref a, .ref b] _ E hr I.env0 (by
    have := hb s [.ref a, .ref b] I.kIn (by simpa using hl)
    simpa using this) r2 hsp) fun r s' hq => ?_)
  cases r with
  | error e => exact hx pins σ H s e s' I hq
  | ok fl =>
    cases fl with
    | ret w =>
      obtain ⟨z, H', I', rz, ⟨k, ez⟩, q⟩ := I.after hq
      subst ez
      cases rz
      exact ⟨.bl k, H', I', rfl, q⟩
    | next => exact False.elim hq
    | brk => exact False.elim hq
    | cont => exact False.elim hq
theorem kit_self {K : PySem.W.Frag} {C : Addr} : PySem.W.kitOne K (.ref C) (.ref C) = some true := by
  unfold PySem.W.kitOne
  rw [if_pos (by simp)]
theorem tup0 {pos : Pos} {c : Nat} : PE X (.Tuple [] c pos) (tTup tNil) := pe_tup pa_nil
end
section
variable (K : PySem.W.Frag) {X : Cx}
def rAllK (K : PySem.W.Frag) : List V → Hp → VK → Prop := rAll K
theorem allK (hc : X.calm = true) (hK : X.K = K := by rfl) : CallR X (.builtin "all") (rAll K) := by subst hK; exact cr_all hc
end
section
variable {K : PySem.W.Frag} {σ : L2.St} {H H' : Hp} {ta tb te tv : TE} {t u : TT} {x y z v : V} {D : Ends} {tz tu : TS}
/-- a value that is a text or none -/
def isS : V → Bool | .str _ => true | _ => false
def KnS (K : PySem.W.Frag) (H : Hp) (x : V) : Prop := ∃ t, TyX K H x t ∧ PySem.W.kitOne K t (.type "str") = some (isS x)
theorem kns_str {s : Str} : KnS K H (.str s) := ⟨_, .base (.str s), kit_ty (r := true) (by decide +kernel)⟩
theorem kns_int {i : Int} : KnS K H (.int i) := ⟨_, .base (.int i), kit_ty (r := false) (by decide +kernel)⟩
theorem ev_isi {c : V} {tt u : Value} {b : Bool} (ha : Ev ta σ H x) (hb : Ev tb σ H c) (k : ClsV c u) (ht : ∀ H1, Ex H H1 → TyX K H1 x tt) (e : PySem.W.kitOne K tt u = some b) : Ev (tCB (rIsi K) (tCons ta (tCons tb tNil))) σ H (.bl b) :=
  fun H1 e1 Q q => ha H1 e1 _ fun H2 e2 => hb H2 (e1.trans e2) _ fun H3 e3 => ⟨x, c, tt, u, b, rfl, k, ht H3 ((e1.trans e2).trans e3), e, q H3 (e2.trans e3)⟩
theorem tyx_ex {tt : Value} (h : TyX K H x tt) (e : Ex H H') : TyX K H' x tt := by
  cases h with
  | base b =>
    cases b with
    | non => exact .base .non
    | bl x => exact .base (.bl x)
    | int i => exact .base (.int i)
    | str x => exact .base (.str x)
    | flt x => exact .base (.flt x)
    | lst h => exact .base (.lst (e _ _ h))
    | frz h => exact .base (.frz (e _ _ h))
    | tup h => exact .base (.tup (e _ _ h))
    | dK h => exact .base (.dK (e _ _ h))
    | dT h => exact .base (.dT (e _ _ h))
    | ins h a b c d f => exact .base (.ins (e _ _ h) a b c d f)
  | byt b => exact .byt b
  | set h => exact .set (e _ _ h)
  | kList h c => exact .kList h c
  | kTuple h c => exact .kTuple h c
  | kDict h c => exact .kDict h c
  | fTuple h => exact .fTuple (e _ _ h)
  | fDict h => exact .fDict (e _ _ h)
theorem kns_ex (h : KnS K H x) (e : Ex H H') : KnS K H' x := let ⟨t, h1, h2⟩ := h; ⟨t, tyx_ex h1 e, h2⟩
theorem kni_ex (h : KnI K H x) (e : Ex H H') : KnI K H' x := let ⟨t, h1, h2⟩ := h; ⟨t, tyx_ex h1 e, h2⟩
theorem ev_chain {r r' : R2} {k : Bool} {w : V} {tc : TE} {b2 : Bool} (ha : Ev ta σ H x) (hb : Ev tb σ H y) (hr : RV r x y H (.bl k)) (hc : k = true → Ev tc σ H w) (hr' : k = true → RV r' y w H (.bl b2)) : Ev (tChain r r' ta tb tc) σ H (.bl (k && b2)) := fun H1 e Q q =>
  ha H1 e _ fun H2 e2 => hb H2 (e.trans e2) _ fun H3 e3 => hr H3 ((e.trans e2).trans e3) _ fun H4 e4 => ⟨k, rfl, by
    cases k with
    | true =>
      rw [if_pos rfl]
      exact hc rfl H4 (((e.trans e2).trans e3).trans e4) _ fun H5 e5 => hr' rfl H5 ((((e.trans e2).trans e3).trans e4).trans e5) Q fun H6 e6 => q H6 ((((e2.trans e3).trans e4).trans e5).trans e6)
    | false =>
      rw [if_neg Bool.false_ne_true]
      exact q H4 ((e2.trans e3).trans e4)⟩
theorem ev_lenS {s : Str} (ha : Ev ta σ H (.str s)) (hz : s.length ≤ 100000) : Ev (tCB (fun xs H Q => ∃ z, xs = [.str z] ∧ z.length ≤ sizeLine ∧ Q (.int z.length) H) (tCons ta tNil)) σ H (.int (s.length : Int)) := fun H1 e Q q =>
  ha H1 e _ fun H2 e2 => ⟨s, rfl, sz_of hz, q H2 e2⟩
theorem ev_m1 {r : V → List V → Hp → VK → Prop} {s : Str} {w : V} (ha : Ev ta σ H (.str s)) (hb : Ev tb σ H y) (hr : ∀ H1, Ex H H1 → ∀ Q : VK, (∀ H2, Ex H1 H2 → Q w H2) → r (.str s) [y] H1 Q) : Ev (tM1 r ta tb) σ H w := fun H1 e Q q =>
  ha H1 e _ fun H2 e2 => ⟨⟨s, rfl⟩, hb H2 (e.trans e2) _ fun H3 e3 => hr H3 ((e.trans e2).trans e3) Q fun H4 e4 => q H4 ((e2.trans e3).trans e4)⟩
theorem ev_slS {tl th : TO} {s : Str} {lo hi : Option Int} (h : Ev te σ H (.str s)) (h1 : EvO tl σ H lo) (h2 : EvO th σ H hi) (hz : s.length ≤ 100000) : Ev (tSl rSlS te tl th) σ H (.str (cutS s lo hi)) := fun H1 e _ q =>
  h H1 e _ fun H2 e2 => h1 H2 (e.trans e2) _ fun H3 e3 => h2 H3 ((e.trans e2).trans e3) _ fun H4 e4 => ⟨s, rfl, sz_of hz, q H4 ((e2.trans e3).trans e4)⟩
theorem rv_neS {a b : Str} : RV rNe (.str a) (.str b) H (.bl (!decide (a = b))) := fun H1 _ _ q => ⟨rfl, by
  have : decide (V.str a = V.str b) = decide (a = b) := by
    by_cases h : a = b
    · rw [h, decide_eq_true rfl, decide_eq_true rfl]
    · rw [decide_eq_false h, decide_eq_false (fun z => h (V.str.inj z))]
  rw [this]
  exact q H1 (Ex.refl H1)⟩
theorem rv_eqS {a b : Str} : RV rEq (.str a) (.str b) H (.bl (decide (a = b))) := fun H1 _ _ q => ⟨rfl, by
  have : decide (V.str a = V.str b) = decide (a = b) := by
    by_cases h : a = b
    · rw [h, decide_eq_true rfl, decide_eq_true rfl]
    · rw [decide_eq_false h, decide_eq_false (fun z => h (V.str.inj z))]
  rw [this]
  exact q H1 (Ex.refl H1)⟩
end
section
variable {X : Cx} {CX : CXT} {k : Nat} {f C : Addr} {fd : FuncData} {ps : List Str} {sp : Sp} {E : XK} {x : Str} {p pos : Pos} {e : Expr} {es : List Expr} {t : TA} {dvs : List V} {te : TE}
theorem pe_callD (F : FnOk X.prog X.w X.K X.mg X.base CX k f fd ps sp) (hr : Room k X.A) (hg : Gl X x) (hm : X.mg x = some (.ref f)) (hk : PySem.W.keepIn X.K (.ref f) = true) (hbd : ∃ ds, Vals dvs ds ∧ Binds X.K fd ps ds) (hx : Passes CX X E)
    (ha : PA X (e :: es) t) (hdb : (x == ("__debug__" : Str)) = false := by decide) (he : starEach (e :: es) X.env = (false, eval e X.env) :: starEach es X.env := by rfl) (hpl : (backTo pos (starEach es X.env)).any (·.1) = false := by rfl) :
    PE X (.Call (.Name x p) (e :: es) [] pos) (tCall sp dvs E t) := by
  obtain ⟨ds, hd, hb⟩ := hbd
  exact pe_call F hr hg hm hk hb hd hx ha hdb he hpl
theorem pe_makeD (M : Mk X.K C f) (F : FnOk X.prog X.w X.K X.mg X.base CX k f fd ps sp) (hr : Room (k + 1) X.A) (hg : Gl X x) (hm : X.mg x = some (.ref C)) (hbd : ∃ ds, Vals dvs ds ∧ Binds X.K fd ps ds) (hx : Passes CX X E)
    (ha : PA X (e :: es) t) (hdb : (x == ("__debug__" : Str)) = false := by decide) (he : starEach (e :: es) X.env = (false, eval e X.env) :: starEach es X.env := by rfl) (hpl : (backTo pos (starEach es X.env)).any (·.1) = false := by rfl) :
    PE X (.Call (.Name x p) (e :: es) [] pos) (tMake C sp dvs E t) := by
  obtain ⟨ds, hd, hb⟩ := hbd
  exact pe_make M F hr hg hm hb hd hx ha hdb he hpl
theorem starK (K : PySem.W.Frag) (he : PE X e te) (hr : PA X es t) (hK : X.K = K := by rfl) (hs : starEach (.Starred e p :: es) X.env = (true, eval e X.env) :: starEach es X.env := by rfl) : PA X (.Starred e p :: es) (StX.tStar K te t) := by
  subst hK
  exact StX.pa_star he hr hs
end
section
variable {K : PySem.W.Frag} {σ : L2.St} {H H' : Hp} {ta tb te tv : TE} {t u : TT} {x y z v : V} {D : Ends} {tz tu : TS} {tr : TA}
theorem ea_star {a : Addr} {xs vs : List V} (h : Ev te σ H (.ref a)) (hx : SqT K H a xs) (hr : EvA tr σ H vs) : EvA (StX.tStar K te tr) σ H (xs ++ vs) := fun H1 e _ q =>
  h H1 e _ fun H2 e2 => ⟨a, xs, rfl, .inl (ex_t (e.trans e2) hx), hr H2 (e.trans e2) _ fun H3 e3 => q H3 (e2.trans e3)⟩
theorem et_truth {b : Bool} (h : Ev te σ H x) (ht : ∀ H1, Ex H H1 → TruV K x H1 b) : EvT (fun σ H Q => te σ H fun x H' => ∃ k, TruV K x H' k ∧ Q k H') σ H b := fun H1 e _ q =>
  h H1 e _ fun H2 e2 => ⟨b, ht H2 (e.trans e2), q H2 e2⟩
theorem ev_orT {b : Bool} (h : Ev ta σ H x) (ht : ∀ H1, Ex H H1 → TruV K x H1 b) (hb : b = false → Ev tb σ H y) (hv : v = if b = true then x else y) : Ev (tOrT K ta tb) σ H v := fun H1 e Q q =>
  h H1 e _ fun H2 e2 => ⟨b, ht H2 (e.trans e2), by
    subst hv
    cases b with
    | true =>
      rw [if_pos rfl]
      exact q H2 e2
    | false =>
      rw [if_neg Bool.false_ne_true]
      exact hb rfl H2 (e.trans e2) Q fun H3 e3 => q H3 (e2.trans e3)⟩
/-- the parts of an f-string, by their texts -/
inductive EvJ (σ : L2.St) (H : Hp) : List TE → List Str → Prop where
  | nil : EvJ σ H [] []
  | cons {t : TE} {ts : List TE} {s : Str} {ss : List Str} (h : Ev t σ H (.str s)) (r : EvJ σ H ts ss) : EvJ σ H (t :: ts) (s :: ss)
theorem ev_tJs {ts : List TE} {ss : List Str} (h : EvJ σ H ts ss) : ∀ (acc : Str) (H1 : Hp), Ex H H1 → acc.length + (ss.map (·.length)).sum ≤ 100000 → ∀ Q : Str → Hp → Prop, (∀ H2, Ex H1 H2 → Q (ss.foldl (· ++ ·) acc) H2) → tJs ts acc σ H1 Q := by
  induction h with
  | nil => intro acc H1 e hz Q q; exact q H1 (Ex.refl _)
  | @cons t ts s ss h r ih =>
    intro acc H1 e hz Q q
    have hl : (acc ++ s).length = acc.length + s.length := by
      show (acc.cps ++ s.cps).size = _
      rw [Array.size_append]
      rfl
    rw [List.map_cons, List.sum_cons] at hz
    exact h H1 e _ fun H2 e2 => ⟨s, rfl, sz_of (by omega), ih (acc ++ s) H2 (e.trans e2) (by omega) Q fun H3 e3 => q H3 (e2.trans e3)⟩
theorem ev_joined {ts : List TE} {ss : List Str} (h : EvJ σ H ts ss) (hz : (ss.map (·.length)).sum ≤ 90000) : Ev (fun σ H Q => tJs ts Str.empty σ H fun out H1 => Q (.str out) H1) σ H (.str (ss.foldl (· ++ ·) Str.empty)) := fun H1 e Q q =>
  ev_tJs h Str.empty H1 e (by show (#[] : Array Nat).size + _ ≤ _; simp only [List.size_toArray, List.length_nil]; omega) _ q
theorem ev_fmtS {s : Str} (h : Ev te σ H (.str s)) (hz : s.length ≤ 100000) : Ev (tFmt te) σ H (.str s) := fun H1 e Q q => h H1 e _ fun H2 e2 => .inl ⟨s, rfl, sz_of hz, q H2 e2⟩
theorem ev_fmtI {i : Int} (h : Ev te σ H (.int i)) (hz : i.natAbs.log2 < 1920) : Ev (tFmt te) σ H (.str (toString i)) := fun H1 e Q q => h H1 e _ fun H2 e2 => .inr ⟨i, rfl, hz, q H2 e2⟩
theorem ev_strI {i : Int} (h : Ev te σ H (.int i)) (hz : i.natAbs.log2 < 1920) : Ev (tCB (fun xs H Q => ∃ i : Int, xs = [.int i] ∧ i.natAbs.log2 < 1920 ∧ Q (.str (toString i)) H) (tCons te tNil)) σ H (.str (toString i)) := fun H1 e Q q =>
  h H1 e _ fun H2 e2 => ⟨i, rfl, hz, q H2 e2⟩
theorem int_len {a : Int} (h : a.natAbs.log2 < 1920) : (Str.ofString (toString a)).length ≤ 1921 := by
  have e := int_text_length_le (k := 1920) (by decide) h
  rw [PySem.ofString_length]
  omega
end
section
variable {K : PySem.W.Frag} {σ : L2.St} {H : Hp} {ta tv : TE} {D : Ends} {tz : TS}
theorem q_fldU {a C dx : Addr} {fs : List (Str × V)} {f : Str} {xs : List V} (hv : EvU tv σ H xs) (ha : Ev ta σ H (.ref a)) (ho : H a = some (.ins C dx fs)) (hc : Cls K C) (hn : NoAttr K C f) (hl : fs.length < 1000)
    (k : ∀ p H1, H p = none → Ex H H1 → H1 p = some (.tup xs) → tz D σ (upd H1 a (.ins C dx (putF f (.ref p) fs)))) : tSeq (sFld K ta tv f) tz D σ H :=
  hv H (Ex.refl H) _ fun p H1 hp e1 h1 => ha H1 e1 _ fun H2 e2 => ⟨a, C, dx, fs, rfl, e2 _ _ (e1 _ _ ho), hc, hn, hl, k p H2 hp (e1.trans e2) (e2 _ _ h1)⟩
end

/-! ### a def that is called where no repr runs -/
structure FnG (P : Program) (w : World) (K : PySem.W.Frag) (mg : Str → Option Value) (base : Heap) (k : Nat) (f : Addr) (fd : FuncData) (ps : List Str) (sp : Sp) : Prop where
  len : ∀ vs H Q E, sp vs H Q E → vs.length = ps.length
  run : ∀ (A : Around) (out : List Env) (t : Shared) (H : Hp) (ar : Args) (us : List Value) (vs : List V) (Q : VK) (E : XK), A.guards = some [] → Room k A → Env0 P w K mg base A out t H → BindsTo t fd ar (ps.zip us) → Vals vs us →
    sp vs H Q E → codeAny (model P w) A (.call (.ref f) ar) (CR CX0 out P w H t Q E) t
section
variable {P : Program} {w : World} {K : PySem.W.Frag} {mg : Str → Option Value} {base : Heap} {k : Nat} {f : Addr} {fd : FuncData} {x qual : Str} {st : Stmt} {N ps : List Str} {sp : Sp}
theorem okG (F : Fun K x qual st f fd) (S : FnScope N ps (defScope st)) (len : ∀ vs H Q E, sp vs H Q E → vs.length = ps.length)
    (body : ∀ (cv : Value) (A : Around) (out : List Env) (t : Shared) (H : Hp) (vs : List V) (Q : VK) (E : XK), A.guards = some [] → Room k (A.deeper (envOfC qual (defScope st) t.heap.objs.size f cv)) → sp vs H Q E →
      ∃ u, PSs (cxOf CX0 P w K mg base N qual (defScope st) f cv A out t H E).nox (defBody st) u ∧ u { nx := fun _ H' => Q .non H', rt := Q } (start N vs) H) : FnG P w K mg base (k + 1) f fd ps sp := by
  obtain ⟨oc, od, kV, doc, pm, an, ct, cv, osl, rfl, look, code⟩ := F.ex
  refine ⟨len, fun A out t H ar us vs Q E gd room en bd rel hsp => ?_⟩
  have many := len vs H Q E hsp
  have stay := fun b o (q : base.get? b = some o) => (en.bs b o q).1
  have written := en.mod.kin.keeps stay
  have kinds : ∀ y ∈ ps.zip us, (defScope st).names.lookup y.1 = some .local ∨ ((defScope st).names.lookup y.1 = some .cell ∧ ((cellsFrom (t.heap.objs.size + 1) (defScope st).names []).lookup y.1).isSome = true) := by
    rintro ⟨n, z⟩ hy
    cases S.par n (List.of_mem_zip hy).1 with
    | inl q => exact Or.inl q
    | inr q => exact Or.inr ⟨q, PySem.W.cellsFrom_some _ _ _ (Or.inl q)⟩
  apply codeAny_call_function room.depth (written _ _ look) rfl S.co S.gen rfl (PySem.W.codeRec_of written code) (bd _ _ _ _ ?_)
  apply wpAny_newFunctionEnv_cells S.kind kinds
  rintro _ rfl t1 inside
  refine ⟨(en.mod.nolimit.keeps stay).keeps inside.toInCall.keep, codeAny_func ?_⟩
  obtain ⟨u, hu, go⟩ := body _ A out t H vs Q E gd (room.deeper _) hsp
  have inv := inv_start (CX := CX0) (E := E) S room.hd en many rel inside
  refine wpAny_mono (hu.nox.run [] t1 (start N vs) H _ inv go) (fun fl t2 hs => ?_) fun e t2 hs => hs
  match fl, hs with
  | .ret z, ⟨v, σ', H', J, rv, q⟩ => exact ⟨v, H', J.os, J.bare, J.base, J.hok, rv, q⟩
  | .next, ⟨σ', H', J, q⟩ => exact ⟨V.non, H', J.os, J.bare, J.base, J.hok, rfl, q⟩
  | .brk, ⟨_, _, _, q⟩ => exact q.elim
  | .cont, ⟨_, _, _, q⟩ => exact q.elim
end
section
variable {X : Cx}
/-- repr(x) of what shows as data -/
def rRepr (K : PySem.W.Frag) : List V → Hp → VK → Prop := fun xs H Q => ∃ v d, xs = [v] ∧ Dp K H v d ∧ d.showable = true ∧ d.hasDict = false ∧ d.depth ≤ 60 ∧ d.shown.length ≤ 90000 ∧ Q (.str d.shown) H
end
section
variable {P : Program} {w : World} {K : PySem.W.Frag} {mg mb : Str → Option Value} {k : Nat} {fa a : Addr} {fd : FuncData} {x : Str} {sp : Sp} {t : Shared} {vs : List Value} {ns : List Int}
/-- the law's call, from its promise where no repr runs -/
theorem law_callG (kin : K.In t.heap) (nm : t.heap.Ns mainGlobals mg) (nb : t.heap.Ns builtinsNs mb) (bb : ∀ x : Str, x ≠ "__name__" → mb x = bootBuiltins x) (nl : t.heap.NoLimit) (gg : t.gens = #[])
    (at_ : t.heap.get? a = some { cls := .type "list", data := .seq vs.toArray }) (its : IntsAre vs ns) (few : ns.length ≤ sizeLine) (room : Room k callerA)
    (F : ∀ base : Heap, K.In base → base.Ns mainGlobals mg → FnG P w K mg base k fa fd [x] sp) (bd : ∀ (s : Shared) (u : Value), BindsTo s fd ⟨[u], []⟩ [(x, u)])
    (hsp : ∀ H : Hp, Only H → SqL K H a (ns.map V.int) → sp [.ref a] H (fun v _ => v = .bl true) fun _ _ _ => False) :
    codeAny (model P w) callerA (.call (.ref fa) ⟨[.ref a], []⟩) (fun r s' => r = .ok (.ret (.bool true)) ∧ OldK t.heap s'.heap ∧ s'.os = t.os ∧ AllBare s'.gens) t := by
  have rel := vals_ints its
  have size := its.length
  -- a heap H of which at most the script is known
  suffices go : ∀ H : Hp, Only H → SqL K H a (ns.map V.int) → HOk P w H t.heap → (∀ b, H b ≠ none → b = a ∧ K.lookup a = none) →
      codeAny (model P w) callerA (.call (.ref fa) ⟨[.ref a], []⟩) (fun r s' => r = .ok (.ret (.bool true)) ∧ OldK t.heap s'.heap ∧ s'.os = t.os ∧ AllBare s'.gens) t by
    cases own : K.lookup a with
    | some o =>
      obtain rfl := Option.some.inj ((kin a o own).symm.trans at_)
      refine go (fun _ => none) (fun _ => Or.inl rfl) (Or.inr ⟨_, vs.toArray, _, own, rfl, rfl, rfl, ?_, ?_⟩) (fun b u z => nomatch z) (fun b z => absurd rfl z)
      · rw [List.size_toArray, size]; exact few
      · simpa using rel
    | none =>
      let one : Hp := fun b => if b = a then some (.frz { cls := .type "list", data := .seq vs.toArray } (.lst (ns.map V.int))) else none
      have here : one a = some (.frz { cls := .type "list", data := .seq vs.toArray } (.lst (ns.map V.int))) := if_pos rfl
      have there : ∀ b, b ≠ a → one b = none := fun b h => if_neg h
      refine go one (fun b => ?_) (Or.inl (Or.inr ⟨_, here⟩)) (fun b u z => ?_) (fun b z => ⟨Classical.byContradiction fun h => z (there b h), own⟩)
      · by_cases h : b = a
        · subst h; exact Or.inr ⟨_, _, here⟩
        · exact Or.inl (there b h)
      · by_cases h : b = a
        · subst h
          cases here.symm.trans z
          exact ⟨at_, by rw [List.length_map]; exact few, vs, _, rel, at_⟩
        · rw [there b h] at z
          cases z
  intro H only hS hok mine
  have free : ∀ {b : Addr} {o : Obj}, t.heap.get? b = some o → (b = a → K.lookup a = none → False) → H b = none := fun {b o} q no => by
    cases e : H b with
    | none => rfl
    | some u =>
      obtain ⟨h1, h2⟩ := mine b (by rw [e]; simp)
      exact (no h1 h2).elim
  have inK : K.In (hidT t.heap H) := fun b o q => hidT_get (kin b o q) (free (kin b o q) fun h1 h2 => by rw [h1, h2] at q; cases q)
  have ns' : ∀ {b : Addr} {m : Str → Option Value}, t.heap.Ns b m → (hidT t.heap H).Ns b m := by
    rintro b m ⟨o, es, ep, q, d, r⟩
    refine ⟨o, es, ep, hidT_get q (free q fun h1 _ => ?_), d, r⟩
    subst h1
    cases at_.symm.trans q
    cases d
  have md : Mod K mg (hidT t.heap H) := by
    obtain ⟨mc, l1, l2⟩ := nl
    exact ⟨inK, ns' nm, ⟨mb, ns' nb, bb⟩, ⟨mc, ns' l1, l2⟩⟩
  have en : Env0 P w K mg (hidT t.heap H) callerA [] t H := ⟨rfl, md, fun b o q => of_hidT q, Nat.le_of_eq (hidT_size _ _), trivial, fun b z => absurd (show b ∈ ([] : List Addr) from z) List.not_mem_nil, hok, .of_eq gg⟩
  have run := (F _ inK (ns' nm)).run callerA [] t H ⟨[.ref a], []⟩ [.ref a] [.ref a] _ _ rfl room en (bd t (.ref a)) (.cons rfl .nil) (hsp H only hS)
  refine codeAny_mono run fun r s' h => ?_
  match r, h with
  | .error e, h => exact h.elim
  | .ok .next, h => exact h.elim
  | .ok .brk, h => exact h.elim
  | .ok .cont, h => exact h.elim
  | .ok (.ret u), ⟨v, H', os, bare, un, hok', rv, q⟩ =>
    obtain rfl : v = .bl true := q
    obtain rfl : u = Value.bool true := rv
    refine ⟨rfl, OldK.of_keep fun b o q => ?_, os, bare⟩
    rcases only b with z | ⟨ob, xs, z⟩
    · exact un.keep b o q z (fun z => absurd (show b ∈ ([] : List Addr) from z) List.not_mem_nil) (by simp)
    · have e1 := (hok b _ z).1
      have e2 := (hok' b _ (un.frzs b ob _ z)).1
      cases q.symm.trans e1
      exact e2
end
theorem walkG {l : PySem.W.OpenLaw} {n k : Nat} {q : Program} {loose : List Str} {XP : (Str → Option Value) → Heap → Prop} {YP : World → Heap → Prop} {d : DefRec} {K : Params → PySem.W.Frag} {sp : World → Sp} {x : Str}
    (hn : l.most = some n) (few : n ≤ sizeLine) (hd : d.params.defaults = []) (room : Room k callerA) (hY : ∀ (w : World) (h : Heap), YP w h → (K w.params).In h)
    (F : ∀ (w : World) (mg : Str → Option Value) (fa : Addr) (h : Heap), (K w.params).In h → h.Ns mainGlobals mg → mg d.name = some (.ref fa) →
      ∃ fd : FuncData, (∀ (s : Shared) (u : Value), BindsTo s fd ⟨[u], []⟩ [(x, u)]) ∧ ∀ base : Heap, (K w.params).In base → base.Ns mainGlobals mg → FnG l.prog w (K w.params) mg base k fa fd [x] (sp w))
    (hsp : ∀ (w : World) (H : Hp) (a : Addr) (ns : List Int), ns.length ≤ n → Only H → SqL (K w.params) H a (ns.map V.int) → sp w [.ref a] H (fun v _ => v = .bl true) fun _ _ _ => False) :
    PySem.W.WalkO q loose XP YP l.row.toRowW d [] (fun f vs => PySem.call f vs) := by
  refine Att.attach_call hn hd ?_
  intro w _ t mg mb fa _ _ _ _ a vs ns G Y _ _ _ named at_ its many gens
  obtain ⟨fd, bd, FF⟩ := F w mg fa _ (hY w _ Y) G.T.g named
  exact law_callG (hY w _ Y) G.T.g G.T.b G.T.builtins G.T.nolimit gens at_ its (Nat.le_trans many few) room FF bd fun H only hS => hsp w H a ns many only hS
section
variable {X : Cx}
theorem call_reprD (gd : X.A.guards = some []) (room : X.A.units + 64 < cLine) : CallR X (.builtin "repr") (fun xs H Q => ∃ a d, xs = [.ref a] ∧ Dp X.K H (.ref a) d ∧ d.showable = true ∧ d.hasDict = false ∧ d.depth ≤ 60 ∧ d.shown.length ≤ 100000 ∧ Q (.str d.shown) H) := by
  intro pins s σ H xs us Q I r h
  obtain ⟨a, d, rfl, hd, hs, nd, dp, sz, q⟩ := h
  obtain ⟨u, rfl, ru⟩ := vals1 r
  obtain rfl : u = Value.ref a := ru
  obtain ⟨as, rd⟩ := Dp.reads I d (.ref a) (.ref a) hd rfl
  exact repr_of_reads' rd hs (fun h => by rw [nd] at h; cases h) gd (by omega) (fun b o h => h) (fun h' z tk kept => ⟨.str d.shown, H, I.kept kept, ⟨z, rfl⟩, q⟩) (sz_of sz)
end
section
variable {X : Cx} {CX : CXT} {k : Nat} {f : Addr} {fd : FuncData} {ps : List Str} {sp : Sp} {E : XK} {dvs : List V} {ds : List Value} {x : Str} {p pos : Pos} {e : Expr} {es : List Expr} {t : TA}
theorem run_fnG {pins : List (Addr × Obj)} {σ : L2.St} {H : Hp} {s : Shared} {Q : VK} {us : List Value} {vs : List V} (F : FnG X.prog X.w X.K X.mg X.base k f fd ps sp) (gd : X.A.guards = some []) (hr : Room k X.A) (hb : Binds X.K fd ps ds) (hd : Vals dvs ds) (hx : Passes CX0 X E)
    (I : Inv X pins σ H s) (r : Vals vs us) (h : sp (vs ++ dvs) H Q E) : wpAny (model X.prog X.w) X.A (call (.ref f) us) (EP X pins σ Q) X.xe s := by
  have r2 : Vals (vs ++ dvs) (us ++ ds) := r.append hd
  have hl : (us ++ ds).length = ps.length := by rw [← r2.length]; exact F.len _ _ _ _ h
  refine wpAny_call (codeAny_mono (F.run X.A X.stack s H ⟨us, []⟩ (us ++ ds) (vs ++ dvs) Q E gd hr I.env0 (hb s us I.kIn hl) r2 h) fun r s' hq => ?_)
  cases r with
  | error e => exact hx pins σ H s e s' I hq
  | ok fl =>
    cases fl with
    | ret u => exact I.after hq
    | next => exact False.elim hq
    | brk => exact False.elim hq
    | cont => exact False.elim hq
theorem pe_callG (F : FnG X.prog X.w X.K X.mg X.base k f fd ps sp) (gd : X.A.guards = some []) (hr : Room k X.A) (hg : Gl X x) (hm : X.mg x = some (.ref f)) (hk : PySem.W.keepIn X.K (.ref f) = true) (hb : Binds X.K fd ps ds) (hd : Vals dvs ds) (hx : Passes CX0 X E)
    (ha : PA X (e :: es) t) (hdb : (x == ("__debug__" : Str)) = false := by decide) (he : starEach (e :: es) X.env = (false, eval e X.env) :: starEach es X.env := by rfl) (hpl : (backTo pos (starEach es X.env)).any (·.1) = false := by rfl) :
    PE X (.Call (.Name x p) (e :: es) [] pos) (tCall sp dvs E t) := by
  refine ⟨fun pins s σ H Q I h => ?_⟩
  refine wpAny_Call_Name_kw (ld_glob I hg hm ?_ hdb)
  refine PySem.W.callWith_K (h₀ := X.base) I.ok.mod.kin hk (thn (ha.run pos pins s σ H _ I h) fun us s1 ⟨vs, H1, I1, r, q⟩ => ⟨I1.kIn, ?_⟩) he hpl
  exact run_fnG F gd hr hb hd hx I1 r q
end
section
variable {X : Cx}
def qRepr (K : PySem.W.Frag) : List V → Hp → VK → Prop := fun xs H Q => ∃ a d, xs = [.ref a] ∧ Dp K H (.ref a) d ∧ d.showable = true ∧ d.hasDict = false ∧ d.depth ≤ 60 ∧ d.shown.length ≤ sizeLine ∧ Q (.str d.shown) H
theorem reprK (K : PySem.W.Frag) (gd : X.A.guards = some []) (room : X.A.units + 64 < cLine) (hK : X.K = K := by rfl) : CallR X (.builtin "repr") (qRepr K) := by
  subst hK
  intro pins s σ H xs us Q I r h
  obtain ⟨a, d, rfl, hd, hs, nd, dp, sz, q⟩ := h
  obtain ⟨u, rfl, ru⟩ := vals1 r
  obtain rfl : u = Value.ref a := ru
  obtain ⟨as, rd⟩ := Dp.reads I d (.ref a) (.ref a) hd rfl
  exact repr_of_reads' rd hs (fun h => by rw [nd] at h; cases h) gd (by omega) (fun b o h => h) (fun h' z tk kept => ⟨.str d.shown, H, I.kept kept, ⟨z, rfl⟩, q⟩) sz
end

/-! ### texts, sign by sign -/
abbrev sg (s : Str) : List Nat := s.cps.toList
theorem str_ext {a b : Str} (h : sg a = sg b) : a = b := by
  cases a; cases b
  exact congrArg Str.mk (Array.ext' h)
theorem sg_app (a b : Str) : sg (a ++ b) = sg a ++ sg b := PySem.W.KAf.app_list a b
theorem sg_len (s : Str) : (sg s).length = s.length := Array.length_toList
theorem len_app (a b : Str) : (a ++ b).length = a.length + b.length := by
  rw [← sg_len, sg_app, List.length_append, sg_len, sg_len]
theorem ends0 (s : Str) (c : Nat) : Txt.endswith (s ++ ⟨#[c]⟩) "0" = decide (c = 48) := by
  have h0 : ("0" : Str).length = 1 := by decide +kernel
  rw [PySem.W.KAf.ends_right (by rw [h0]; show 1 ≤ 1; decide)]
  unfold Txt.endswith
  rw [StrLaws.subAt_eq, h0]
  show (decide (0 + 1 ≤ 1) && ([c].take 1 == ("0" : Str).cps.toList)) = _
  rw [show ("0" : Str).cps.toList = [48] by decide +kernel]
  by_cases h : c = 48
  · subst h; decide
  · rw [decide_eq_false h]
    simp [h]
theorem sg_cutTo (s : Str) (k : Nat) : sg (cutS s none (some (k : Int))) = (sg s).take k := by
  show (List.toArray _).toList = _
  rw [show HT.sIx s.length 0 none = 0 from rfl, HT.sIx_nat, List.drop_zero, Nat.sub_zero]
  have hl : s.cps.toList.length = s.length := Array.length_toList
  have hl2 : (sg s).length = s.length := Array.length_toList
  by_cases h : k ≤ s.length
  · rw [Nat.min_eq_left h]
  · rw [Nat.min_eq_right (by omega), List.take_of_length_le (by omega), List.take_of_length_le (by omega)]
theorem sg_cutFrom1 (s : Str) : sg (cutS s (some 1) none) = (sg s).drop 1 := by
  show (List.toArray _).toList = _
  rw [show HT.sIx s.length 0 (some 1) = min 1 s.length from HT.sIx_nat _ _ 1, show HT.sIx s.length s.length none = s.length from rfl]
  have hl : s.cps.toList.length = s.length := Array.length_toList
  have hl2 : (sg s).length = s.length := Array.length_toList
  by_cases h : 1 ≤ s.length
  · rw [Nat.min_eq_left h, List.take_of_length_le (by rw [List.length_drop]; omega)]
  · rw [Nat.min_eq_right (by omega), List.drop_of_length_le (by omega), List.drop_of_length_le (by omega)]
    simp
/-! ### the kinds of texts and numbers -/
def allIn (t s : Str) : Bool := t.cps.toList.all fun c => decide (c ∈ s.cps.toList)
abbrev sFIG : Str := "0123456789"
abbrev sABC : Str := "abcdefghijklmnopqrstuvwxyz"
def figuresOk (t : Str) : Bool := !decide (t = ("" : Str)) && allIn t sFIG
def lettersOk (s : Str) (most : Int) : Bool := decide (1 ≤ (s.length : Int)) && decide ((s.length : Int) ≤ most) && allIn s sABC
def endedOk (t : Str) : Bool := figuresOk t && !Txt.endswith t "0"
def pointsOk (t : Str) : Bool := decide (t = ("" : Str)) || endedOk t
def makerOk (t : Str) : Bool := lettersOk (cutS t none (some 1)) 1 && endedOk (cutS t (some 1) none)
section
variable {P : Program} {w : World} {K : PySem.W.Frag} {mg : Str → Option Value} {base : Heap} {Z : Adr}
def spNum (K : PySem.W.Frag) : Sp := fun vs H Q _ => ∃ x, vs = [x] ∧ KnI K H x ∧ RetV (.bl (isI x && !isB x)) H Q
theorem ok_is_number (T : Txt K mg Z) : FnOk P w K mg base CX0 1 Z.a_is_number Z.d_is_number ["thing"] (spNum K) := by
  refine T.F_is_number.ok sc_is_number (fun vs H Q E h => ?_) (fun cdv A outer s H vs Q E hr h => ?_)
  · obtain ⟨x, rfl, _⟩ := h; rfl
  · obtain ⟨x, rfl, ⟨t, ht, hb, hi'⟩, k⟩ := h
    refine ⟨_, (pss_one (ps_ret (pe_and (pe_callB (isiK K) (by rfl) T.n_isinstance (by decide +kernel) (pa_cons (pv 0) (pa_cons (pe_bltn (v := .ty "int") (by rfl) T.n_int (by decide +kernel) rfl) pa_nil))) (pe_one (pe_not (pe_callB (isiK K) (by rfl) T.n_isinstance (by decide +kernel) (pa_cons (pv 0) (pa_cons (pe_bltn (v := .ty "bool") (by rfl) T.n_bool (by decide +kernel) rfl) pa_nil)))))))), ?_⟩
    exact s_ret (ev_andV (ev_isi (ev_var rfl) ev_c (.ty _) (fun _ e => tyx_ex ht e) hi') fun _ => ev_notV (ev_isi (ev_var rfl) ev_c (.ty _) (fun _ e => tyx_ex ht e) hb)) k
theorem num_int {x : V} (h : (isI x && !isB x) = true) : ∃ i, x = .int i := by
  cases x <;> first | exact ⟨_, rfl⟩ | exact Bool.noConfusion h
theorem sp_num {x : V} {H : Hp} (hx : KnI K H x) : SpV (spNum K) [x] H (.bl (isI x && !isB x)) := fun H1 e Q q E => ⟨x, rfl, kni_ex hx e, q⟩
theorem rv_isN {x : V} {H : Hp} : RV (fun x y H Q => y = .non ∧ Q (.bl (decide (x = .non))) H) x .non H (.bl (decide (x = .non))) := fun H1 e Q q => ⟨rfl, q H1 (Ex.refl _)⟩
def spWhole (K : PySem.W.Frag) : Sp := fun vs H Q _ => ∃ x lo hi, vs = [x, .int lo, oi hi] ∧ KnI K H x ∧ RetV (.bl (whole x lo hi)) H Q
theorem ok_is_whole (T : Txt K mg Z) : FnOk P w K mg base CX0 2 Z.a_is_whole Z.d_is_whole ["thing", "low", "high"] (spWhole K) := by
  refine T.F_is_whole.ok sc_is_whole (fun vs H Q E h => ?_) (fun cdv A outer s H vs Q E hr h => ?_)
  · obtain ⟨x, lo, hi, rfl, _⟩ := h; rfl
  · obtain ⟨x, lo, hi, rfl, hx, k⟩ := h
    refine ⟨_, (pss_one (ps_ret (pe_and (pe_call (ok_is_number T) (hr.mono (by decide)) rfl T.g_is_number T.F_is_number.kp T.b_is_number .nil pass0 (pa_cons (pv 0) pa_nil)) (pe_and (pe_cmpR op_le (pv 1) (pv 0) (nomark _)) (pe_one (pe_or (pe_cmpR op_isNq (pv 2) pe_non (nomark _)) (pe_one (pe_cmpR op_le (pv 0) (pv 2) (nomark _))))))))), ?_⟩
    cases hn : (isI x && !isB x) with
    | false =>
      have : whole x lo hi = false := by cases x <;> first | rfl | cases hn
      rw [this] at k
      exact s_ret (v := .bl false) (ev_is (ev_andV (a := false) (b := true) (ev_is (ev_call (ea_cons (ev_var rfl) ea_nil) (sp_num hx)) (by rw [hn])) (fun z => nomatch z)) rfl) k
    | true =>
      obtain ⟨i, rfl⟩ := num_int hn
      cases hi with
      | none => exact s_ret (v := .bl (whole (.int i) lo none)) (ev_is (ev_andV (a := true) (ev_is (ev_call (ea_cons (ev_var rfl) ea_nil) (sp_num hx)) (by rw [hn])) (fun _ => ev_andV (ev_op (ev_var rfl) (ev_var rfl) rv_I0) fun _ => ev_orV (a := true) (b := true) (ev_op (ev_var rfl) ev_c rv_isN) (fun z => nomatch z))) rfl) k
      | some h => exact s_ret (v := .bl (whole (.int i) lo (some h))) (ev_is (ev_andV (a := true) (ev_is (ev_call (ea_cons (ev_var rfl) ea_nil) (sp_num hx)) (by rw [hn])) (fun _ => ev_andV (ev_op (ev_var rfl) (ev_var rfl) rv_I0) fun _ => ev_orV (a := false) (ev_op (ev_var rfl) ev_c rv_isN) (fun _ => ev_op (ev_var rfl) (ev_var rfl) rv_I0))) rfl) k
theorem sp_whole {x : V} {lo : Int} {hi : Option Int} {H : Hp} (hx : KnI K H x) : SpV (spWhole K) [x, .int lo, oi hi] H (.bl (whole x lo hi)) := fun H1 e Q q E => ⟨x, lo, hi, rfl, kni_ex hx e, q⟩
theorem asc_dig : ∀ c, c < 128 → Unicode.isDigit c = decide (c ∈ sg sFIG) := by decide +kernel
theorem asc_alp : ∀ c, c < 128 → (Unicode.isAlpha c && !(Unicode.isUpper c || Unicode.isTitle c)) = decide (c ∈ sg sABC) := by decide +kernel
theorem asc_low : ∀ c, c < 128 → c ∈ sg sABC → Unicode.isLower c = true := by decide +kernel
theorem asc_abc : ∀ c ∈ sg sABC, c < 128 := by decide +kernel
theorem asc_fig : ∀ c ∈ sg sFIG, c < 128 := by decide +kernel
theorem tx_all {t : Str} {p : Nat → Bool} : t.cps.all p = (sg t).all p := Array.all_toList.symm
theorem tx_any {t : Str} {p : Nat → Bool} : t.cps.any p = (sg t).any p := Array.any_toList.symm
theorem ne_empty {t : Str} : (t = ("" : Str)) ↔ t.length = 0 := by
  constructor
  · intro h; rw [h]; decide +kernel
  · intro h
    refine str_ext ?_
    rw [show sg ("" : Str) = [] by decide +kernel]
    exact List.eq_nil_of_length_eq_zero (by rw [sg_len]; exact h)
theorem fig_eq (t : Str) : (Txt.isascii t && Txt.isdigit t) = figuresOk t := by
  unfold Txt.isascii Txt.isdigit figuresOk allIn
  rw [tx_all, tx_all, Bool.eq_iff_iff]
  simp only [Bool.and_eq_true, List.all_eq_true, decide_eq_true_eq, Bool.not_eq_true', decide_eq_false_iff_not, ne_empty]
  constructor
  · rintro ⟨h1, h2, h3⟩
    exact ⟨by omega, fun c hc => by have := asc_dig c (h1 c hc); rw [h3 c hc] at this; exact of_decide_eq_true this.symm⟩
  · rintro ⟨h1, h2⟩
    exact ⟨fun c hc => asc_fig c (h2 c hc), by omega, fun c hc => by rw [asc_dig c (asc_fig c (h2 c hc))]; exact decide_eq_true (h2 c hc)⟩
theorem let_eq (t : Str) (most : Int) : (decide ((t.length : Int) ≤ most) && (Txt.isascii t && (Txt.isalpha t && Txt.islower t))) = lettersOk t most := by
  unfold Txt.isascii Txt.isalpha Txt.islower lettersOk allIn
  rw [tx_all, tx_all, tx_any, tx_any, Bool.eq_iff_iff]
  simp only [Bool.and_eq_true, List.all_eq_true, List.any_eq_true, decide_eq_true_eq, Bool.not_eq_true', List.any_eq_false]
  have key : ∀ c, c < 128 → Unicode.isAlpha c = true → (¬ (Unicode.isUpper c || Unicode.isTitle c) = true ↔ c ∈ sg sABC) := fun c h1 h2 => by
    have := asc_alp c h1
    rw [h2, Bool.true_and] at this
    constructor
    · intro h
      rw [Bool.not_eq_true] at h
      rw [h] at this
      exact of_decide_eq_true this.symm
    · intro h h'
      rw [h', decide_eq_true h] at this
      cases this
  have alp : ∀ c ∈ sg sABC, Unicode.isAlpha c = true := fun c hc => by
    have := asc_alp c (asc_abc c hc)
    rw [decide_eq_true hc, Bool.and_eq_true] at this
    exact this.1
  constructor
  · rintro ⟨h0, h1, ⟨h2, h3⟩, _, h5⟩
    exact ⟨⟨by omega, h0⟩, fun c hc => (key c (h1 c hc) (h3 c hc)).mp (h5 c hc)⟩
  · rintro ⟨⟨h1, h0⟩, h2⟩
    have hne : 0 < (sg t).length := by rw [sg_len]; omega
    have m0 := List.getElem_mem hne
    exact ⟨h0, fun c hc => asc_abc c (h2 c hc), ⟨by omega, fun c hc => alp c (h2 c hc)⟩, ⟨_, m0, asc_low _ (asc_abc _ (h2 _ m0)) (h2 _ m0)⟩, fun c hc => (key c (asc_abc c (h2 c hc)) (alp c (h2 c hc))).mpr (h2 c hc)⟩
theorem ev_m0 {σ : L2.St} {H : Hp} {ta : TE} {r : V → List V → Hp → VK → Prop} {s : Str} {z : V} (ha : Ev ta σ H (.str s)) (hr : ∀ H1, Ex H H1 → ∀ Q : VK, (∀ H2, Ex H1 H2 → Q z H2) → r (.str s) [] H1 Q) : Ev (tM0 r ta) σ H z := fun H1 e Q q =>
  ha H1 e _ fun H2 e2 => ⟨⟨s, rfl⟩, hr H2 (e.trans e2) Q fun H3 e3 => q H3 (e2.trans e3)⟩
def qTxt (g : Str → Bool) : V → List V → Hp → VK → Prop := fun x xs H Q => ∃ a, x = .str a ∧ xs = [] ∧ True ∧ Q (.bl (g a)) H
theorem mt_isasciiQ {X : Cx} : MtR X "str.isascii" (qTxt Txt.isascii) := mt_isascii
theorem mt_isdigitQ {X : Cx} : MtR X "str.isdigit" (qTxt Txt.isdigit) := mt_isdigit
theorem mt_isalphaQ {X : Cx} : MtR X "str.isalpha" (qTxt Txt.isalpha) := mt_isalpha
theorem mt_islowerQ {X : Cx} : MtR X "str.islower" (qTxt Txt.islower) := mt_islower
theorem ev_txt {σ : L2.St} {H : Hp} {ta : TE} {g : Str → Bool} {s : Str} (ha : Ev ta σ H (.str s)) : Ev (tM0 (qTxt g) ta) σ H (.bl (g s)) :=
  ev_m0 ha fun H1 e Q q => ⟨s, rfl, rfl, trivial, q H1 (Ex.refl _)⟩
def spFig : Sp := fun vs H Q _ => ∃ t, vs = [.str t] ∧ t.length ≤ 90000 ∧ RetV (.bl (figuresOk t)) H Q
theorem ok_is_figures (T : Txt K mg Z) : FnOk P w K mg base CX0 1 Z.a_is_figures Z.d_is_figures ["text"] spFig := by
  refine T.F_is_figures.ok sc_is_figures (fun vs H Q E h => ?_) (fun cdv A outer s H vs Q E hr h => ?_)
  · obtain ⟨t, rfl, _⟩ := h; rfl
  · obtain ⟨t, rfl, hz, k⟩ := h
    refine ⟨_, (pss_one (ps_ret (pe_and (pe_m0 PySem.F.slot_str_isascii PySem.F.type_str_isascii mt_isasciiQ (pv 0)) (pe_one (pe_m0 PySem.F.slot_str_isdigit PySem.F.type_str_isdigit mt_isdigitQ (pv 0)))))), ?_⟩
    exact s_ret (ev_is (ev_andV (ev_txt (g := Txt.isascii) (ev_var rfl)) (fun _ => ev_txt (g := Txt.isdigit) (ev_var rfl))) (by rw [fig_eq])) k
theorem sp_fig {t : Str} {H : Hp} (hz : t.length ≤ 90000) : SpV spFig [.str t] H (.bl (figuresOk t)) := fun H1 e Q q E => ⟨t, rfl, hz, q⟩
/-- what holds of texts alone -/
def onS (f : Str → Bool) : V → Bool | .str t => f t | _ => false
def SzV (x : V) : Prop := ∀ t, x = .str t → t.length ≤ 90000
theorem onS_no {f : Str → Bool} {x : V} (h : isS x = false) : onS f x = false := by cases x <;> first | rfl | cases h
theorem isS_str {x : V} (h : isS x = true) : ∃ t, x = .str t := by cases x <;> first | exact ⟨_, rfl⟩ | cases h
theorem sz_str {t : Str} (hz : t.length ≤ 90000) : SzV (.str t) := fun u e => by cases e; exact hz
/-- isinstance(x, str) and what holds of texts -/
theorem ev_onS {σ : L2.St} {H : Hp} {ta tb tc : TE} {f : Str → Bool} {x : V} (ha : Ev ta σ H x) (hb : Ev tb σ H (.ty "str")) (hx : KnS K H x) (hc : ∀ t, x = .str t → Ev tc σ H (.bl (f t))) : Ev (tAndV (tCB (rIsi K) (tCons ta (tCons tb tNil))) tc) σ H (.bl (onS f x)) := by
  obtain ⟨t, h1, h2⟩ := hx
  cases h : isS x with
  | false => exact ev_is (ev_andV (a := false) (b := true) (ev_isi ha hb (.ty _) (fun _ e => tyx_ex h1 e) (by rw [h2, h])) (fun z => nomatch z)) (by rw [onS_no h]; rfl)
  | true =>
    obtain ⟨u, rfl⟩ := isS_str h
    exact ev_is (ev_andV (a := true) (ev_isi ha hb (.ty _) (fun _ e => tyx_ex h1 e) h2) (fun _ => hc u rfl)) rfl
def spLetters (K : PySem.W.Frag) : Sp := fun vs H Q _ => ∃ x most, vs = [x, .int most] ∧ KnS K H x ∧ SzV x ∧ RetV (.bl (onS (fun t => lettersOk t most) x)) H Q
theorem ok_is_letters (T : Txt K mg Z) : FnOk P w K mg base CX0 1 Z.a_is_letters Z.d_is_letters ["thing", "most"] (spLetters K) := by
  refine T.F_is_letters.ok sc_is_letters (fun vs H Q E h => ?_) (fun cdv A outer s H vs Q E hr h => ?_)
  · obtain ⟨t, most, rfl, _⟩ := h; rfl
  · obtain ⟨x, most, rfl, hx, hz, k⟩ := h
    refine ⟨_, (pss_one (ps_ret (pe_and (pe_callB (isiK K) (by rfl) T.n_isinstance (by decide +kernel) (pa_cons (pv 0) (pa_cons (pe_bltn (v := .ty "str") (by rfl) T.n_str (by decide +kernel) rfl) pa_nil))) (pe_and (pe_cmpR op_le (pe_callB (call_lenS) (by rfl) T.n_len (by decide +kernel) (pa_cons (pv 0) pa_nil)) (pv 1) (nomark _)) (pe_and (pe_m0 PySem.F.slot_str_isascii PySem.F.type_str_isascii mt_isasciiQ (pv 0)) (pe_and (pe_m0 PySem.F.slot_str_isalpha PySem.F.type_str_isalpha mt_isalphaQ (pv 0)) (pe_one (pe_m0 PySem.F.slot_str_islower PySem.F.type_str_islower mt_islowerQ (pv 0))))))))), ?_⟩
    refine s_ret (ev_onS (f := fun t => lettersOk t most) (ev_var rfl) ev_c hx fun t e => ?_) k
    subst e
    have := hz _ rfl
    exact ev_is (ev_andV (ev_op (ev_lenS (ev_var rfl) (by omega)) (ev_var rfl) rv_I0) (fun _ => ev_andV (ev_txt (g := Txt.isascii) (ev_var rfl)) (fun _ => ev_andV (ev_txt (g := Txt.isalpha) (ev_var rfl)) (fun _ => ev_txt (g := Txt.islower) (ev_var rfl))))) (by rw [let_eq])
theorem sp_lettersV {x : V} {most : Int} {H : Hp} (hx : KnS K H x) (hz : SzV x) : SpV (spLetters K) [x, .int most] H (.bl (onS (fun t => lettersOk t most) x)) := fun H1 e Q q E => ⟨x, most, rfl, kns_ex hx e, hz, q⟩
theorem sp_letters {t : Str} {most : Int} {H : Hp} (hz : t.length ≤ 90000) : SpV (spLetters K) [.str t, .int most] H (.bl (lettersOk t most)) := sp_lettersV kns_str (sz_str hz)
theorem cutS_len (z : Str) (lo hi : Option Int) : (cutS z lo hi).length ≤ z.length := by
  show (List.toArray _).size ≤ z.cps.size
  rw [List.size_toArray, List.length_take, List.length_drop, Array.length_toList]
  omega
theorem fig_ne {t : Str} (h : figuresOk t = true) : 1 ≤ t.length := by
  unfold figuresOk at h
  rw [Bool.and_eq_true, Bool.not_eq_true', decide_eq_false_iff_not, ne_empty] at h
  omega
theorem last_of {t : Str} (h : 1 ≤ t.length) : ∃ c, atI (sg t) (-1) = some c ∧ (decide ((⟨#[c]⟩ : Str) = "0")) = Txt.endswith t "0" := by
  have hne : sg t ≠ [] := fun e => by rw [← sg_len, e] at h; simp at h
  have e := List.dropLast_concat_getLast hne
  refine ⟨(sg t).getLast hne, ?_, ?_⟩
  · unfold atI ixN
    rw [if_neg (by omega), if_pos (by rw [sg_len]; omega)]
    show (sg t)[_]? = _
    rw [List.getElem?_eq_getElem (by rw [sg_len]; omega), List.getLast_eq_getElem]
    congr 2
    rw [sg_len]; omega
  · have h2 : t = (⟨(sg t).dropLast.toArray⟩ : Str) ++ ⟨#[(sg t).getLast hne]⟩ := str_ext (by rw [sg_app]; exact e.symm)
    generalize (sg t).getLast hne = c at h2
    rw [h2, ends0]
    by_cases h : c = 48
    · subst h; decide +kernel
    · rw [decide_eq_false h, decide_eq_false]
      intro z
      have := congrArg sg z
      rw [show sg ("0" : Str) = [48] by decide +kernel] at this
      exact h (List.cons.inj this).1
theorem ev_ixS {σ : L2.St} {H : Hp} {ta tb : TE} {t : Str} {i : Int} {c : Nat} (ha : Ev ta σ H (.str t)) (hb : Ev tb σ H (.int i)) (hz : t.length ≤ 100000) (hc : atI (sg t) i = some c) : Ev (tOp rIxS ta tb) σ H (.str ⟨#[c]⟩) :=
  ev_op ha hb fun H1 e Q q => ⟨t, i, c, rfl, rfl, sz_of hz, hc, q H1 (Ex.refl _)⟩
def spEnded : Sp := fun vs H Q _ => ∃ t, vs = [.str t] ∧ t.length ≤ 90000 ∧ RetV (.bl (endedOk t)) H Q
theorem ok_is_ended (T : Txt K mg Z) : FnOk P w K mg base CX0 2 Z.a_is_ended Z.d_is_ended ["text"] spEnded := by
  refine T.F_is_ended.ok sc_is_ended (fun vs H Q E h => ?_) (fun cdv A outer s H vs Q E hr h => ?_)
  · obtain ⟨t, rfl, _⟩ := h; rfl
  · obtain ⟨t, rfl, hz, k⟩ := h
    refine ⟨_, (pss_one (ps_ret (pe_and (pe_call (ok_is_figures T) (hr.mono (by decide)) rfl T.g_is_figures T.F_is_figures.kp T.b_is_figures .nil pass0 (pa_cons (pv 0) pa_nil)) (pe_one (pe_cmpR op_ne (pe_ix ix_str (pv 0) (pe_un un_neg pe_int) (fun _ _ => rfl)) pe_str (nomark _)))))), ?_⟩
    cases hf : figuresOk t with
    | false =>
      have : endedOk t = false := by unfold endedOk; rw [hf]; rfl
      rw [this] at k
      exact s_ret (ev_is (ev_andV (a := false) (b := true) (ev_is (ev_call (ea_cons (ev_var rfl) ea_nil) (sp_fig hz)) (by rw [hf])) (fun z => nomatch z)) rfl) k
    | true =>
      obtain ⟨c, h1, h2⟩ := last_of (fig_ne hf)
      have : endedOk t = (true && !decide ((⟨#[c]⟩ : Str) = "0")) := by unfold endedOk; rw [hf, h2]
      rw [this] at k
      exact s_ret (ev_andV (a := true) (ev_is (ev_call (ea_cons (ev_var rfl) ea_nil) (sp_fig hz)) (by rw [hf])) fun _ => ev_op (ev_ixS (i := -1) (ev_var rfl) (ev_un (x := .int 1) ev_c (fun H1 e Q q => ⟨_, rfl, q H1 (Ex.refl _)⟩)) (by omega) h1) ev_c rv_neS) k
theorem sp_ended {t : Str} {H : Hp} (hz : t.length ≤ 90000) : SpV spEnded [.str t] H (.bl (endedOk t)) := fun H1 e Q q E => ⟨t, rfl, hz, q⟩
def spPoints (K : PySem.W.Frag) : Sp := fun vs H Q _ => ∃ x, vs = [x] ∧ KnS K H x ∧ SzV x ∧ RetV (.bl (onS pointsOk x)) H Q
theorem ok_is_points (T : Txt K mg Z) : FnOk P w K mg base CX0 3 Z.a_is_points Z.d_is_points ["thing"] (spPoints K) := by
  refine T.F_is_points.ok sc_is_points (fun vs H Q E h => ?_) (fun cdv A outer s H vs Q E hr h => ?_)
  · obtain ⟨t, rfl, _⟩ := h; rfl
  · obtain ⟨x, rfl, hx, hz, k⟩ := h
    refine ⟨_, (pss_one (ps_ret (pe_and (pe_callB (isiK K) (by rfl) T.n_isinstance (by decide +kernel) (pa_cons (pv 0) (pa_cons (pe_bltn (v := .ty "str") (by rfl) T.n_str (by decide +kernel) rfl) pa_nil))) (pe_one (pe_or (pe_cmpR op_eq (pv 0) pe_str (nomark _)) (pe_one (pe_call (ok_is_ended T) (hr.mono (by decide)) rfl T.g_is_ended T.F_is_ended.kp T.b_is_ended .nil pass0 (pa_cons (pv 0) pa_nil)))))))), ?_⟩
    refine s_ret (ev_onS (f := pointsOk) (ev_var rfl) ev_c hx fun t e => ?_) k
    subst e
    exact ev_orV (ev_op (ev_var rfl) ev_c rv_eqS) (fun _ => ev_call (ea_cons (ev_var rfl) ea_nil) (sp_ended (hz _ rfl)))
theorem sp_pointsV {x : V} {H : Hp} (hx : KnS K H x) (hz : SzV x) : SpV (spPoints K) [x] H (.bl (onS pointsOk x)) := fun H1 e Q q E => ⟨x, rfl, kns_ex hx e, hz, q⟩
theorem sp_points {t : Str} {H : Hp} (hz : t.length ≤ 90000) : SpV (spPoints K) [.str t] H (.bl (pointsOk t)) := sp_pointsV kns_str (sz_str hz)
theorem maker_eq1 {t : Str} (h : t.length ≤ 1) : makerOk t = false := by
  have e : (cutS t (some 1) none) = ("" : Str) := ne_empty.mpr (by rw [← sg_len, sg_cutFrom1, List.length_drop, sg_len]; omega)
  unfold makerOk
  rw [e, show endedOk ("" : Str) = false by decide +kernel, Bool.and_false]
theorem maker_eq2 {t : Str} {c : Nat} (h : (sg t)[0]? = some c) : makerOk t = (decide (c ∈ sg sABC) && endedOk (cutS t (some 1) none)) := by
  have e : sg (cutS t none (some 1)) = [c] := by
    rw [show (1 : Int) = ((1 : Nat) : Int) from rfl, sg_cutTo]
    cases hs : sg t with
    | nil => rw [hs] at h; cases h
    | cons a l => rw [hs] at h; cases h; rfl
  have e2 : cutS t none (some 1) = (⟨#[c]⟩ : Str) := str_ext e
  unfold makerOk
  congr 1
  rw [e2]
  unfold lettersOk allIn
  show (decide ((1 : Int) ≤ 1) && decide ((1 : Int) ≤ 1) && ([c].all fun c => decide (c ∈ sABC.cps.toList))) = _
  simp
def spMaker (K : PySem.W.Frag) : Sp := fun vs H Q _ => ∃ x, vs = [x] ∧ KnS K H x ∧ SzV x ∧ RetV (.bl (onS makerOk x)) H Q
theorem ok_is_maker (T : Txt K mg Z) : FnOk P w K mg base CX0 3 Z.a_is_maker Z.d_is_maker ["thing"] (spMaker K) := by
  refine T.F_is_maker.ok sc_is_maker (fun vs H Q E h => ?_) (fun cdv A outer s H vs Q E hr h => ?_)
  · obtain ⟨t, rfl, _⟩ := h; rfl
  · obtain ⟨x, rfl, hx, hz, k⟩ := h
    refine ⟨_, (pss_one (ps_ret (pe_and (pe_callB (isiK K) (by rfl) T.n_isinstance (by decide +kernel) (pa_cons (pv 0) (pa_cons (pe_bltn (v := .ty "str") (by rfl) T.n_str (by decide +kernel) rfl) pa_nil))) (pe_and (pe_cmpR op_gt (pe_callB (call_lenS) (by rfl) T.n_len (by decide +kernel) (pa_cons (pv 0) pa_nil)) pe_int (nomark _)) (pe_and (pe_cmpR op_inq (pe_ix ix_str (pv 0) pe_int (fun _ _ => rfl)) (pe_gs rfl T.c_SMALL) (by rfl)) (pe_one (pe_call (ok_is_ended T) (hr.mono (by decide)) rfl T.g_is_ended T.F_is_ended.kp T.b_is_ended .nil pass0 (pa_cons (pe_slice sl_str (pv 0) (po_some pe_int) po_none) pa_nil)))))))), ?_⟩
    refine s_ret (ev_onS (f := makerOk) (ev_var rfl) ev_c hx fun t e => ?_) k
    subst e
    have hz := hz _ rfl
    have l2 := cutS_len t (some 1) none
    by_cases hl : t.length ≤ 1
    · exact ev_is (ev_andV (a := false) (b := true) (ev_is (ev_op (ev_lenS (ev_var rfl) (by omega)) ev_c rv_I0) (by rw [decide_eq_false (by omega)])) (fun z => nomatch z)) (by rw [maker_eq1 hl]; rfl)
    · have hlt : 0 < (sg t).length := by rw [sg_len]; omega
      have h0 := List.getElem?_eq_getElem hlt
      have h1 : atI (sg t) 0 = some (sg t)[0] := by unfold atI ixN; rw [if_pos (Int.le_refl 0), if_pos (by omega)]; exact h0
      rw [maker_eq2 h0]
      refine ev_is (ev_andV (a := true) (ev_is (ev_op (ev_lenS (ev_var rfl) (by omega)) ev_c rv_I0) (by rw [decide_eq_true (by omega)])) (fun _ => ev_andV (ev_op (ev_ixS (ev_var rfl) ev_c (by omega) h1) ev_c (z := .bl (decide ((sg t)[0] ∈ sg sABC))) (fun H1 e Q q => ⟨_, _, rfl, rfl, q H1 (Ex.refl _)⟩)) (fun _ => ev_call (ea_cons (ev_slS (ev_var rfl) (eo_some ev_c) eo_none (by omega)) ea_nil) (sp_ended (by omega))))) rfl
theorem sp_makerV {x : V} {H : Hp} (hx : KnS K H x) (hz : SzV x) : SpV (spMaker K) [x] H (.bl (onS makerOk x)) := fun H1 e Q q E => ⟨x, rfl, kns_ex hx e, hz, q⟩
theorem sp_maker {t : Str} {H : Hp} (hz : t.length ≤ 90000) : SpV (spMaker K) [.str t] H (.bl (makerOk t)) := sp_makerV kns_str (sz_str hz)
end

/-! ### marks -/
structure MK where
  lt : Str
  num : Int
  pts : Str
  mks : List Str
  yr : Option Int
  cp : Option Int
structure MK.Ok (m : MK) : Prop where
  l : lettersOk m.lt 3 = true
  n : 1 ≤ m.num ∧ m.num ≤ 9999
  p : pointsOk m.pts = true
  pz : m.pts.length ≤ 1000
  k : m.mks.length ≤ 3
  ks : ∀ s ∈ m.mks, makerOk s = true ∧ s.length ≤ 1000
  y : ∀ y, m.yr = some y → 1000 ≤ y ∧ y ≤ 2999
  c : ∀ c, m.cp = some c → 2 ≤ c ∧ c.natAbs.log2 < 1920
def MK.head (m : MK) : Str := (if m.pts = ("" : Str) then [m.lt, (toString m.num : String)] else [m.lt, (toString m.num : String), ".", m.pts]).foldl (· ++ ·) Str.empty
def MK.words (m : MK) : List Str := (m.head :: m.mks) ++ (match m.yr with | none => [] | some y => [(toString y : String)]) ++ (match m.cp with | none => [] | some c => [([("c." : Str), ((toString c : String) : Str)]).foldl (· ++ ·) Str.empty])
def MK.text (m : MK) : Str := Txt.join " " m.words
def MK.tup (m : MK) (ma : Addr) : List V := [.str m.lt, .int m.num, .str m.pts, .ref ma, oi m.yr, oi m.cp]
theorem log2_small {a : Int} (h : 0 ≤ a ∧ a ≤ 9999) : a.natAbs.log2 < 1920 := by
  have h1 : a.natAbs < 2 ^ 14 := by omega
  exact Nat.lt_of_lt_of_le (PySem.Flt.log2_lt_of (by decide) h1) (by decide)
section
variable {P : Program} {w : World} {K : PySem.W.Frag} {mg : Str → Option Value} {base : Heap} {Z : Adr}
theorem letters_len {s : Str} {n : Int} (h : lettersOk s n = true) : (s.length : Int) ≤ n := by
  unfold lettersOk at h
  rw [Bool.and_eq_true, Bool.and_eq_true] at h
  exact of_decide_eq_true h.1.2
theorem fold_len (ss : List Str) : ∀ acc : Str, (ss.foldl (· ++ ·) acc).length = acc.length + (ss.map (·.length)).sum := by
  induction ss with
  | nil => intro acc; show acc.length = acc.length + 0; rw [Nat.add_zero]
  | cons s ss ih =>
    intro acc
    rw [List.foldl_cons, ih, List.map_cons, List.sum_cons]
    have hl : (acc ++ s).length = acc.length + s.length := by
      show (acc.cps ++ s.cps).size = _
      rw [Array.size_append]
      rfl
    rw [hl, Nat.add_assoc]
theorem head_len {m : MK} (ok : m.Ok) : m.head.length ≤ 5000 := by
  have h1 := letters_len ok.l
  have h2 := int_len (log2_small ⟨by have := ok.n; omega, ok.n.2⟩ : m.num.natAbs.log2 < 1920)
  have h3 := ok.pz
  have h0 : (Str.empty).length = 0 := rfl
  have hp : (("." : Str)).length = 1 := by decide +kernel
  unfold MK.head
  rw [fold_len, h0]
  by_cases e : m.pts = ("" : Str)
  · rw [if_pos e]
    simp only [List.map_cons, List.map_nil, List.sum_cons, List.sum_nil]
    omega
  · rw [if_neg e]
    simp only [List.map_cons, List.map_nil, List.sum_cons, List.sum_nil, hp]
    omega
def spTextOf (K : PySem.W.Frag) : Sp := fun vs H Q _ => ∃ (pa ma : Addr) (m : MK), vs = [.ref pa] ∧ SqT K H pa (m.tup ma) ∧ SqT K H ma (m.mks.map V.str) ∧ m.Ok ∧ RetV (.str m.text) H Q
theorem ok_text_of (T : Txt K mg Z) : FnOk P w K mg base CX0 1 Z.a_text_of Z.d_text_of ["parts"] (spTextOf K) := by
  refine T.F_text_of.ok sc_text_of (fun vs H Q E h => ?_) (fun cdv A outer s H vs Q E hr h => ?_)
  · obtain ⟨_, _, _, rfl, _⟩ := h; rfl
  · obtain ⟨pa, ma, m, rfl, hpa, hma, ok, k⟩ := h
    refine ⟨_, (pss_cons (ps_asg (pv 0) (pg_tup rfl (pgs_cons (pg_name (i := 1) sc_text_of.nd rfl (.inl rfl)) (pgs_cons (pg_name (i := 2) sc_text_of.nd rfl (.inl rfl)) (pgs_cons (pg_name (i := 3) sc_text_of.nd rfl (.inl rfl)) (pgs_cons (pg_name (i := 4) sc_text_of.nd rfl (.inl rfl)) (pgs_cons (pg_name (i := 5) sc_text_of.nd rfl (.inl rfl)) (pgs_cons (pg_name (i := 6) sc_text_of.nd rfl (.inl rfl)) pgs_nil))))))))
      (pss_cons (ps_set (i := 7) sc_text_of.nd rfl (.inl rfl) (pe_ifExp (pt_truthq (pv 3) (by intro _; rfl)) (pe_joinedq (.cons (pe_fmt (pv 1)) (.cons (pe_fmt (pv 2)) (.cons pe_str (.cons (pe_fmt (pv 3)) .nil))))) (pe_joinedq (.cons (pe_fmt (pv 1)) (.cons (pe_fmt (pv 2)) .nil)))))
      (pss_cons (ps_set (i := 8) sc_text_of.nd rfl (.inl rfl) (peM (pe_lst (pa_cons (pv 7) (starK K (pv 4) pa_nil)))))
      (pss_cons (ps_if (pt_cmpR op_notNq (pv 5) pe_non (nomark _)) (pss_one (ps_expr (bmK K PySem.F.plainAttrs_list PySem.F.slot_list_append PySem.F.type_list_append mt_append (pv 8) (pa_cons (pe_callTy (call_strI) (by rfl) T.n_str (by decide +kernel) (pa_cons (pv 5) pa_nil)) pa_nil)))) pss_nil)
      (pss_cons (ps_if (pt_cmpR op_notNq (pv 6) pe_non (nomark _)) (pss_one (ps_expr (bmK K PySem.F.plainAttrs_list PySem.F.slot_list_append PySem.F.type_list_append mt_append (pv 8) (pa_cons (pe_joinedq (.cons pe_str (.cons (pe_fmt (pv 6)) .nil))) pa_nil)))) pss_nil)
      (pss_one (ps_ret (joinK K pe_str (pv 8))))))))), ?_⟩
    refine ⟨_, rfl, pa, _, rfl, hpa, rfl, _, _, rfl, _, _, rfl, _, _, rfl, _, _, rfl, _, _, rfl, _, _, rfl, rfl, ?_⟩
    have h1 := letters_len ok.l
    have hn := (log2_small ⟨by have := ok.n; omega, ok.n.2⟩ : m.num.natAbs.log2 < 1920)
    have h2 := int_len hn
    have h3 := ok.pz
    have hp : (("." : Str)).length = 1 := by decide +kernel
    have hcl : (("c." : Str)).length = 2 := by decide +kernel
    have hhl := head_len ok
    have e0 : m.pts = ("" : Str) ↔ ((m.pts.length : Int) != 0) = false := by
      constructor
      · intro e; rw [e]; decide +kernel
      · intro e
        have hz : m.pts.cps.size = 0 := by
          have : (m.pts.length : Int) = 0 := by simpa using e
          have h' : (m.pts.cps.size : Int) = 0 := this
          omega
        have hq : m.pts.cps = #[] := Array.eq_empty_of_size_eq_zero hz
        have : m.pts = ⟨#[]⟩ := by cases hm : m.pts with | mk c => rw [hm] at hq; exact congrArg Str.mk hq
        rw [this]
        decide +kernel
    dsimp only
    refine q_asg (v := .str m.head) ?_ fun H1 e1 => ?_
    refine ev_if (b := ((m.pts.length : Int) != 0)) ?_ (fun hb => ?_) (fun hb => ?_)
    · refine et_truth (K := K) (x := .str m.pts) ?_ ?_
      · exact ev_var rfl
      · exact fun H1 _ => ⟨sz_of (by omega), rfl⟩
    · have hne : ¬ m.pts = ("" : Str) := fun e => by rw [e0.mp e] at hb; cases hb
      have hh : m.head = ([m.lt, (toString m.num : String), ".", m.pts] : List Str).foldl (· ++ ·) Str.empty := by unfold MK.head; rw [if_neg hne]
      rw [hh]
      refine ev_joined (.cons (ev_fmtS (ev_var rfl) (by omega)) (.cons (ev_fmtI (ev_var rfl) hn) (.cons ev_c (.cons (ev_fmtS (ev_var rfl) (by omega)) .nil)))) ?_
      simp only [List.map_cons, List.map_nil, List.sum_cons, List.sum_nil, hp]
      omega
    · have he : m.pts = ("" : Str) := e0.mpr hb
      have hh : m.head = ([m.lt, (toString m.num : String)] : List Str).foldl (· ++ ·) Str.empty := by unfold MK.head; rw [if_pos he]
      rw [hh]
      refine ev_joined (.cons (ev_fmtS (ev_var rfl) (by omega)) (.cons (ev_fmtI (ev_var rfl) hn) .nil)) ?_
      simp only [List.map_cons, List.map_nil, List.sum_cons, List.sum_nil]
      omega
    · have hk := ok.k
      refine q_asgL (xs := .str m.head :: (m.mks.map V.str ++ [])) (el_lst (ea_cons (ev_var rfl) (ea_star (ev_var rfl) (ex_t e1 hma) ea_nil)) (by simp only [List.length_cons, List.length_append, List.length_map, List.length_nil]; omega)) fun p H2 hp2 e2 h2 => ?_
      rw [List.append_nil] at h2
      -- the year
      have hwl : ∀ s ∈ (m.head :: m.mks), s.length ≤ 5000 := fun s hs => by
        rcases List.mem_cons.mp hs with rfl | hs
        · exact hhl
        · have := (ok.ks s hs).2; omega
      have key : ∀ (ws : List Str) (H3 : Hp) (D : Ends) (σ : L2.St), D.rt = Q → σ[8]? = some (some (.ref p)) → Ex H H3 → H3 p = some (.lst (ws.map V.str)) → ws.length ≤ 6 → (∀ s ∈ ws, s.length ≤ 5000) → ws = m.words → tRet (tM1 (rJoin K) (tC (.str " ")) (tVar 8)) D σ H3 := by
        intro ws H3 D σ hD hσ e3 h3 hl hs hw
        have hsum : (ws.map (·.length)).sum ≤ 6 * 5000 := by
          have : ∀ (l : List Str), (∀ s ∈ l, s.length ≤ 5000) → (l.map (·.length)).sum ≤ l.length * 5000 := fun l => by
            induction l with
            | nil => intro _; simp
            | cons a l ih =>
              intro h
              have h1 := h a List.mem_cons_self
              have h2 := ih fun s hs => h s (List.mem_cons_of_mem _ hs)
              rw [List.map_cons, List.sum_cons, List.length_cons]
              omega
          have q := this ws hs
          omega
        have hb : ((" " : Str)).length = 1 := by decide +kernel
        refine ⟨⟨_, rfl⟩, _, hσ, _, p, ws, rfl, rfl, .inl (sq_of h3), ?_, ?_⟩
        · rw [hb]; omega
        · show D.rt (.str (Txt.join " " ws)) H3
          rw [hD, hw]
          exact k H3 e3
      have step2 : ∀ (ws : List Str) (H3 : Hp), Ex H H3 → H3 p = some (.lst (ws.map V.str)) → ws.length ≤ 5 → (∀ s ∈ ws, s.length ≤ 5000) → ws ++ (match m.cp with | none => [] | some c => [([("c." : Str), ((toString c : String) : Str)]).foldl (· ++ ·) Str.empty]) = m.words →
          ∀ {tz : TS}, (∀ (ws : List Str) (H3 : Hp), Ex H H3 → H3 p = some (.lst (ws.map V.str)) → ws.length ≤ 6 → (∀ s ∈ ws, s.length ≤ 5000) → ws = m.words → tz { nx := fun _ H' => Q .non H', rt := Q } [some (.ref pa), some (.str m.lt), some (.int m.num), some (.str m.pts), some (.ref ma), some (oi m.yr), some (oi m.cp), some (.str m.head), some (.ref p)] H3) →
          tSeq (tIfS (tTest (tOp (fun x y H Q => y = .non ∧ Q (.bl (!decide (x = .non))) H) (tVar 6) (tC .non))) (tDrop (tBM K "list" rAppend (tVar 8) (tCons (fun σ H Q => tJs [tC (.str "c."), tFmt (tVar 6)] Str.empty σ H fun out H1 => Q (.str out) H1) tNil))) tNext) tz
            { nx := fun _ H' => Q .non H', rt := Q } [some (.ref pa), some (.str m.lt), some (.int m.num), some (.str m.pts), some (.ref ma), some (oi m.yr), some (oi m.cp), some (.str m.head), some (.ref p)] H3 := by
        intro ws H3 e3 h3 hl hs hw tz kk
        cases hc : m.cp with
        | none =>
          rw [hc] at hw
          refine q_when (b := false) (et_test (ev_op (ev_var rfl) ev_c fun H1 e Q q => ⟨rfl, q H1 (Ex.refl _)⟩)) (fun h => nomatch h) fun _ H4 e4 => ?_
          rw [← hc]
          exact kk ws H4 (e3.trans e4) (e4 _ _ h3) (by omega) hs (by rw [← hw]; simp)
        | some c =>
          rw [hc] at hw
          have hcn := (ok.c c hc).2
          have hcl2 := int_len hcn
          refine q_when (b := true) (et_test (ev_op (ev_var rfl) ev_c fun H1 e Q q => ⟨rfl, q H1 (Ex.refl _)⟩)) (fun _ H4 e4 => ?_) fun h => nomatch h
          refine s_app (e4 _ _ h3) (ev_var rfl) (ev_joined (.cons ev_c (.cons (ev_fmtI (ev_var rfl) hcn) .nil)) (by simp only [List.map_cons, List.map_nil, List.sum_cons, List.sum_nil, hcl]; omega)) (by rw [List.length_map]; omega) fun H5 e5 => ?_
          show tz _ _ _
          rw [← hc]
          refine kk (ws ++ [([("c." : Str), ((toString c : String) : Str)]).foldl (· ++ ·) Str.empty]) _ (Ex.mut ((e3.trans e4).trans e5) (fresh_back e1 hp2)) (by rw [upd_same, List.map_append]; rfl) (by rw [List.length_append]; simp only [List.length_cons, List.length_nil]; omega) (fun s hs' => ?_) hw
          rcases List.mem_append.mp hs' with h | h
          · exact hs s h
          · rw [List.mem_singleton.mp h, fold_len]
            simp only [List.map_cons, List.map_nil, List.sum_cons, List.sum_nil, hcl]
            have : (Str.empty).length = 0 := rfl
            omega
      have fin : ∀ (ws : List Str) (H3 : Hp), Ex H H3 → H3 p = some (.lst (ws.map V.str)) → ws.length ≤ 6 → (∀ s ∈ ws, s.length ≤ 5000) → ws = m.words → tRet (tM1 (rJoin K) (tC (.str " ")) (tVar 8)) { nx := fun _ H' => Q .non H', rt := Q } [some (.ref pa), some (.str m.lt), some (.int m.num), some (.str m.pts), some (.ref ma), some (oi m.yr), some (oi m.cp), some (.str m.head), some (.ref p)] H3 :=
        fun ws H3 e3 h3 hl hs hw => key ws H3 _ _ rfl rfl e3 h3 hl hs hw
      cases hy : m.yr with
      | none =>
        refine q_when (b := false) (et_test (ev_op (ev_var rfl) ev_c fun H1 e Q q => ⟨rfl, q H1 (Ex.refl _)⟩)) (fun h => nomatch h) fun _ H4 e4 => ?_
        rw [← hy]
        exact step2 (m.head :: m.mks) H4 ((e1.trans e2).trans e4) (e4 _ _ h2) (by rw [List.length_cons]; omega) hwl (by unfold MK.words; rw [hy, List.append_nil]) fin
      | some y =>
        have hyn := (log2_small ⟨by have := ok.y y hy; omega, by have := ok.y y hy; omega⟩ : y.natAbs.log2 < 1920)
        have hyl := int_len hyn
        refine q_when (b := true) (et_test (ev_op (ev_var rfl) ev_c fun H1 e Q q => ⟨rfl, q H1 (Ex.refl _)⟩)) (fun _ H4 e4 => ?_) fun h => nomatch h
        refine s_app (xs := (m.head :: m.mks).map V.str) (e4 _ _ h2) (ev_var rfl) (ev_strI (ev_var rfl) hyn) (by rw [List.length_map, List.length_cons]; omega) fun H5 e5 => ?_
        show tSeq _ _ _ _ _
        rw [← hy]
        refine step2 ((m.head :: m.mks) ++ [((toString y : String) : Str)]) _ (Ex.mut (((e1.trans e2).trans e4).trans e5) (fresh_back e1 hp2)) (by rw [upd_same, List.map_append]; rfl) (by rw [List.length_append]; simp only [List.length_cons, List.length_nil]; omega) (fun s hs' => ?_) (by unfold MK.words; rw [hy]) fin
        rcases List.mem_append.mp hs' with h | h
        · exact hwl s h
        · rw [List.mem_singleton.mp h]; omega
/-- the makers as they are handed in: none, a list or a tuple of texts -/
def MkIn (H : Hp) (mk : V) (ks : List Str) : Prop := (mk = .non ∧ ks = []) ∨ ∃ a, mk = .ref a ∧ (H a = some (.lst (ks.map V.str)) ∨ H a = some (.tup (ks.map V.str)))
theorem MkIn.ex {H H' : Hp} {mk : V} {ks : List Str} (h : MkIn H mk ks) (e : Ex H H') : MkIn H' mk ks := by
  rcases h with h | ⟨a, h1, h2 | h2⟩
  · exact .inl h
  · exact .inr ⟨a, h1, .inl (e _ _ h2)⟩
  · exact .inr ⟨a, h1, .inr (e _ _ h2)⟩
def spKept : Sp := fun vs H Q _ => ∃ (mk : V) (ks : List Str), vs = [mk] ∧ MkIn H mk ks ∧ ks.length ≤ 3 ∧ (∀ s ∈ ks, makerOk s = true ∧ s.length ≤ 1000) ∧ ∀ p H2, Ex H H2 → H2 p = some (.tup (ks.map V.str)) → Q (.ref p) H2
theorem kit_lt {t : String} (h : t = "list" ∨ t = "tuple") : PySem.W.kitAny K (.type t) [.type "list", .type "tuple"] = some true := by
  rcases h with rfl | rfl
  · exact kitAny_cons (kit_ty (r := true) (by decide +kernel)) (fun h => nomatch h) (fun _ => rfl)
  · exact kitAny_cons (kit_ty (r := false) (by decide +kernel)) (fun _ => kitAny_cons (kit_ty (r := true) (by decide +kernel)) (fun h => nomatch h) (fun _ => rfl)) (fun h => nomatch h)
theorem ok_kept_makers (T : Txt K mg Z) : FnOk P w K mg base CX0 5 Z.a_kept_makers Z.d_kept_makers ["makers"] spKept := by
  refine T.F_kept_makers.ok sc_kept_makers (fun vs H Q E h => ?_) (fun cdv A outer s H vs Q E hr h => ?_)
  · obtain ⟨_, _, rfl, _⟩ := h; rfl
  · obtain ⟨mk, ks, rfl, hm, hl, hk, k⟩ := h
    refine ⟨_, (pss_cons (ps_if (pt_cmpR op_isNq (pv 0) pe_non (nomark _)) (pss_one (ps_ret tup0)) pss_nil)
      (pss_cons (ps_if (PW.pt (pw_or (pt_not (pt_val (pe_callB (isiTK K) (by rfl) T.n_isinstance (by decide +kernel) (pa_cons (pv 0) (pa_cons (pe_tup (pa_cons (pe_bltn (v := .ty "list") (by rfl) T.n_list (by decide +kernel) rfl) (pa_cons (pe_bltn (v := .ty "tuple") (by rfl) T.n_tuple (by decide +kernel) rfl) pa_nil))) pa_nil))))) (pw_or1 (pt_cmpR op_gt (pe_callB (lenQ K) (by rfl) T.n_len (by decide +kernel) (pa_cons (pv 0) pa_nil)) pe_int (nomark _))))) (pss_one ps_never) pss_nil)
      (pss_cons (ps_for PassesOwn.never rfl (PI.or (pi_list (pv 0)) (pi_tup (pv 0))) (pg_name (i := 1) sc_kept_makers.nd rfl (.inl rfl)) (pss_one (ps_if (pt_not (pt_val (pe_call (ok_is_maker T) (hr.mono (by decide)) rfl T.g_is_maker T.F_is_maker.kp T.b_is_maker .nil pass0 (pa_cons (pv 1) pa_nil)))) (pss_one ps_never) pss_nil)))
      (pss_one (ps_ret (pe_callTy (tupK K) (by rfl) T.n_tuple (by decide +kernel) (pa_cons (pv 0) pa_nil))))))), ?_⟩
    rcases hm with ⟨rfl, rfl⟩ | ⟨a, rfl, hm⟩
    · refine q_when (b := true) (et_test (ev_op (ev_var rfl) ev_c fun H1 e Q q => ⟨rfl, q H1 (Ex.refl _)⟩)) (fun _ H1 e1 => ?_) fun h => nomatch h
      exact ⟨Nat.zero_le _, fun p hp => k p _ (e1.trans (Ex.new hp)) upd_same⟩
    · refine q_when (b := false) (et_test (ev_op (ev_var rfl) ev_c fun H1 e Q q => ⟨rfl, q H1 (Ex.refl _)⟩)) (fun h => nomatch h) fun _ H1 e1 => ?_
      have hm1 : H1 a = some (.lst (ks.map V.str)) ∨ H1 a = some (.tup (ks.map V.str)) := hm.imp (e1 _ _) (e1 _ _)
      -- isinstance, len
      have go : ∀ H2, Ex H H2 → (H2 a = some (.lst (ks.map V.str)) ∨ H2 a = some (.tup (ks.map V.str))) → ∀ {tz : TS} {D : Ends}, (∀ H3, Ex H H3 → (H3 a = some (.lst (ks.map V.str)) ∨ H3 a = some (.tup (ks.map V.str))) → tz D [some (.ref a), none] H3) →
          tSeq (tIfS (tOr (tNot (tB (tCB (rIsiT K) (tCons (tVar 0) (tCons (tTup (tCons (tC (.ty "list")) (tCons (tC (.ty "tuple")) tNil))) tNil))))) (tTest (tOp (rI0 fun i j => .bl (decide (j < i))) (tCB (rLenS K) (tCons (tVar 0) tNil)) (tC (.int 3))))) tNever tNext) tz D [some (.ref a), none] H2 := by
        intro H2 e2 h2 tz D kk
        refine ⟨_, rfl, by show 2 ≤ sizeLine; decide, fun p hp => ?_⟩
        have e3 : Ex H (upd H2 p (.tup [.ty "list", .ty "tuple"])) := e2.trans (Ex.new hp)
        have h3 : upd H2 p (.tup [.ty "list", .ty "tuple"]) a = some (.lst (ks.map V.str)) ∨ upd H2 p (.tup [.ty "list", .ty "tuple"]) a = some (.tup (ks.map V.str)) :=
          h2.imp (fun h => by rw [upd_ne (ne_of_none h hp)]; exact h) (fun h => by rw [upd_ne (ne_of_none h hp)]; exact h)
        have ty : ∃ t, (t = "list" ∨ t = "tuple") ∧ L2.TyX K (upd H2 p (.tup [.ty "list", .ty "tuple"])) (.ref a) (.type t) := by
          rcases h3 with h | h
          · exact ⟨"list", .inl rfl, .base (.lst h)⟩
          · exact ⟨"tuple", .inr rfl, .base (.tup h)⟩
        obtain ⟨t, ht, hty⟩ := ty
        refine ⟨_, p, [.ty "list", .ty "tuple"], _, [.type "list", .type "tuple"], true, rfl, upd_same, .cons (.ty _) (.cons (.ty _) .nil), hty, kit_lt ht, true, rfl, iteF ?_⟩
        refine ⟨_, rfl, a, ks.map V.str, rfl, h3.imp (fun h => sq_of h) (fun h => st_of h), _, _, rfl, rfl, _, rfl, ?_⟩
        rw [List.length_map, decide_eq_false (by omega)]
        exact iteF (kk _ e3 h3)
      refine go H1 e1 hm1 fun H2 e2 h2 => ?_
      -- the loop
      have body : ∀ (i : Nat) (x : V) (σ' : L2.St) (H3 : Hp) (D : Ends), (ks.map V.str)[i]? = some x → (∃ v, σ' = [some (.ref a), v]) → (∀ H4, Ex H3 H4 → ∃ v, D.nx [some (.ref a), v] H4) → True := fun _ _ _ _ _ _ _ _ => trivial
      have hP : ∀ (i : Nat) (x : V) (v : Option V) (H3 : Hp) (D : Ends), (ks.map V.str)[i]? = some x → (∀ H4, Ex H3 H4 → D.nx [some (.ref a), some x] H4) → tIfS (tNot (tB (tCall (spMaker K) [] E0 (tCons (tVar 1) tNil)))) tNever tNext D [some (.ref a), some x] H3 := by
        intro i x v H3 D hx kk
        rw [List.getElem?_map] at hx
        cases e : ks[i]? with
        | none => rw [e] at hx; cases hx
        | some s =>
          rw [e] at hx
          cases hx
          have hs := hk s (List.mem_of_getElem? e)
          refine s_when (b := false) (et_not (a := true) (et_B (ev_is (ev_call (ea_cons (ev_var rfl) ea_nil) (sp_maker (t := s) (by omega))) (by rw [hs.1])))) (fun h => nomatch h) fun _ H4 e4 => kk H4 e4
      rcases h2 with h2 | h2
      · refine .inl ⟨_, rfl, a, rfl, ⟨_, sq_of h2⟩, for_list (K := K) (a := a) (xs := ks.map V.str) (fun i σ H' => (∃ v, σ = [some (.ref a), v]) ∧ Ex H H' ∧ H' a = some (.lst (ks.map V.str))) ⟨⟨none, rfl⟩, e2, h2⟩ (fun i σ H' _ h => sq_of h.2.2) ?_ ?_⟩
        · rintro i x σ H' hi ⟨⟨v, rfl⟩, e3, h3⟩
          exact hP i x v H' _ hi fun H4 e4 => ⟨⟨_, rfl⟩, e3.trans e4, e4 _ _ h3⟩
        · rintro σ H' ⟨⟨v, rfl⟩, e3, h3⟩
          exact ⟨_, rfl, a, _, rfl, .inl ⟨sq_of h3, fun l hl => k l _ (e3.trans (Ex.new hl)) upd_same⟩⟩
      · refine .inr ⟨_, rfl, a, rfl, ⟨_, st_of h2⟩, for_tup (K := K) (a := a) (xs := ks.map V.str) (fun i σ H' => (∃ v, σ = [some (.ref a), v]) ∧ Ex H H' ∧ H' a = some (.tup (ks.map V.str))) ⟨⟨none, rfl⟩, e2, h2⟩ (fun i σ H' _ h => st_of h.2.2) ?_ ?_⟩
        · rintro i x σ H' hi ⟨⟨v, rfl⟩, e3, h3⟩
          exact hP i x v H' _ hi fun H4 e4 => ⟨⟨_, rfl⟩, e3.trans e4, e4 _ _ h3⟩
        · rintro σ H' ⟨⟨v, rfl⟩, e3, h3⟩
          exact ⟨_, rfl, a, _, rfl, .inr ⟨st_of h3, k a H' e3 h3⟩⟩
/-- a mark stands at x -/
def MarkAt (C : Addr) (H : Hp) (x : Addr) (m : MK) : Prop := ∃ dx pa ma, H x = some (.ins C dx [("_parts", .ref pa), ("_text", .str m.text)]) ∧ H pa = some (.tup (m.tup ma)) ∧ H ma = some (.tup (m.mks.map V.str))
theorem MarkAt.ex {C : Addr} {H H' : Hp} {x : Addr} {m : MK} (h : MarkAt C H x m) (e : Ex H H') : MarkAt C H' x m := by
  obtain ⟨dx, pa, ma, h1, h2, h3⟩ := h
  exact ⟨dx, pa, ma, e _ _ h1, e _ _ h2, e _ _ h3⟩
theorem whole_yes {i lo : Int} {hi : Option Int} (h1 : lo ≤ i) (h2 : ∀ h, hi = some h → i ≤ h) : whole (.int i) lo hi = true := by
  show (decide (lo ≤ i) && _) = true
  rw [decide_eq_true h1, Bool.true_and]
  cases hi with
  | none => rfl
  | some h => exact decide_eq_true (h2 h rfl)
def spMark (C : Addr) : Sp := fun vs H Q _ => ∃ (H0 : Hp) (x dx : Addr) (m : MK) (mk : V), vs = [.ref x, .str m.lt, .int m.num, .str m.pts, mk, oi m.yr, oi m.cp] ∧ m.Ok ∧ Ex H0 H ∧ H0 x = none ∧ H x = some (.ins C dx []) ∧ MkIn H mk m.mks ∧ ∀ H', Ex H0 H' → MarkAt C H' x m → Q .non H'

theorem ok_Mark_init (T : Txt K mg Z) : FnOk P w K mg base CX0 6 Z.a_Mark_init Z.d_Mark_init ["self", "letters", "number", "points", "makers", "year", "copy"] (spMark Z.C_Mark) := by
  refine T.F_Mark_init.ok sc_Mark_init (fun vs H Q E h => ?_) (fun cdv A outer s H vs Q E hr h => ?_)
  · obtain ⟨_, _, _, _, _, rfl, _⟩ := h; rfl
  · obtain ⟨H0, x, dx, m, mk, rfl, ok, e0, hx0, hx, hmk, k⟩ := h
    refine ⟨_, (pss_cons (ps_if (pt_not (pt_val (pe_call (ok_is_letters T) (hr.mono (by decide)) rfl T.g_is_letters T.F_is_letters.kp T.b_is_letters .nil pass0 (pa_cons (pv 1) (pa_cons pe_int pa_nil))))) (pss_one ps_never) pss_nil)
      (pss_cons (ps_if (pt_not (pt_val (pe_call (ok_is_whole T) (hr.mono (by decide)) rfl T.g_is_whole T.F_is_whole.kp T.b_is_whole .nil pass0 (pa_cons (pv 2) (pa_cons pe_int (pa_cons pe_int pa_nil)))))) (pss_one ps_never) pss_nil)
      (pss_cons (ps_if (pt_not (pt_val (pe_call (ok_is_points T) (hr.mono (by decide)) rfl T.g_is_points T.F_is_points.kp T.b_is_points .nil pass0 (pa_cons (pv 3) pa_nil)))) (pss_one ps_never) pss_nil)
      (pss_cons (ps_set (i := 7) sc_Mark_init.nd rfl (.inl rfl) (pe_call (ok_kept_makers T) (hr.mono (by decide)) rfl T.g_kept_makers T.F_kept_makers.kp T.b_kept_makers .nil pass0 (pa_cons (pv 4) pa_nil)))
      (pss_cons (ps_if (PW.pt (pw_and (pt_cmpR op_notNq (pv 5) pe_non (nomark _)) (pw_and1 (pt_not (pt_val (pe_call (ok_is_whole T) (hr.mono (by decide)) rfl T.g_is_whole T.F_is_whole.kp T.b_is_whole .nil pass0 (pa_cons (pv 5) (pa_cons pe_int (pa_cons pe_int pa_nil))))))))) (pss_one ps_never) pss_nil)
      (pss_cons (ps_if (PW.pt (pw_and (pt_cmpR op_notNq (pv 6) pe_non (nomark _)) (pw_and1 (pt_not (pt_val (pe_callD (ok_is_whole T) (hr.mono (by decide)) rfl T.g_is_whole T.F_is_whole.kp T.b_is_whole_2 pass0 (pa_cons (pv 6) (pa_cons pe_int pa_nil)))))))) (pss_one ps_never) pss_nil)
      (pss_cons (ps_fld (pv 0) (pe_tup (pa_cons (pv 1) (pa_cons (pv 2) (pa_cons (pv 3) (pa_cons (pv 7) (pa_cons (pv 5) (pa_cons (pv 6) pa_nil))))))) rfl)
      (pss_one (ps_fld (pv 0) (pe_call (ok_text_of T) (hr.mono (by decide)) rfl T.g_text_of T.F_text_of.kp T.b_text_of .nil pass0 (pa_cons (fldK K (pv 0) rfl) pa_nil)) rfl))))))))), ?_⟩
    have hll := letters_len ok.l
    refine q_when (b := false) (et_not (a := true) (et_B (ev_is (ev_call (ea_cons (ev_var rfl) (ea_cons ev_c ea_nil)) (sp_letters (by omega))) (by rw [ok.l])))) (fun h => nomatch h) fun _ H1 e1 => ?_
    refine q_when (b := false) (et_not (a := true) (et_B (ev_is (ev_call (ea_cons (ev_var rfl) (ea_cons ev_c (ea_cons ev_c ea_nil))) (sp_whole (hi := some 9999) kni_int)) (by rw [whole_yes ok.n.1 (fun h q => by cases q; exact ok.n.2)])))) (fun h => nomatch h) fun _ H2 e2 => ?_
    refine q_when (b := false) (et_not (a := true) (et_B (ev_is (ev_call (ea_cons (ev_var rfl) ea_nil) (sp_points (by have := ok.pz; omega))) (by rw [ok.p])))) (fun h => nomatch h) fun _ H3 e3 => ?_
    have e03 := ((e0.trans e1).trans e2).trans e3
    have hx3 := e3 _ _ (e2 _ _ (e1 _ _ hx))
    refine ⟨_, rfl, mk, m.mks, rfl, ((hmk.ex e1).ex e2).ex e3, ok.k, ok.ks, fun ma H4 e4 h4 => ?_⟩
    have e04 := e03.trans e4
    have hx4 := e4 _ _ hx3
    dsimp only [gName]
    -- the year
    refine q_when (b := false) ?_ (fun h => nomatch h) fun _ H5 e5 => ?_
    · cases hy : m.yr with
      | none => exact et_and (a := false) (b := false) (et_test (ev_op (ev_var rfl) ev_c fun H1 e Q q => ⟨rfl, q H1 (Ex.refl _)⟩)) (fun h => nomatch h)
      | some y => exact et_and (a := true) (b := false) (et_test (ev_op (ev_var rfl) ev_c fun H1 e Q q => ⟨rfl, q H1 (Ex.refl _)⟩)) (fun _ => et_not (a := true) (et_B (ev_is (ev_call (ea_cons (ev_var rfl) (ea_cons ev_c (ea_cons ev_c ea_nil))) (sp_whole (x := .int y) (hi := some 2999) kni_int)) (by rw [whole_yes (ok.y y hy).1 (fun h q => by cases q; exact (ok.y y hy).2)]))))
    refine q_when (b := false) ?_ (fun h => nomatch h) fun _ H6 e6 => ?_
    · cases hc : m.cp with
      | none => exact et_and (a := false) (b := false) (et_test (ev_op (ev_var rfl) ev_c fun H1 e Q q => ⟨rfl, q H1 (Ex.refl _)⟩)) (fun h => nomatch h)
      | some c => exact et_and (a := true) (b := false) (et_test (ev_op (ev_var rfl) ev_c fun H1 e Q q => ⟨rfl, q H1 (Ex.refl _)⟩)) (fun _ => et_not (a := true) (et_B (ev_is (ev_call (ea_cons (ev_var rfl) (ea_cons ev_c ea_nil)) (sp_whole (x := .int c) (hi := none) kni_int)) (by rw [whole_yes (hi := none) (ok.c c hc).1 (fun h q => nomatch q)]))))
    have s6 : ST H0 H6 [(x, .ins Z.C_Mark dx [])] := ⟨(e04.trans e5).trans e6, fun p hp => by
      rcases List.mem_singleton.mp hp with rfl
      exact ⟨hx0, e6 _ _ (e5 _ _ hx4)⟩, List.pairwise_singleton ..⟩
    have h6 := e6 _ _ (e5 _ _ h4)
    -- the parts
    refine q_fldU (xs := m.tup ma) (eu_tup (ea_cons (ev_var rfl) (ea_cons (ev_var rfl) (ea_cons (ev_var rfl) (ea_cons (ev_var rfl) (ea_cons (ev_var rfl) (ea_cons (ev_var rfl) ea_nil)))))) (by show 6 ≤ 100000; decide)) (ev_var rfl) s6.at1 T.cl_Mark T.na_Mark_parts (by simp) fun pa H7 hpa e7 h7 => ?_
    have s7 := s6.ext e7
    have nx : x ≠ pa := ne_of_none s6.at1 hpa
    have nm : ma ≠ x := ne_of h6 s6.at1 (by intro z; cases z)
    have f7 : putF "_parts" (.ref pa) [] = [(("_parts" : Str), V.ref pa)] := by kernel_rfl
    rw [f7]
    have s8 := s7.set (u := .ins Z.C_Mark dx [(("_parts" : Str), V.ref pa)])
    have h8 : upd H7 x (.ins Z.C_Mark dx [(("_parts" : Str), V.ref pa)]) pa = some (.tup (m.tup ma)) := by rw [upd_ne nx.symm]; exact h7
    have h9 : upd H7 x (.ins Z.C_Mark dx [(("_parts" : Str), V.ref pa)]) ma = some (.tup (m.mks.map V.str)) := by rw [upd_ne nm]; exact e7 _ _ h6
    refine s_fld (v := .str m.text) (ev_call (ea_cons (ev_fld (ev_var rfl) s8.at1 T.cl_Mark T.na_Mark_parts (by kernel_rfl)) ea_nil) (fun H1 e Q q E => ⟨pa, ma, m, rfl, st_of (e _ _ h8), st_of (e _ _ h9), ok, q⟩)) (ev_var rfl) s8.at1 T.cl_Mark T.na_Mark_text (by simp) fun H9 e9 => ?_
    have f9 : putF "_text" (.str m.text) [(("_parts" : Str), V.ref pa)] = [(("_parts" : Str), V.ref pa), ("_text", .str m.text)] := by kernel_rfl
    rw [f9]
    have s9 := (s8.ext e9).set (u := .ins Z.C_Mark dx [(("_parts" : Str), V.ref pa), ("_text", .str m.text)])
    exact k _ s9.e ⟨dx, pa, ma, upd_same, by rw [upd_ne nx.symm]; exact e9 _ _ h8, by rw [upd_ne nm]; exact e9 _ _ h9⟩

/-! what a mark tells -/
def oD : Option Int → PyData
  | none => .none
  | some i => .int i
def MK.data (m : MK) : PyData := .tuple [.str m.lt, .int m.num, .str m.pts, .tuple (m.mks.map PyData.str), oD m.yr, oD m.cp]
def MK.kdata (m : MK) : PyData := .tuple [.str m.lt, .int m.num, .str m.pts, .tuple (m.mks.map PyData.str), .int (m.yr.getD 0), .int (m.cp.getD 0)]
def MK.ktup (m : MK) (ma : Addr) : List V := [.str m.lt, .int m.num, .str m.pts, .ref ma, .int (m.yr.getD 0), .int (m.cp.getD 0)]
theorem dp_strs {H : Hp} : ∀ ks : List Str, DpAll K H (ks.map V.str) (ks.map PyData.str)
  | [] => .nil
  | s :: ks => .cons (.str s) (dp_strs ks)
theorem dp_oi {H : Hp} (o : Option Int) : Dp K H (oi o) (oD o) := by
  cases o with
  | none => exact .non
  | some y => exact .int y
theorem dp_data {H : Hp} {pa ma : Addr} {m : MK} (h1 : H pa = some (.tup (m.tup ma))) (h2 : H ma = some (.tup (m.mks.map V.str))) : Dp K H (.ref pa) m.data :=
  .tup (st_of h1) (.cons (.str _) (.cons (.int _) (.cons (.str _) (.cons (.tup (st_of h2) (dp_strs _)) (.cons (dp_oi _) (.cons (dp_oi _) .nil))))))
theorem dp_kdata {H : Hp} {pa ma : Addr} {m : MK} (h1 : H pa = some (.tup (m.ktup ma))) (h2 : H ma = some (.tup (m.mks.map V.str))) : Dp K H (.ref pa) m.kdata :=
  .tup (st_of h1) (.cons (.str _) (.cons (.int _) (.cons (.str _) (.cons (.tup (st_of h2) (dp_strs _)) (.cons (.int _) (.cons (.int _) .nil))))))
theorem depth_strs : ∀ ks : List Str, PyData.depthAll (ks.map PyData.str) = 0
  | [] => by simp [PyData.depthAll]
  | s :: ks => by simp [PyData.depthAll, PyData.depth, depth_strs ks]
theorem alike_strs : ∀ ks js : List Str, PySem.W.alikeAll (ks.map PyData.str) (js.map PyData.str) = true
  | [], _ => by simp [PySem.W.alikeAll]
  | _ :: _, [] => by simp [PySem.W.alikeAll]
  | s :: ks, t :: js => by simp [PySem.W.alikeAll, PySem.W.alike, alike_strs ks js]
theorem kalike (m n : MK) : PySem.W.alike m.kdata n.kdata = true := by
  unfold MK.kdata
  simp [PySem.W.alike, PySem.W.alikeAll, alike_strs]
theorem kdepth (m : MK) : m.kdata.depth ≤ 60 := by
  unfold MK.kdata
  simp [PyData.depth, PyData.depthAll, depth_strs]
def strsOk (m : MK) : Prop := PyData.strOk m.lt = true ∧ PyData.strOk m.pts = true ∧ ∀ s ∈ m.mks, PyData.strOk s = true
theorem lay_strs : ∀ ks : List Str, (∀ s ∈ ks, PyData.strOk s = true) → PyData.canLayAll0 (ks.map PyData.str) = true
  | [], _ => by simp [PyData.canLayAll0]
  | s :: ks, h => by simp [PyData.canLayAll0, PyData.canLay0, h s List.mem_cons_self, lay_strs ks fun t ht => h t (List.mem_cons_of_mem _ ht)]
end


/-! ### equal marks, the order of two -/
theorem eqvAll_strs : ∀ ks js : List Str, PyData.eqvAll (ks.map PyData.str) (js.map PyData.str) = decide (ks = js)
  | [], [] => by simp [PyData.eqvAll]
  | [], _ :: _ => by simp [PyData.eqvAll]
  | _ :: _, [] => by simp [PyData.eqvAll]
  | s :: ks, t :: js => by
    rw [List.map_cons, List.map_cons, PyData.eqvAll, eqvAll_strs ks js, PyData.eqv]
    by_cases h1 : s = t
    · by_cases h2 : ks = js
      · simp [h1, h2]
      · simp [h1, h2]
    · simp [h1]
def kE (m n : MK) : Bool := decide (m.lt = n.lt) && (decide (m.num = n.num) && (decide (m.pts = n.pts) && (decide (m.mks = n.mks) && (decide (m.yr.getD 0 = n.yr.getD 0) && decide (m.cp.getD 0 = n.cp.getD 0)))))
theorem beq_dec {α : Type} [DecidableEq α] (a b : α) : (a == b) = decide (a = b) := by
  by_cases h : a = b
  · subst h; simp
  · simp [h]
theorem eqv_k (m n : MK) : PyData.eqv m.kdata n.kdata = kE m n := by
  unfold MK.kdata kE
  simp only [PyData.eqv, PyData.eqvAll, eqvAll_strs, beq_dec, Bool.and_true]
theorem eqv_oi (o o' : Option Int) : (∀ i, o = some i → i ≠ 0) → (∀ i, o' = some i → i ≠ 0) →
    PyData.eqv (oD o) (oD o') = decide (o.getD 0 = o'.getD 0) := by
  intro h h'
  cases o with
  | none =>
    cases o' with
    | none => simp [oD, PyData.eqv]
    | some j =>
      have := h' j rfl
      simp only [oD, PyData.eqv, Option.getD]
      exact (decide_eq_false (fun e => this e.symm)).symm
  | some i =>
    have := h i rfl
    cases o' with
    | none =>
      simp only [oD, PyData.eqv, Option.getD]
      exact (decide_eq_false this).symm
    | some j => simp only [oD, PyData.eqv, Option.getD, beq_dec]
theorem eqv_d {m n : MK} (okm : m.Ok) (okn : n.Ok) : PyData.eqv m.data n.data = kE m n := by
  unfold MK.data kE
  simp only [PyData.eqvAll, PyData.eqv, eqvAll_strs, beq_dec, Bool.and_true]
  rw [eqv_oi m.yr n.yr (fun i h => by have := okm.y i h; omega) (fun i h => by have := okn.y i h; omega), eqv_oi m.cp n.cp (fun i h => by have := (okm.c i h).1; omega) (fun i h => by have := (okn.c i h).1; omega)]
theorem kE_symm (m n : MK) : kE m n = kE n m := by
  unfold kE
  simp only [eq_comm]
theorem kE_iff (m n : MK) : kE m n = true ↔ m.kdata = n.kdata := by
  unfold kE MK.kdata
  simp only [Bool.and_eq_true, decide_eq_true_eq, PyData.tuple.injEq, List.cons.injEq, PyData.str.injEq, PyData.int.injEq, and_true]
  constructor
  · rintro ⟨h1, h2, h3, h4, h5, h6⟩
    exact ⟨h1, h2, h3, by rw [h4], h5, h6⟩
  · rintro ⟨h1, h2, h3, h4, h5, h6⟩
    have inj : ∀ ks js : List Str, ks.map PyData.str = js.map PyData.str → ks = js := fun ks => by
      induction ks with
      | nil => intro js h; cases js with | nil => rfl | cons _ _ => cases h
      | cons k ks ih =>
        intro js h
        cases js with
        | nil => cases h
        | cons j js =>
          rw [List.map_cons, List.map_cons] at h
          injection h with a b
          injection a with a
          rw [a, ih js b]
    exact ⟨h1, h2, h3, inj _ _ h4, h5, h6⟩
theorem toks_strs : ∀ (ks js : List Str) (A B : List (Int ⊕ List Nat)), PySem.W.keyToksAll (ks.map PyData.str) ++ A = PySem.W.keyToksAll (js.map PyData.str) ++ B → ks = js ∧ A = B
  | [], [], A, B, h => by
    simp only [List.map_nil, PySem.W.keyToksAll, List.cons_append, List.nil_append, List.cons.injEq, true_and] at h
    exact ⟨rfl, h⟩
  | [], _ :: _, A, B, h => by simp [PySem.W.keyToksAll] at h
  | _ :: _, [], A, B, h => by simp [PySem.W.keyToksAll] at h
  | s :: ks, t :: js, A, B, h => by
    simp only [List.map_cons, PySem.W.keyToksAll, PySem.W.keyToks, List.cons_append, List.nil_append, List.append_assoc, List.cons.injEq, true_and, Sum.inr.injEq] at h
    obtain ⟨h1, h2⟩ := h
    obtain ⟨e1, e2⟩ := toks_strs ks js A B h2
    exact ⟨by rw [PySem.W.str_of_cps h1, e1], e2⟩
theorem toks_inj {m n : MK} (h : PySem.W.keyToks m.kdata = PySem.W.keyToks n.kdata) : kE m n = true := by
  unfold MK.kdata at h
  simp only [PySem.W.keyToks, PySem.W.keyToksAll, List.cons_append, List.nil_append, List.cons.injEq, true_and, Sum.inr.injEq, Sum.inl.injEq] at h
  obtain ⟨h1, h2, h3, h4⟩ := h
  obtain ⟨e1, e2⟩ := toks_strs _ _ _ _ h4
  simp only [List.cons.injEq, true_and, Sum.inl.injEq] at e2
  unfold kE
  rw [PySem.W.str_of_cps h1, h2, PySem.W.str_of_cps h3, e1, e2.1, e2.2.1]
  simp
theorem lt_flip {m n : MK} (h : kE m n = false) : PySem.W.dataLt n.kdata m.kdata = !PySem.W.dataLt m.kdata n.kdata := by
  unfold PySem.W.dataLt
  cases h1 : PyProof.Rows.lexLt itemOrd (PySem.W.keyToks m.kdata) (PySem.W.keyToks n.kdata) with
  | true =>
    cases h2 : PyProof.Rows.lexLt itemOrd (PySem.W.keyToks n.kdata) (PySem.W.keyToks m.kdata) with
    | true =>
      have := PyProof.Rows.lex_trans _ _ _ h1 h2
      rw [PyProof.Rows.lex_irrefl] at this
      cases this
    | false => rfl
  | false =>
    cases h2 : PyProof.Rows.lexLt itemOrd (PySem.W.keyToks n.kdata) (PySem.W.keyToks m.kdata) with
    | true => rfl
    | false =>
      have := toks_inj (PyProof.Rows.lex_total _ _ h1 h2)
      rw [h] at this
      cases this
theorem lt_same {m n : MK} (h : kE m n = true) : PySem.W.dataLt m.kdata n.kdata = false := by
  rw [(kE_iff m n).mp h]
  exact PyProof.Rows.lex_irrefl _
def ordI (m n : MK) : Int := if kE m n = true then 0 else if PySem.W.dataLt m.kdata n.kdata = true then -1 else 1
theorem ordI_flip (m n : MK) : ordI n m = -ordI m n := by
  unfold ordI
  rw [kE_symm n m]
  cases h : kE m n with
  | true => rfl
  | false =>
    rw [if_neg Bool.false_ne_true, if_neg Bool.false_ne_true, lt_flip h]
    cases PySem.W.dataLt m.kdata n.kdata <;> rfl
theorem strOk_of {t s : Str} (h : allIn t s = true) (hs : s.cps.toList.all (fun c => decide (c < 0x110000)) = true) : PyData.strOk t = true := by
  unfold PyData.strOk
  rw [← Array.all_toList]
  refine List.all_eq_true.mpr fun c hc => ?_
  have h1 := List.all_eq_true.mp h c hc
  exact List.all_eq_true.mp hs c (of_decide_eq_true h1)
theorem strOk_cut {t : Str} (h1 : PyData.strOk (cutS t none (some 1)) = true) (h2 : PyData.strOk (cutS t (some 1) none) = true) : PyData.strOk t = true := by
  unfold PyData.strOk at *
  rw [← Array.all_toList] at *
  refine List.all_eq_true.mpr fun c hc => ?_
  have e1 : (cutS t none (some 1)).cps.toList = t.cps.toList.take 1 := by
    show (List.toArray _).toList = _
    rw [show HT.sIx t.length 0 none = 0 from rfl, show HT.sIx t.length t.length (some 1) = min 1 t.length from HT.sIx_nat _ _ 1, List.drop_zero]
    show List.take (min 1 t.length - 0) _ = _
    have hl : t.cps.toList.length = t.length := Array.length_toList
    rw [Nat.sub_zero]
    by_cases h : 1 ≤ t.length
    · rw [Nat.min_eq_left h]
    · rw [Nat.min_eq_right (by omega), List.take_of_length_le (by omega), List.take_of_length_le (by omega)]
  have e2 : (cutS t (some 1) none).cps.toList = t.cps.toList.drop 1 := by
    show (List.toArray _).toList = _
    have hl : t.cps.toList.length = t.length := Array.length_toList
    rw [show HT.sIx t.length 0 (some 1) = min 1 t.length from HT.sIx_nat _ _ 1, show HT.sIx t.length t.length none = t.length from rfl]
    by_cases h : 1 ≤ t.length
    · rw [Nat.min_eq_left h, List.take_of_length_le (by rw [List.length_drop]; omega)]
    · rw [Nat.min_eq_right (by omega), List.drop_of_length_le (by omega), List.drop_of_length_le (by omega)]
      simp
  rw [e1] at h1
  rw [e2] at h2
  rw [← List.take_append_drop 1 t.cps.toList] at hc
  rcases List.mem_append.mp hc with h | h
  · exact List.all_eq_true.mp h1 c h
  · exact List.all_eq_true.mp h2 c h
theorem abc_ok : sABC.cps.toList.all (fun c => decide (c < 0x110000)) = true := by decide +kernel
theorem fig_ok : sFIG.cps.toList.all (fun c => decide (c < 0x110000)) = true := by decide +kernel
theorem letters_in {s : Str} {n : Int} (h : lettersOk s n = true) : allIn s sABC = true := by
  unfold lettersOk at h
  rw [Bool.and_eq_true] at h
  exact h.2
theorem ended_in {s : Str} (h : endedOk s = true) : allIn s sFIG = true := by
  unfold endedOk figuresOk at h
  rw [Bool.and_eq_true, Bool.and_eq_true] at h
  exact h.1.2
theorem points_str {s : Str} (h : pointsOk s = true) : PyData.strOk s = true := by
  unfold pointsOk at h
  rw [Bool.or_eq_true] at h
  rcases h with h | h
  · rw [of_decide_eq_true h]; decide +kernel
  · exact strOk_of (ended_in h) fig_ok
theorem maker_str {s : Str} (h : makerOk s = true) : PyData.strOk s = true := by
  unfold makerOk at h
  rw [Bool.and_eq_true] at h
  exact strOk_cut (strOk_of (letters_in h.1) abc_ok) (strOk_of (ended_in h.2) fig_ok)
theorem shaped_ok {m : MK} (ok : m.Ok) : SeqAt.shaped m.data = true := by
  unfold SeqAt.shaped
  rw [Bool.and_eq_true]
  refine ⟨?_, decide_eq_true ?_⟩
  · unfold MK.data
    have h1 := strOk_of (letters_in ok.l) abc_ok
    have h2 := points_str ok.p
    have h3 := lay_strs m.mks fun s hs => maker_str (ok.ks s hs).1
    simp only [PyData.canLay0, PyData.canLayAll0, h1, h2, h3, Bool.true_and]
    cases m.yr <;> cases m.cp <;> rfl
  · unfold MK.data
    simp only [PyData.depth, PyData.depthAll, depth_strs]
    cases m.yr <;> cases m.cp <;> simp [oD, PyData.depth]

/-! ### texts, sign by sign -/
theorem allIn_iff {t s : Str} : allIn t s = true ↔ ∀ c ∈ sg t, c ∈ sg s := by
  unfold allIn
  rw [List.all_eq_true]
  exact ⟨fun h c hc => of_decide_eq_true (h c hc), fun h c hc => decide_eq_true (h c hc)⟩
def FigS (s : Str) : Prop := ∀ c ∈ sg s, c ∈ sg sFIG
theorem fig_app {a b : Str} (h1 : FigS a) (h2 : FigS b) : FigS (a ++ b) := fun c hc => by
  rw [sg_app] at hc
  rcases List.mem_append.mp hc with h | h
  · exact h1 c h
  · exact h2 c h
theorem fig_one {c : Nat} (h : c ∈ sg sFIG) : FigS ⟨#[c]⟩ := fun d hd => by
  have : d = c := by simpa [sg] using hd
  rw [this]; exact h
theorem app_ne {s : Str} {c : Nat} : ¬ (s ++ (⟨#[c]⟩ : Str) = ("" : Str)) := fun h => by
  have := congrArg sg h
  rw [sg_app, show sg ("" : Str) = [] by decide +kernel] at this
  simp [sg] at this
theorem fig_endOk {s : Str} {c : Nat} (h : FigS s) (hc : c ∈ sg sFIG) (h0 : c ≠ 48) : endedOk (s ++ ⟨#[c]⟩) = true := by
  unfold endedOk figuresOk
  rw [decide_eq_false app_ne, allIn_iff.mpr (fig_app h (fig_one hc)), ends0, decide_eq_false h0]
  rfl
theorem ended_fig {s : Str} (h : endedOk s = true) : FigS s := by
  unfold endedOk figuresOk at h
  rw [Bool.and_eq_true, Bool.and_eq_true] at h
  exact allIn_iff.mp h.1.2
theorem fig_nil : FigS ("" : Str) := fun c hc => by
  rw [show sg ("" : Str) = [] by decide +kernel] at hc
  cases hc
theorem points_fig {s : Str} (h : pointsOk s = true) : FigS s := by
  unfold pointsOk at h
  rw [Bool.or_eq_true] at h
  rcases h with h | h
  · rw [of_decide_eq_true h]; exact fig_nil
  · exact ended_fig h
theorem fig_cut {s : Str} (h : FigS s) (k : Nat) : FigS (cutS s none (some (k : Int))) := fun c hc => by
  rw [sg_cutTo] at hc
  exact h c (List.mem_of_mem_take hc)
theorem len_cut (s : Str) (k : Nat) : (cutS s none (some (k : Int))).length ≤ k := by
  rw [← sg_len, sg_cutTo, List.length_take]
  omega
theorem sg_strip (s : Str) : ∃ hi : Nat, hi ≤ s.length ∧ sg (Txt.rstripChars s "0") = (sg s).take hi ∧ (hi = 0 ∨ ∃ c, (sg s)[hi - 1]? = some c ∧ c ≠ 48) := by
  refine ⟨stripHi ("0" : Str).cps.contains true s 0, ?_, ?_, ?_⟩
  · exact (hi_facts _ s 0 (Nat.zero_le _)).2.1
  · show sg (Txt.stripBy _ false true s) = _
    rw [stripBy_eq]
    show (Array.extract _ _ _).toList = _
    rw [Array.toList_extract, List.extract_eq_take_drop]
    rfl
  · obtain ⟨_, h2, _, h⟩ := hi_facts ("0" : Str).cps.contains s 0 (Nat.zero_le _)
    generalize stripHi ("0" : Str).cps.contains true s 0 = hi at h h2
    by_cases hz : hi = 0
    · exact .inl hz
    · refine .inr ?_
      have hlt : hi - 1 < (sg s).length := by rw [sg_len]; omega
      refine ⟨(sg s)[hi - 1], List.getElem?_eq_getElem hlt, fun e => ?_⟩
      rcases h with h | h
      · exact hz h
      · rw [← getD_list, List.getD_eq_getElem?_getD, List.getElem?_eq_getElem hlt, Option.getD_some, e] at h
        exact absurd h (by decide +kernel)
theorem strip_ok {s : Str} (h : FigS s) : pointsOk (Txt.rstripChars s "0") = true ∧ (Txt.rstripChars s "0").length ≤ s.length := by
  obtain ⟨hi, h1, h2, h3⟩ := sg_strip s
  refine ⟨?_, ?_⟩
  · rcases h3 with h3 | ⟨c, hc, h0⟩
    · rw [h3, List.take_zero] at h2
      have : Txt.rstripChars s "0" = ("" : Str) := str_ext (by rw [h2]; decide +kernel)
      rw [this]; decide +kernel
    · have hlt := (List.getElem?_eq_some_iff.mp hc).1
      have hp : 0 < hi ∨ hi = 0 := by omega
      rcases hp with hp | hp
      · have e : Txt.rstripChars s "0" = (⟨((sg s).take (hi - 1)).toArray⟩ : Str) ++ ⟨#[c]⟩ := str_ext (by
          rw [h2, sg_app]
          show _ = (sg s).take (hi - 1) ++ [c]
          have : hi = (hi - 1) + 1 := by omega
          rw [this, List.take_add_one, Nat.add_sub_cancel, hc]
          rfl)
        rw [e]
        unfold pointsOk
        rw [fig_endOk (fun d hd => h d (List.mem_of_mem_take (by exact hd))) (h c (List.mem_of_getElem? hc)) h0, Bool.or_true]
      · rw [hp, List.take_zero] at h2
        have : Txt.rstripChars s "0" = ("" : Str) := str_ext (by rw [h2]; decide +kernel)
        rw [this]; decide +kernel
  · rw [← sg_len, h2, List.length_take, sg_len]
    omega
theorem points_ended {s : Str} (h : pointsOk s = true) (hn : s ≠ ("" : Str)) : endedOk s = true := by
  unfold pointsOk at h
  rw [decide_eq_false hn, Bool.false_or] at h
  exact h
theorem maker_ok {c : Nat} {s : Str} (hc : c ∈ sg sABC) (hs : endedOk s = true) : makerOk (⟨#[c]⟩ ++ s) = true := by
  have e1 : cutS (⟨#[c]⟩ ++ s) none (some 1) = ⟨#[c]⟩ := str_ext (by
    rw [show (some (1 : Int)) = some ((1 : Nat) : Int) from rfl, sg_cutTo, sg_app]
    rfl)
  have e2 : cutS (⟨#[c]⟩ ++ s) (some 1) none = s := str_ext (by
    rw [sg_cutFrom1, sg_app]
    rfl)
  unfold makerOk
  rw [e1, e2, hs, Bool.and_true]
  unfold lettersOk
  have : allIn ⟨#[c]⟩ sABC = true := allIn_iff.mpr fun d hd => by
    have : d = c := by simpa [sg] using hd
    rw [this]; exact hc
  rw [this]
  rfl
theorem maker_tail {s : Str} (h : makerOk s = true) : endedOk (cutS s (some 1) none) = true ∧ ∃ c, (sg s)[0]? = some c ∧ c ∈ sg sABC := by
  unfold makerOk lettersOk at h
  simp only [Bool.and_eq_true] at h
  obtain ⟨⟨⟨h1, _⟩, h3⟩, h4⟩ := h
  refine ⟨h4, ?_⟩
  have h1 := of_decide_eq_true h1
  have e := sg_cutTo s 1
  rw [show (some ((1 : Nat) : Int)) = some (1 : Int) from rfl] at e
  have hl : (sg s).take 1 ≠ [] := fun z => by
    rw [z] at e
    have := sg_len (cutS s none (some 1))
    rw [e] at this
    rw [← this] at h1
    simp at h1
  cases hs : sg s with
  | nil => rw [hs] at hl; exact absurd rfl hl
  | cons c cs =>
    refine ⟨c, rfl, allIn_iff.mp h3 c ?_⟩
    rw [e, hs]
    exact List.mem_cons_self
theorem lets_app {a : Str} {c : Nat} {n : Int} (h : (a.length : Int) + 1 ≤ n) (ha : ∀ d ∈ sg a, d ∈ sg sABC) (hc : c ∈ sg sABC) : lettersOk (a ++ ⟨#[c]⟩) n = true := by
  have hl : (a ++ (⟨#[c]⟩ : Str)).length = a.length + 1 := len_app _ _
  unfold lettersOk
  rw [hl, decide_eq_true (by omega), decide_eq_true (by omega), allIn_iff.mpr fun d hd => ?_]
  · rfl
  · rw [sg_app] at hd
    rcases List.mem_append.mp hd with h | h
    · exact ha d h
    · have : d = c := by simpa [sg] using h
      rw [this]; exact hc
theorem lets_cut {s : Str} {n : Int} (h : lettersOk s n = true) (k : Nat) : ∀ d ∈ sg (cutS s none (some (k : Int))), d ∈ sg sABC := fun d hd => by
  unfold lettersOk at h
  rw [Bool.and_eq_true] at h
  rw [sg_cutTo] at hd
  exact allIn_iff.mp h.2 d (List.mem_of_mem_take hd)
/-! numbers as texts -/
theorem fig_dig {c : Nat} : c ∈ sg sFIG ↔ 48 ≤ c ∧ c ≤ 57 := by
  rw [show sg sFIG = [48, 49, 50, 51, 52, 53, 54, 55, 56, 57] by decide +kernel]
  simp only [List.mem_cons, List.not_mem_nil, or_false]
  omega
theorem intText_fig {s : Str} (h : FigS s) (hn : sg s ≠ []) (hl : s.length ≤ 640) : PySem.intText? s = some ((PySem.NumText.digitsVal (sg s) : Nat) : Int) :=
  PySem.intText_digits (fun c hc => fig_dig.mp (h c hc)) hn (by omega)
theorem digitsVal_lt : ∀ (n : Nat) (cs : List Nat), cs.length = n → (∀ c ∈ cs, 48 ≤ c ∧ c ≤ 57) → PySem.NumText.digitsVal cs < 10 ^ n
  | 0, cs, hl, _ => by
    rw [List.length_eq_zero_iff.mp hl]
    decide
  | n + 1, cs, hl, h => by
    have hne : cs ≠ [] := fun z => by rw [z] at hl; cases hl
    have e := List.dropLast_concat_getLast hne
    rw [← e, PySem.NumText.digitsVal_snoc]
    have ih := digitsVal_lt n cs.dropLast (by rw [List.length_dropLast, hl]; rfl) fun c hc => h c ((List.dropLast_sublist cs).subset hc)
    have := h _ (List.getLast_mem hne)
    rw [Nat.pow_succ]
    omega
theorem num_fig {i : Int} (h : 0 ≤ i) : FigS (toString i : String) := fun c hc => by
  obtain ⟨m, rfl⟩ : ∃ m : Nat, i = (m : Int) := ⟨i.toNat, by omega⟩
  have e := PySem.W.KIN.signs_num m
  have hc' : c ∈ (PySem.Str.ofString (toString ((m : Nat) : Int))).cps.toList := hc
  rw [e] at hc'
  obtain ⟨x, hx, rfl⟩ := List.mem_map.mp hc'
  rw [fig_dig]
  have := Nat.isDigit_of_mem_toDigits (b := 10) (by decide) (by decide) hx
  simp [Char.isDigit] at this
  exact ⟨by have := this.1; exact this, by have := this.2; exact this⟩

def IsBox (o : HO) : Prop := ∃ n : Int, o = .lst [.int n]
/-! ### draws from a thing that changes (IsBox: what it may be) -/
def SB (kb H : Hp) (b : Addr) (mt : List (Addr × HO)) : Prop := ∃ o : HO, IsBox o ∧ ST kb H ((b, o) :: mt)
section
variable {kb kb' H H1 : Hp} {b p : Addr} {mt : List (Addr × HO)} {o u : HO}
theorem SB.io (s : SB kb H b mt) : IsBox s.choose := s.choose_spec.1
theorem SB.e (s : SB kb H b mt) : Ex kb H := s.choose_spec.2.e
theorem SB.ext (s : SB kb H b mt) (e : Ex H H1) : SB kb H1 b mt := ⟨_, s.io, s.choose_spec.2.ext e⟩
theorem SB.new (s : SB kb H b mt) (hp : H p = none) (e : Ex H H1) (h1 : H1 p = some o) : SB (upd kb p o) H1 b mt := ⟨_, s.io, s.choose_spec.2.new hp e h1⟩
theorem SB.kbx (s : SB kb H b mt) (hp : H p = none) : Ex kb (upd kb p o) := s.choose_spec.2.kb_ex hp
theorem SB.newM (s : SB kb H b mt) (hp : H p = none) (e : Ex H H1) (h1 : H1 p = some o) : SB kb H1 b ((p, o) :: mt) :=
  ⟨_, s.io, (s.choose_spec.2.newM hp e h1).perm (List.Perm.swap ..)⟩
theorem SB.less (s : SB kb' H b mt) (e : Ex kb kb') : SB kb H b mt :=
  ⟨_, s.io, e.trans s.choose_spec.2.e, fun q hq => ⟨fresh_back e (s.choose_spec.2.m q hq).1, (s.choose_spec.2.m q hq).2⟩, s.choose_spec.2.d⟩
theorem SB.at2 {a : Addr} (s : SB kb H b ((a, o) :: mt)) : H a = some o := s.choose_spec.2.at2
theorem SB.set2 {a : Addr} (s : SB kb H b ((a, o) :: mt)) : SB kb (upd H a u) b ((a, u) :: mt) := ⟨_, s.io, s.choose_spec.2.set2⟩
theorem SB.fix {a : Addr} (s : SB kb H b ((a, o) :: mt)) : SB (upd kb a o) H b mt := ⟨_, s.io, (s.choose_spec.2.perm (List.Perm.swap ..)).fix⟩
theorem SB.fixx {a : Addr} (s : SB kb H b ((a, o) :: mt)) : Ex kb (upd kb a o) := Ex.new (s.choose_spec.2.m (a, o) (List.mem_cons_of_mem _ List.mem_cons_self)).1
theorem sb_of (io : IsBox o) (hb : H b = none) (e : Ex H H1) (h : H1 b = some o) : SB H H1 b [] :=
  ⟨o, io, e, fun q hq => by
    rcases List.mem_singleton.mp hq with rfl
    exact ⟨hb, h⟩, List.pairwise_singleton ..⟩
theorem SB.drop {x : Addr × HO} (s : SB kb H b (x :: mt)) : SB kb H b mt := by
  obtain ⟨n, io, s⟩ := s
  refine ⟨n, io, s.e, fun q hq => s.m q ?_, ?_⟩
  · rcases List.mem_cons.mp hq with rfl | h
    · exact List.mem_cons_self
    · exact List.mem_cons_of_mem _ (List.mem_cons_of_mem _ h)
  · have d := List.pairwise_cons.mp s.d
    exact List.pairwise_cons.mpr ⟨fun q hq => d.1 q (List.mem_cons_of_mem _ hq), (List.pairwise_cons.mp d.2).2⟩
end
def spTake : Sp := fun vs H Q _ => ∃ (b : Addr) (k : Int) (kb : Hp) (mt : List (Addr × HO)), vs = [.ref b, .int k] ∧ 0 < k ∧ k.natAbs.log2 < 9000 ∧ SB kb H b mt ∧ ∀ (r : Int) H', 0 ≤ r → r < k → SB kb H' b mt → Q (.int r) H'
section
variable {K : PySem.W.Frag} {σ : L2.St} {kb H : Hp} {b : Addr} {mt : List (Addr × HO)} {Q : VK} {ta tb te : TE} {tl : TA} {r : R2} {v : V} {D : Ends} {tz tu tw : TS} {t : TT}
/-! the steps, one at a time -/
theorem q_asgP {i : Nat} (h : te σ H (fun x H1 => tz D (σ.set i (some x)) H1)) : tSeq (tAsg te (gName i)) tz D σ H := h
theorem s_asgP {i : Nat} (h : te σ H (fun x H1 => D.nx (σ.set i (some x)) H1)) : tAsg te (gName i) D σ H := h
theorem s_asgE {g : TG} (h : te σ H fun x H1 => g x σ H1 D.nx) : tAsg te g D σ H := h
theorem s_retP (h : te σ H D.rt) : tRet te D σ H := h
theorem opP (h : ta σ H fun x H1 => tb σ H1 fun y H2 => r x y H2 Q) : tOp r ta tb σ H Q := h
theorem opcP (h : tb σ H fun y H2 => r v y H2 Q) : tOp r (tC v) tb σ H Q := h
theorem q_ifP (h : t σ H fun c H1 => if c = true then tu { D with nx := tz D } σ H1 else tw { D with nx := tz D } σ H1) : tSeq (tIfS t tu tw) tz D σ H := h
theorem s_ifP (h : t σ H fun c H1 => if c = true then tu D σ H1 else tw D σ H1) : tIfS t tu tw D σ H := h
theorem tk {i : Nat} {n : Int} (hσ : σ[i]? = some (some (.ref b))) (h0 : 0 < n) (hl : n.natAbs.log2 < 9000) (sb : SB kb H b mt) (k : ∀ (r : Int) H', 0 ≤ r → r < n → SB kb H' b mt → Q (.int r) H') :
    tCall spTake [] E0 (tCons (tVar i) (tCons (tC (.int n)) tNil)) σ H Q := ⟨_, hσ, b, n, kb, mt, rfl, h0, hl, sb, k⟩
theorem tkE {i : Nat} {n : Int} (hσ : σ[i]? = some (some (.ref b))) (he : Ev te σ H (.int n)) (h0 : 0 < n) (hl : n.natAbs.log2 < 9000) (sb : SB kb H b mt) (k : ∀ (r : Int) H', 0 ≤ r → r < n → SB kb H' b mt → Q (.int r) H') :
    tCall spTake [] E0 (tCons (tVar i) (tCons te tNil)) σ H Q := ⟨_, hσ, he H (Ex.refl H) _ fun H1 e1 => ⟨b, n, kb, mt, rfl, h0, hl, sb.ext e1, k⟩⟩
theorem atI_in {α : Type} {xs : List α} {r : Int} (h0 : 0 ≤ r) (h1 : r < xs.length) : ∃ x, atI xs r = some x ∧ x ∈ xs := by
  obtain ⟨n, rfl⟩ : ∃ n : Nat, r = (n : Int) := ⟨r.toNat, by omega⟩
  have hn : n < xs.length := by omega
  exact ⟨xs[n], atI_nat (List.getElem?_eq_getElem hn), List.getElem_mem hn⟩
/-- a sign of a text that is written, by a draw -/
theorem pick {i : Nat} {s : Str} {n : Int} (hσ : σ[i]? = some (some (.ref b))) (hn : ((sg s).length : Int) = n) (h0 : 0 < n) (hl : n.natAbs.log2 < 9000) (hz : s.length ≤ 100000) (sb : SB kb H b mt) (k : ∀ c H', c ∈ sg s → SB kb H' b mt → Q (.str ⟨#[c]⟩) H') :
    tOp rIxS (tC (.str s)) (tCall spTake [] E0 (tCons (tVar i) (tCons (tC (.int n)) tNil))) σ H Q :=
  opcP (tk hσ h0 hl sb fun r H' h1 h2 s' => by
    obtain ⟨c, hc, hm⟩ := atI_in (xs := sg s) h1 (by omega)
    exact ⟨s, r, c, rfl, rfl, sz_of hz, hc, k c H' hm s'⟩)
/-- a number of a list that is written, by a draw -/
theorem table {i : Nat} {xs : List Int} {n : Int} (hσ : σ[i]? = some (some (.ref b))) (hn : (xs.length : Int) = n) (h0 : 0 < n) (hl : n.natAbs.log2 < 9000) (hx : EvA tl σ H (ii xs)) (hz : xs.length ≤ 100000) (sb : SB kb H b mt) (k : ∀ x H', x ∈ xs → SB kb H' b mt → Q (.int x) H') :
    tOp (rIxL K) (tLst tl) (tCall spTake [] E0 (tCons (tVar i) (tCons (tC (.int n)) tNil))) σ H Q :=
  el_lst hx (by rw [ii_len]; exact hz) H (Ex.refl H) _ fun p H1 hp e1 h1 => tk hσ h0 hl (sb.new hp e1 h1) fun r H2 g1 g2 s2 => by
    obtain ⟨x, hc, hm⟩ := atI_in (xs := xs) g1 (by omega)
    obtain ⟨m, rfl⟩ : ∃ m : Nat, r = (m : Int) := ⟨r.toNat, by omega⟩
    have hlt : m < xs.length := by omega
    refine ⟨p, ii xs, (m : Int), .int (xs.getD m 0), rfl, rfl, sq_of (s2.e _ _ upd_same), atI_nat (ii_get hlt), k _ H2 ?_ (s2.less (sb.kbx hp))⟩
    rw [List.getD_eq_getElem?_getD, List.getElem?_eq_getElem hlt]
    exact List.getElem_mem hlt
theorem dec_int {i j : Int} : decide (V.int i = V.int j) = decide (i = j) := by
  by_cases h : i = j
  · rw [h, decide_eq_true rfl, decide_eq_true rfl]
  · rw [decide_eq_false h, decide_eq_false (fun z => h (V.int.inj z))]
/-- if a draw is so -/
theorem ifTk {i : Nat} {n m : Int} (hσ : σ[i]? = some (some (.ref b))) (h0 : 0 < n) (hl : n.natAbs.log2 < 9000) (sb : SB kb H b mt) (k1 : ∀ H', SB kb H' b mt → tu D σ H') (k2 : ∀ H', SB kb H' b mt → tw D σ H') :
    tIfS (tTest (tOp rEq (tCall spTake [] E0 (tCons (tVar i) (tCons (tC (.int n)) tNil))) (tC (.int m)))) tu tw D σ H :=
  tk hσ h0 hl sb fun r H' h1 h2 s' => ⟨rfl, _, rfl, by
    rw [dec_int]
    by_cases h : r = m
    · rw [decide_eq_true h]; exact k1 H' s'
    · rw [decide_eq_false h]; exact k2 H' s'⟩
end
theorem log_small {k : Int} (h0 : 0 ≤ k) (h : k < 2 ^ 200) : k.natAbs.log2 < 9000 := by
  have h1 : k.natAbs < 2 ^ 200 := by omega
  exact Nat.lt_of_lt_of_le (PySem.Flt.log2_lt_of (by decide) h1) (by decide)
theorem len_one {c : Nat} : (⟨#[c]⟩ : Str).length = 1 := rfl
theorem fig_of9 {c : Nat} (h : c ∈ sg ("123456789" : Str)) : c ∈ sg sFIG ∧ c ≠ 48 := by
  rw [show sg ("123456789" : Str) = [49, 50, 51, 52, 53, 54, 55, 56, 57] by decide +kernel] at h
  rw [fig_dig]
  simp only [List.mem_cons, List.not_mem_nil, or_false] at h
  omega

/-! ### the box: two numbers and a count -/
abbrev one (c : Nat) : Str := ⟨#[c]⟩
theorem join_sg : ∀ ts : List Str, sg (Str.join "" ts) = (ts.map sg).flatten
  | [] => by decide +kernel
  | [x] => by
    show sg x = _
    simp
  | x :: y :: r => by
    show sg (x ++ "" ++ Str.join "" (y :: r)) = _
    rw [sg_app, sg_app, join_sg (y :: r), show sg ("" : Str) = [] by decide +kernel, List.append_nil]
    rfl
theorem tjoin_sg (ts : List Str) : sg (Txt.join "" ts) = (ts.map sg).flatten := by
  unfold Txt.join
  rw [StrLaws.glued_eq_join]
  exact join_sg ts
theorem flat_ones : ∀ cs : List Nat, ((cs.map one).map sg).flatten = cs
  | [] => rfl
  | c :: cs => by
    rw [List.map_cons, List.map_cons, List.flatten_cons, flat_ones cs]
    rfl
theorem join_ones (cs : List Nat) : sg (Txt.join "" (cs.map one)) = cs := by
  rw [tjoin_sg, flat_ones]
theorem sum_ones : ∀ cs : List Nat, ((cs.map one).map (·.length)).sum = cs.length
  | [] => rfl
  | c :: cs => by
    rw [List.map_cons, List.map_cons, List.sum_cons, sum_ones cs, List.length_cons]
    show 1 + _ = _
    omega
theorem str_dig {r : Int} (h0 : 0 ≤ r) (h1 : r < 10) : ∃ c, (Str.ofString (toString r)) = one c ∧ c ∈ sg sFIG ∧ (1 ≤ r → c ≠ 48) := by
  obtain ⟨n, rfl⟩ : ∃ n : Nat, r = (n : Int) := ⟨r.toNat, by omega⟩
  have h : ∀ n : Nat, n < 10 → Str.ofString (toString (n : Int)) = one (48 + n) := by decide +kernel
  exact ⟨48 + n, h n (by omega), fig_dig.mpr (by omega), fun _ => by omega⟩

/-! ### deep values, and what is known of the heap: facts that stay (Φ), cells that may change (mt) -/
inductive W where
  | i (n : Int) | b (c : Bool) | n | s (t : Str) | l (ws : List W) | t (ws : List W) | m (x : MK) | q (ns : List Int)
def W.o : Option Int → W
  | none => .n
  | some z => .i z
mutual
inductive Rep (K : PySem.W.Frag) (C : Addr) (kb : Hp) : V → W → Prop
  | i (n : Int) : Rep K C kb (.int n) (.i n)
  | b (c : Bool) : Rep K C kb (.bl c) (.b c)
  | n : Rep K C kb .non .n
  | s (t : Str) : Rep K C kb (.str t) (.s t)
  | l {p : Addr} {vs : List V} {ws : List W} (h : kb p = some (.lst vs)) (r : RepL K C kb vs ws) : Rep K C kb (.ref p) (.l ws)
  | t {p : Addr} {vs : List V} {ws : List W} (h : kb p = some (.tup vs)) (r : RepL K C kb vs ws) : Rep K C kb (.ref p) (.t ws)
  | m {x : Addr} {k : MK} (h : MarkAt C kb x k) (ok : k.Ok) : Rep K C kb (.ref x) (.m k)
  | q {p : Addr} {ns : List Int} (h : SqL K kb p (ns.map V.int)) : Rep K C kb (.ref p) (.q ns)
inductive RepL (K : PySem.W.Frag) (C : Addr) (kb : Hp) : List V → List W → Prop
  | nil : RepL K C kb [] []
  | cons {v : V} {w : W} {vs : List V} {ws : List W} (h : Rep K C kb v w) (r : RepL K C kb vs ws) : RepL K C kb (v :: vs) (w :: ws)
end
section
variable {K : PySem.W.Frag} {C : Addr} {kb kb' H H1 : Hp} {v : V} {w : W} {vs us : List V} {ws xs : List W} {Φ Ψ : List (V × W)} {mt nt : List (Addr × (HO → Prop))} {p a : Addr}
theorem Rep.ex (e : Ex kb kb') (h : Rep K C kb v w) : Rep K C kb' v w :=
  Rep.rec (motive_1 := fun v w _ => Rep K C kb' v w) (motive_2 := fun vs ws _ => RepL K C kb' vs ws) (fun n => .i n) (fun c => .b c) .n (fun t => .s t) (fun h _ r => .l (e _ _ h) r) (fun h _ r => .t (e _ _ h) r) (fun h ok => .m (h.ex e) ok) (fun h => .q (ex_l e h)) .nil (fun _ _ h r => .cons h r) h
theorem RepL.ex (e : Ex kb kb') (h : RepL K C kb vs ws) : RepL K C kb' vs ws :=
  RepL.rec (motive_1 := fun v w _ => Rep K C kb' v w) (motive_2 := fun vs ws _ => RepL K C kb' vs ws) (fun n => .i n) (fun c => .b c) .n (fun t => .s t) (fun h _ r => .l (e _ _ h) r) (fun h _ r => .t (e _ _ h) r) (fun h ok => .m (h.ex e) ok) (fun h => .q (ex_l e h)) .nil (fun _ _ h r => .cons h r) h
/-- known of a value: what it is by itself, or by the facts -/
inductive Kn (Φ : List (V × W)) : V → W → Prop
  | i (n : Int) : Kn Φ (.int n) (.i n)
  | b (c : Bool) : Kn Φ (.bl c) (.b c)
  | n : Kn Φ .non .n
  | s (t : Str) : Kn Φ (.str t) (.s t)
  | o (z : Option Int) : Kn Φ (oi z) (W.o z)
  | f {v : V} {w : W} (h : (v, w) ∈ Φ) : Kn Φ v w
inductive KnL (Φ : List (V × W)) : List V → List W → Prop
  | nil : KnL Φ [] []
  | cons {v : V} {w : W} {vs : List V} {ws : List W} (h : Kn Φ v w) (r : KnL Φ vs ws) : KnL Φ (v :: vs) (w :: ws)
  | is {α : Type} (ns : List α) (f : α → V) (g : α → W) (h : ∀ x ∈ ns, Kn Φ (f x) (g x)) : KnL Φ (ns.map f) (ns.map g)
  | app {vs us : List V} {ws xs : List W} (h : KnL Φ vs ws) (r : KnL Φ us xs) : KnL Φ (vs ++ us) (ws ++ xs)
theorem Kn.mono (hs : ∀ q ∈ Φ, q ∈ Ψ) (h : Kn Φ v w) : Kn Ψ v w := by
  cases h with
  | i n => exact .i n
  | b c => exact .b c
  | n => exact .n
  | s t => exact .s t
  | o z => exact .o z
  | f h => exact .f (hs _ h)
theorem KnL.mono (hs : ∀ q ∈ Φ, q ∈ Ψ) (h : KnL Φ vs ws) : KnL Ψ vs ws := by
  induction h with
  | nil => exact .nil
  | cons h r ih => exact .cons (h.mono hs) ih
  | is ns f g h => exact .is ns f g fun x hx => (h x hx).mono hs
  | app h r ih1 ih2 => exact .app ih1 ih2
theorem RepL.map {α : Type} (f : α → V) (g : α → W) : ∀ ns : List α, (∀ x ∈ ns, Rep K C kb (f x) (g x)) → RepL K C kb (ns.map f) (ns.map g)
  | [], _ => .nil
  | x :: ns, h => .cons (h x List.mem_cons_self) (RepL.map f g ns fun y hy => h y (List.mem_cons_of_mem _ hy))
theorem RepL.app : ∀ {vs : List V} {ws : List W}, RepL K C kb vs ws → RepL K C kb us xs → RepL K C kb (vs ++ us) (ws ++ xs)
  | _, _, .nil, r => r
  | _, _, .cons h q, r => .cons h (RepL.app q r)
theorem RepL.len : ∀ {vs : List V} {ws : List W}, RepL K C kb vs ws → vs.length = ws.length
  | _, _, .nil => rfl
  | _, _, .cons h q => congrArg (· + 1) (RepL.len q)
theorem RepL.get : ∀ {vs : List V} {ws : List W} (j : Nat) (w : W), RepL K C kb vs ws → ws[j]? = some w → ∃ v, vs[j]? = some v ∧ Rep K C kb v w
  | _, _, j, w, .nil, h => by simp at h
  | _, _, 0, w, .cons h q, e => ⟨_, rfl, by cases e; exact h⟩
  | _, _, j + 1, w, .cons (vs := vs) (ws := ws) h q, e => RepL.get (vs := vs) (ws := ws) j w q e
/-- no tuple: what may change -/
def NT (o : HO) : Prop := ∀ xs, o ≠ .tup xs
theorem nt_l {xs : List V} : NT (.lst xs) := fun _ h => nomatch h
structure S (K : PySem.W.Frag) (C : Addr) (H : Hp) (Φ : List (V × W)) (mt : List (Addr × (HO → Prop))) : Prop where
  kb : ∃ kb, Ex kb H ∧ (∀ q ∈ Φ, Rep K C kb q.1 q.2) ∧ ∀ q ∈ mt, kb q.1 = none ∧ ∃ o, H q.1 = some o ∧ q.2 o ∧ NT o
  d : mt.Pairwise fun q r => q.1 ≠ r.1
theorem Kn.rep (F : ∀ q ∈ Φ, Rep K C kb q.1 q.2) (h : Kn Φ v w) : Rep K C kb v w := by
  cases h with
  | i n => exact .i n
  | b c => exact .b c
  | n => exact .n
  | s t => exact .s t
  | o z => cases z with
    | none => exact (Rep.n : Rep K C kb .non .n)
    | some i => exact (Rep.i i : Rep K C kb (.int i) (.i i))
  | f h => exact F _ h
theorem KnL.rep (F : ∀ q ∈ Φ, Rep K C kb q.1 q.2) (h : KnL Φ vs ws) : RepL K C kb vs ws := by
  induction h with
  | nil => exact .nil
  | cons h r ih => exact .cons (h.rep F) ih
  | is ns f g h => exact RepL.map f g ns fun x hx => (h x hx).rep F
  | app h r ih1 ih2 => exact ih1.app ih2
theorem S.ext (s : S K C H Φ mt) (e : Ex H H1) : S K C H1 Φ mt := by
  obtain ⟨⟨kb, h1, h2, h3⟩, d⟩ := s
  exact ⟨⟨kb, h1.trans e, h2, fun q hq => ⟨(h3 q hq).1, by obtain ⟨o, h4, h5⟩ := (h3 q hq).2; exact ⟨o, e _ _ h4, h5⟩⟩⟩, d⟩
theorem S.to (s : S K C H Φ mt) (h : ∀ q ∈ Ψ, q ∈ Φ) (h' : nt.Sublist mt) : S K C H Ψ nt := by
  obtain ⟨⟨kb, h1, h2, h3⟩, d⟩ := s
  exact ⟨⟨kb, h1, fun q hq => h2 q (h q hq), fun q hq => h3 q (h'.subset hq)⟩, d.sublist h'⟩
theorem S.rep (s : S K C H Φ mt) (h : Kn Φ v w) : Rep K C H v w := by
  obtain ⟨⟨kb, h1, h2, h3⟩, d⟩ := s
  exact (h.rep h2).ex h1
theorem S.repL (s : S K C H Φ mt) (h : KnL Φ vs ws) : RepL K C H vs ws := by
  obtain ⟨⟨kb, h1, h2, h3⟩, d⟩ := s
  exact (h.rep h2).ex h1
/-- a new thing that stays -/
theorem S.addO {o : HO} (s : S K C H Φ mt) (hp : H p = none) (e : Ex H H1) (h1 : H1 p = some o) (hr : ∀ kb, kb p = some o → (∀ q ∈ Φ, Rep K C kb q.1 q.2) → Rep K C kb (.ref p) w) : S K C H1 ((.ref p, w) :: Φ) mt := by
  obtain ⟨⟨kb, g1, g2, g3⟩, d⟩ := s
  have ek : Ex kb (upd kb p o) := Ex.new (fresh_back g1 hp)
  refine ⟨⟨upd kb p o, grow g1 hp e h1, fun q hq => ?_, fun q hq => ?_⟩, d⟩
  · rcases List.mem_cons.mp hq with rfl | hq
    · exact hr _ upd_same fun q hq => (g2 q hq).ex ek
    · exact (g2 q hq).ex ek
  · obtain ⟨n, o, h4, h5⟩ := g3 q hq
    exact ⟨kb_none n h4 hp, o, e _ _ h4, h5⟩
theorem S.addL (s : S K C H Φ mt) (hp : H p = none) (e : Ex H H1) (h1 : H1 p = some (.lst vs)) (k : KnL Φ vs ws) : S K C H1 ((.ref p, .l ws) :: Φ) mt :=
  s.addO hp e h1 fun kb h F => .l h (k.rep F)
theorem S.addT (s : S K C H Φ mt) (hp : H p = none) (e : Ex H H1) (h1 : H1 p = some (.tup vs)) (k : KnL Φ vs ws) : S K C H1 ((.ref p, .t ws) :: Φ) mt :=
  s.addO hp e h1 fun kb h F => .t h (k.rep F)
/-- a new thing that may change -/
theorem S.addM {o : HO} {P : HO → Prop} (s : S K C H Φ mt) (hp : H p = none) (e : Ex H H1) (h1 : H1 p = some o) (hP : P o) (nt : NT o := by exact nt_l) : S K C H1 Φ ((p, P) :: mt) := by
  obtain ⟨⟨kb, g1, g2, g3⟩, d⟩ := s
  refine ⟨⟨kb, g1.trans e, g2, fun q hq => ?_⟩, List.pairwise_cons.mpr ⟨fun q hq => ?_, d⟩⟩
  · rcases List.mem_cons.mp hq with rfl | hq
    · exact ⟨fresh_back g1 hp, o, h1, hP, nt⟩
    · obtain ⟨n, o, h4, h5⟩ := g3 q hq
      exact ⟨n, o, e _ _ h4, h5⟩
  · obtain ⟨n, o, h4, h5⟩ := g3 q hq
    exact (ne_of_none h4 hp).symm
inductive SetM (a : Addr) (P : HO → Prop) : List (Addr × (HO → Prop)) → List (Addr × (HO → Prop)) → Prop
  | hd {Q : HO → Prop} {mt : List (Addr × (HO → Prop))} : SetM a P ((a, Q) :: mt) ((a, P) :: mt)
  | tl {x : Addr × (HO → Prop)} {mt nt : List (Addr × (HO → Prop))} (h : SetM a P mt nt) : SetM a P (x :: mt) (x :: nt)
theorem SetM.map {P : HO → Prop} (h : SetM a P mt nt) : mt.map (·.1) = nt.map (·.1) := by
  induction h with
  | hd => rfl
  | tl h ih => rw [List.map_cons, List.map_cons, ih]
theorem SetM.has {P : HO → Prop} (h : SetM a P mt nt) : ∃ R, (a, R) ∈ mt := by
  induction h with
  | hd => exact ⟨_, List.mem_cons_self⟩
  | tl h ih => obtain ⟨R, h⟩ := ih; exact ⟨R, List.mem_cons_of_mem _ h⟩
theorem SetM.mem {P : HO → Prop} (h : SetM a P mt nt) (d : mt.Pairwise fun q r => q.1 ≠ r.1) : ∀ q ∈ nt, q = (a, P) ∨ (q ∈ mt ∧ q.1 ≠ a) := by
  induction h with
  | hd =>
    intro q hq
    rcases List.mem_cons.mp hq with h | h
    · exact .inl h
    · exact .inr ⟨List.mem_cons_of_mem _ h, ((List.pairwise_cons.mp d).1 q h).symm⟩
  | tl h ih =>
    intro q hq
    have z := List.pairwise_cons.mp d
    rcases List.mem_cons.mp hq with e | e
    · subst e
      obtain ⟨R, hR⟩ := h.has
      exact .inr ⟨List.mem_cons_self, z.1 _ hR⟩
    · exact (ih z.2 q e).imp id fun w => ⟨List.mem_cons_of_mem _ w.1, w.2⟩
theorem pw_map : ∀ mt : List (Addr × (HO → Prop)), mt.Pairwise (fun q r => q.1 ≠ r.1) ↔ (mt.map (·.1)).Pairwise (· ≠ ·) := fun mt => by rw [List.pairwise_map]
theorem S.set {o : HO} {P : HO → Prop} (s : S K C H Φ mt) (h : SetM a P mt nt) (hP : P o) (nt' : NT o := by exact nt_l) : S K C (upd H a o) Φ nt := by
  obtain ⟨⟨kb, g1, g2, g3⟩, d⟩ := s
  have d' : nt.Pairwise fun q r => q.1 ≠ r.1 := by rw [pw_map] at d ⊢; rw [← h.map]; exact d
  obtain ⟨R, hR⟩ := h.has
  refine ⟨⟨kb, Ex.mut g1 (g3 _ hR).1, g2, fun q hq => ?_⟩, d'⟩
  rcases h.mem d q hq with rfl | ⟨h, ha⟩
  · exact ⟨(g3 _ hR).1, o, upd_same, hP, nt'⟩
  · obtain ⟨n, o, h4, h5⟩ := g3 q h
    exact ⟨n, o, by rw [upd_ne ha]; exact h4, h5⟩
/-- a cell is laid down: it stays from here on -/
inductive RmM (a : Addr) (P : HO → Prop) : List (Addr × (HO → Prop)) → List (Addr × (HO → Prop)) → Prop
  | hd {mt : List (Addr × (HO → Prop))} : RmM a P ((a, P) :: mt) mt
  | tl {x : Addr × (HO → Prop)} {mt nt : List (Addr × (HO → Prop))} (h : RmM a P mt nt) : RmM a P (x :: mt) (x :: nt)
theorem RmM.sub {P : HO → Prop} (h : RmM a P mt nt) : nt.Sublist mt := by
  induction h with
  | hd => exact List.sublist_cons_self ..
  | tl h ih => exact ih.cons_cons _
theorem RmM.has {P : HO → Prop} (h : RmM a P mt nt) : (a, P) ∈ mt := by
  induction h with
  | hd => exact List.mem_cons_self
  | tl h ih => exact List.mem_cons_of_mem _ ih
theorem RmM.ne {P : HO → Prop} (h : RmM a P mt nt) (d : mt.Pairwise fun q r => q.1 ≠ r.1) : ∀ q ∈ nt, q.1 ≠ a := by
  induction h with
  | hd => intro q hq; exact ((List.pairwise_cons.mp d).1 q hq).symm
  | tl h ih =>
    intro q hq
    have z := List.pairwise_cons.mp d
    rcases List.mem_cons.mp hq with rfl | hq
    · exact z.1 _ h.has
    · exact ih z.2 q hq
theorem S.fixO {o : HO} (s : S K C H Φ mt) (h : RmM a (Eq o) mt nt) (hr : ∀ kb, kb a = some o → (∀ q ∈ Φ, Rep K C kb q.1 q.2) → Rep K C kb (.ref a) w) : S K C H ((.ref a, w) :: Φ) nt := by
  obtain ⟨⟨kb, g1, g2, g3⟩, d⟩ := s
  obtain ⟨n, o', h4, rfl, _⟩ := g3 _ h.has
  have ek : Ex kb (upd kb a o) := Ex.new n
  refine ⟨⟨upd kb a o, fun b u q => ?_, fun q hq => ?_, fun q hq => ?_⟩, d.sublist h.sub⟩
  · by_cases hb : b = a
    · subst hb; rw [upd_same] at q; cases q; exact h4
    · rw [upd_ne hb] at q; exact g1 b u q
  · rcases List.mem_cons.mp hq with rfl | hq
    · exact hr _ upd_same fun q hq => (g2 q hq).ex ek
    · exact (g2 q hq).ex ek
  · obtain ⟨n1, o1, h5, h6⟩ := g3 q (h.sub.subset hq)
    exact ⟨by rw [upd_ne (h.ne d q hq)]; exact n1, o1, h5, h6⟩
theorem S.fixL (s : S K C H Φ mt) (h : RmM a (Eq (.lst vs)) mt nt) (k : KnL Φ vs ws) : S K C H ((.ref a, .l ws) :: Φ) nt :=
  s.fixO h fun kb h F => .l h (k.rep F)
theorem S.at {o : HO} (s : S K C H Φ mt) (h : (a, Eq o) ∈ mt) : H a = some o := by
  obtain ⟨⟨kb, g1, g2, g3⟩, d⟩ := s
  obtain ⟨n, o', h4, rfl, _⟩ := g3 _ h
  exact h4
theorem S.box {P : HO → Prop} (s : S K C H Φ mt) (h : (a, P) ∈ mt) : ∃ o, H a = some o ∧ P o := by
  obtain ⟨⟨kb, g1, g2, g3⟩, d⟩ := s
  obtain ⟨n, o, h4, h5, _⟩ := g3 _ h
  exact ⟨o, h4, h5⟩
end
section
variable {K : PySem.W.Frag} {C : Addr} {H : Hp} {Φ : List (V × W)} {mt nt : List (Addr × (HO → Prop))} {a : Addr} {P : HO → Prop}
theorem S.perm (s : S K C H Φ mt) (h : mt.Perm nt) : S K C H Φ nt := by
  obtain ⟨⟨kb, h1, h2, h3⟩, d⟩ := s
  exact ⟨⟨kb, h1, h2, fun q hq => h3 q (h.mem_iff.mpr hq)⟩, d.perm h fun z => z.symm⟩
/-- one cell told first -/
theorem S.front (s : S K C H Φ mt) (h : (a, P) ∈ mt) : ∃ nt, S K C H Φ ((a, P) :: nt) ∧ ∀ H' Ψ, S K C H' Ψ ((a, P) :: nt) → S K C H' Ψ mt := by
  obtain ⟨m1, m2, rfl⟩ := List.append_of_mem h
  exact ⟨m1 ++ m2, s.perm List.perm_middle, fun H' Ψ z => z.perm List.perm_middle.symm⟩
theorem S.sharp (s : S K C H Φ ((a, P) :: mt)) : ∃ o, P o ∧ S K C H Φ ((a, Eq o) :: mt) := by
  obtain ⟨⟨kb, h1, h2, h3⟩, d⟩ := s
  obtain ⟨n, o, h4, h5, h6⟩ := h3 _ List.mem_cons_self
  refine ⟨o, h5, ⟨kb, h1, h2, fun q hq => ?_⟩, ?_⟩
  · rcases List.mem_cons.mp hq with rfl | hq
    · exact ⟨n, o, h4, rfl, h6⟩
    · exact h3 q (List.mem_cons_of_mem _ hq)
  · have z := List.pairwise_cons.mp d
    exact List.pairwise_cons.mpr ⟨fun q hq => z.1 q hq, z.2⟩
theorem S.blur {o : HO} (s : S K C H Φ ((a, Eq o) :: mt)) (hP : P o) : S K C H Φ ((a, P) :: mt) := by
  obtain ⟨⟨kb, h1, h2, h3⟩, d⟩ := s
  obtain ⟨n, o, h4, rfl, h6⟩ := h3 _ List.mem_cons_self
  refine ⟨⟨kb, h1, h2, fun q hq => ?_⟩, ?_⟩
  · rcases List.mem_cons.mp hq with rfl | hq
    · exact ⟨n, _, h4, hP, h6⟩
    · exact h3 q (List.mem_cons_of_mem _ hq)
  · have z := List.pairwise_cons.mp d
    exact List.pairwise_cons.mpr ⟨fun q hq => z.1 q hq, z.2⟩
/-- a new mark -/
theorem S.addMark {x : Addr} {m : MK} {H1 : Hp} (s : S K C H Φ mt) (hx : H x = none) (e : Ex H H1) (h : MarkAt C H1 x m) (ok : m.Ok) : S K C H1 ((.ref x, .m m) :: Φ) mt := by
  obtain ⟨⟨kb, g1, g2, g3⟩, d⟩ := s
  obtain ⟨dx, pa, ma, h1, h2, h3⟩ := h
  have g := g1.trans e
  refine ⟨⟨fun b => if b = x ∨ b = pa ∨ b = ma then H1 b else kb b, fun b o hb => ?_, fun q hq => ?_, fun q hq => ?_⟩, d⟩
  · dsimp only at hb
    split at hb
    · exact hb
    · exact g b o hb
  · have ek : Ex kb fun b => if b = x ∨ b = pa ∨ b = ma then H1 b else kb b := fun b o hb => by
      dsimp only
      split
      · exact g b o hb
      · exact hb
    rcases List.mem_cons.mp hq with rfl | hq
    · exact .m ⟨dx, pa, ma, (if_pos (.inl rfl)).trans h1, (if_pos (.inr (.inl rfl))).trans h2, (if_pos (.inr (.inr rfl))).trans h3⟩ ok
    · exact (g2 q hq).ex ek
  · obtain ⟨n, o, h4, h5, h6⟩ := g3 q hq
    refine ⟨?_, o, e _ _ h4, h5, h6⟩
    dsimp only
    rw [if_neg ?_]
    · exact n
    · rintro (hz | hz | hz)
      · rw [hz, hx] at h4; cases h4
      · have := e _ _ h4; rw [hz, h2] at this; cases this; exact h6 _ rfl
      · have := e _ _ h4; rw [hz, h3] at this; cases this; exact h6 _ rfl
end

/-! ### steps without side conditions, found by the class search -/
class St1 (G : Prop) (G' : outParam Prop) : Prop where
  h : G' → G
class Stp (G : Prop) (G' : outParam Prop) : Prop where
  h : G' → G
instance (priority := low) {G : Prop} : Stp G G := ⟨id⟩
instance {G G1 G2 : Prop} [a : St1 G G1] [b : Stp G1 G2] : Stp G G2 := ⟨fun h => a.h (b.h h)⟩
theorem st_go {G G1 G2 : Prop} [a : St1 G G1] [b : Stp G1 G2] (h : G2) : G := a.h (b.h h)
class At {α : Type} (xs : List (Option α)) (i : Nat) (v : outParam α) : Prop where
  h : xs[i]? = some (some v)
instance {α : Type} {v : α} {xs : List (Option α)} : At (some v :: xs) 0 v := ⟨rfl⟩
instance {α : Type} {x : Option α} {v : α} {xs : List (Option α)} {i : Nat} [q : At xs i v] : At (x :: xs) (i + 1) v := ⟨by rw [List.getElem?_cons_succ]; exact q.h⟩
/-! ### steps, each with what is wanted told by itself -/
class SetAt {α : Type} (xs : List α) (j : Nat) (v : α) (ys : outParam (List α)) : Prop where
  h : xs.set j v = ys
instance {α : Type} {x v : α} {xs : List α} : SetAt (x :: xs) 0 v (v :: xs) := ⟨rfl⟩
instance {α : Type} {x v : α} {xs ys : List α} {j : Nat} [q : SetAt xs j v ys] : SetAt (x :: xs) (j + 1) v (x :: ys) := ⟨by rw [List.set_cons_succ, q.h]⟩
class Wp (σ : L2.St) (vs : List Nat) (σ0 : outParam L2.St) : Prop where
  h : wipe σ vs = σ0
instance {σ : L2.St} : Wp σ [] σ := ⟨rfl⟩
instance {σ σ1 σ0 : L2.St} {v : Nat} {vs : List Nat} [q : Wp σ vs σ1] [r : SetAt σ1 v none σ0] : Wp σ (v :: vs) σ0 := ⟨by show (wipe σ vs).set v none = σ0; rw [q.h, r.h]⟩
class Ix (i : Int) (j : outParam Nat) : Prop where
  h : i = (j : Int)
instance : Ix 0 0 := ⟨rfl⟩
instance : Ix 1 1 := ⟨rfl⟩
instance : Ix 2 2 := ⟨rfl⟩
instance : Ix 3 3 := ⟨rfl⟩
instance : Ix 4 4 := ⟨rfl⟩
instance : Ix 5 5 := ⟨rfl⟩
instance : Ix 6 6 := ⟨rfl⟩
instance : Ix 7 7 := ⟨rfl⟩
instance {j : Nat} : Ix (j : Int) j := ⟨rfl⟩
section
variable {K : PySem.W.Frag} {C : Addr} {σ : L2.St} {H : Hp} {Φ : List (V × W)} {mt nt : List (Addr × (HO → Prop))} {Q : VK} {D : Ends} {tz tu tw : TS} {ta tb tc te to : TE} {t u : TT} {tl tr tk : TA} {r r' : R2} {v x y z : V} {vs us xs : List V} {ws : List W} {w : W} {g : TG} {p a : Addr}
theorem g_seqA {i : Nat} (h : te σ H fun x H1 => tz D (σ.set i (some x)) H1) : tSeq (tAsg te (gName i)) tz D σ H := h
instance {i : Nat} : St1 (tSeq (tAsg te (gName i)) tz D σ H) (te σ H fun x H1 => tz D (σ.set i (some x)) H1) := ⟨g_seqA⟩
theorem g_asgA {i : Nat} (h : te σ H fun x H1 => D.nx (σ.set i (some x)) H1) : tAsg te (gName i) D σ H := h
instance {i : Nat} : St1 (tAsg te (gName i) D σ H) (te σ H fun x H1 => D.nx (σ.set i (some x)) H1) := ⟨g_asgA⟩
theorem g_seqG (h : te σ H fun x H1 => g x σ H1 (tz D)) : tSeq (tAsg te g) tz D σ H := h
instance (priority := low) : St1 (tSeq (tAsg te g) tz D σ H) (te σ H fun x H1 => g x σ H1 (tz D)) := ⟨g_seqG⟩
theorem g_asgG (h : te σ H fun x H1 => g x σ H1 D.nx) : tAsg te g D σ H := h
instance (priority := low) : St1 (tAsg te g D σ H) (te σ H fun x H1 => g x σ H1 D.nx) := ⟨g_asgG⟩
theorem g_seqI (h : t σ H fun c H1 => if c = true then tu { D with nx := tz D } σ H1 else tw { D with nx := tz D } σ H1) : tSeq (tIfS t tu tw) tz D σ H := h
instance : St1 (tSeq (tIfS t tu tw) tz D σ H) (t σ H fun c H1 => if c = true then tu { D with nx := tz D } σ H1 else tw { D with nx := tz D } σ H1) := ⟨g_seqI⟩
theorem g_if (h : t σ H fun c H1 => if c = true then tu D σ H1 else tw D σ H1) : tIfS t tu tw D σ H := h
instance : St1 (tIfS t tu tw D σ H) (t σ H fun c H1 => if c = true then tu D σ H1 else tw D σ H1) := ⟨g_if⟩
theorem g_seqD (h : te σ H fun _ H1 => tz D σ H1) : tSeq (tDrop te) tz D σ H := h
instance : St1 (tSeq (tDrop te) tz D σ H) (te σ H fun _ H1 => tz D σ H1) := ⟨g_seqD⟩
theorem g_drop (h : te σ H fun _ H1 => D.nx σ H1) : tDrop te D σ H := h
instance : St1 (tDrop te D σ H) (te σ H fun _ H1 => D.nx σ H1) := ⟨g_drop⟩
theorem g_ret (h : te σ H D.rt) : tRet te D σ H := h
instance : St1 (tRet te D σ H) (te σ H D.rt) := ⟨g_ret⟩
theorem g_next (h : D.nx σ H) : tNext D σ H := h
instance : St1 (tNext D σ H) (D.nx σ H) := ⟨g_next⟩
theorem g_c (h : Q v H) : tC v σ H Q := h
instance : St1 (tC v σ H Q) (Q v H) := ⟨g_c⟩
theorem g_var {i : Nat} (hσ : σ[i]? = some (some v)) (h : Q v H) : tVar i σ H Q := ⟨v, hσ, h⟩
instance {i : Nat} [q : At σ i v] : St1 (tVar i σ H Q) (Q v H) := ⟨fun h => g_var q.h h⟩
theorem g_op (h : ta σ H fun x H1 => tb σ H1 fun y H2 => r x y H2 Q) : tOp r ta tb σ H Q := h
instance : St1 (tOp r ta tb σ H Q) (ta σ H fun x H1 => tb σ H1 fun y H2 => r x y H2 Q) := ⟨g_op⟩
theorem g_un {r : V → Hp → VK → Prop} (h : ta σ H fun x H1 => r x H1 Q) : tUn r ta σ H Q := h
instance {r : V → Hp → VK → Prop} : St1 (tUn r ta σ H Q) (ta σ H fun x H1 => r x H1 Q) := ⟨g_un⟩
theorem g_ifE (h : t σ H fun c H1 => if c = true then ta σ H1 Q else tb σ H1 Q) : tIf t ta tb σ H Q := h
instance : St1 (tIf t ta tb σ H Q) (t σ H fun c H1 => if c = true then ta σ H1 Q else tb σ H1 Q) := ⟨g_ifE⟩
theorem g_test {Q : Bool → Hp → Prop} (h : te σ H fun x H' => ∃ k, x = .bl k ∧ Q k H') : tTest te σ H Q := h
instance {Q : Bool → Hp → Prop} : St1 (tTest te σ H Q) (te σ H fun x H' => ∃ k, x = .bl k ∧ Q k H') := ⟨g_test⟩
theorem g_tB {Q : Bool → Hp → Prop} (h : te σ H fun x H' => ∃ k, x = .bl k ∧ Q k H') : tB te σ H Q := h
instance {Q : Bool → Hp → Prop} : St1 (tB te σ H Q) (te σ H fun x H' => ∃ k, x = .bl k ∧ Q k H') := ⟨g_tB⟩
theorem g_tNot {Q : Bool → Hp → Prop} (h : t σ H fun c H1 => Q (!c) H1) : tNot t σ H Q := h
instance {Q : Bool → Hp → Prop} : St1 (tNot t σ H Q) (t σ H fun c H1 => Q (!c) H1) := ⟨g_tNot⟩
theorem g_tAnd {Q : Bool → Hp → Prop} (h : t σ H fun c H1 => if c = true then u σ H1 Q else Q false H1) : tAnd t u σ H Q := h
instance {Q : Bool → Hp → Prop} : St1 (tAnd t u σ H Q) (t σ H fun c H1 => if c = true then u σ H1 Q else Q false H1) := ⟨g_tAnd⟩
theorem g_tOr {Q : Bool → Hp → Prop} (h : t σ H fun c H1 => if c = true then Q true H1 else u σ H1 Q) : tOr t u σ H Q := h
instance {Q : Bool → Hp → Prop} : St1 (tOr t u σ H Q) (t σ H fun c H1 => if c = true then Q true H1 else u σ H1 Q) := ⟨g_tOr⟩
theorem g_andV (h : ta σ H fun x H1 => ∃ c, x = .bl c ∧ if c = true then tb σ H1 Q else Q (.bl false) H1) : tAndV ta tb σ H Q := h
instance : St1 (tAndV ta tb σ H Q) (ta σ H fun x H1 => ∃ c, x = .bl c ∧ if c = true then tb σ H1 Q else Q (.bl false) H1) := ⟨g_andV⟩
theorem g_orV (h : ta σ H fun x H1 => ∃ c, x = .bl c ∧ if c = true then Q (.bl true) H1 else tb σ H1 Q) : tOrV ta tb σ H Q := h
instance : St1 (tOrV ta tb σ H Q) (ta σ H fun x H1 => ∃ c, x = .bl c ∧ if c = true then Q (.bl true) H1 else tb σ H1 Q) := ⟨g_orV⟩
theorem g_notV (h : ta σ H fun x H1 => ∃ c, x = .bl c ∧ Q (.bl (!c)) H1) : tNotV ta σ H Q := h
instance : St1 (tNotV ta σ H Q) (ta σ H fun x H1 => ∃ c, x = .bl c ∧ Q (.bl (!c)) H1) := ⟨g_notV⟩
theorem g_sl {rs : V → Option Int → Option Int → Hp → VK → Prop} {t1 t2 : TO} (h : te σ H fun x H1 => t1 σ H1 fun l H2 => t2 σ H2 fun u H3 => rs x l u H3 Q) : tSl rs te t1 t2 σ H Q := h
instance {rs : V → Option Int → Option Int → Hp → VK → Prop} {t1 t2 : TO} : St1 (tSl rs te t1 t2 σ H Q) (te σ H fun x H1 => t1 σ H1 fun l H2 => t2 σ H2 fun u H3 => rs x l u H3 Q) := ⟨g_sl⟩
theorem g_noPart {Q : Option Int → Hp → Prop} (h : Q none H) : tNoPart σ H Q := h
instance {Q : Option Int → Hp → Prop} : St1 (tNoPart σ H Q) (Q none H) := ⟨g_noPart⟩
theorem g_part {Q : Option Int → Hp → Prop} (h : te σ H fun x H1 => ∃ i, x = .int i ∧ Q (some i) H1) : tPart te σ H Q := h
instance {Q : Option Int → Hp → Prop} : St1 (tPart te σ H Q) (te σ H fun x H1 => ∃ i, x = .int i ∧ Q (some i) H1) := ⟨g_part⟩
theorem g_cb {r : List V → Hp → VK → Prop} (h : tl σ H fun vs H1 => r vs H1 Q) : tCB r tl σ H Q := h
instance {r : List V → Hp → VK → Prop} : St1 (tCB r tl σ H Q) (tl σ H fun vs H1 => r vs H1 Q) := ⟨g_cb⟩
theorem g_call {sp : Sp} {dvs : List V} {E : XK} (h : tl σ H fun vs H1 => sp (vs ++ dvs) H1 Q E) : tCall sp dvs E tl σ H Q := h
theorem g_call0 {sp : Sp} {E : XK} (h : tl σ H fun vs H1 => sp vs H1 Q E) : tCall sp [] E tl σ H Q := by
  unfold tCall
  simpa only [List.append_nil] using h
instance {sp : Sp} {E : XK} : St1 (tCall sp [] E tl σ H Q) (tl σ H fun vs H1 => sp vs H1 Q E) := ⟨g_call0⟩
theorem g_cons {Q : List V → Hp → Prop} (h : te σ H fun x H1 => tr σ H1 fun xs H2 => Q (x :: xs) H2) : tCons te tr σ H Q := h
instance {Q : List V → Hp → Prop} : St1 (tCons te tr σ H Q) (te σ H fun x H1 => tr σ H1 fun xs H2 => Q (x :: xs) H2) := ⟨g_cons⟩
theorem g_nil {Q : List V → Hp → Prop} (h : Q [] H) : tNil σ H Q := h
instance {Q : List V → Hp → Prop} : St1 (tNil σ H Q) (Q [] H) := ⟨g_nil⟩
theorem g_m1 {r : V → List V → Hp → VK → Prop} (h : to σ H fun x H1 => (∃ a, x = .str a) ∧ te σ H1 fun y H2 => r x [y] H2 Q) : tM1 r to te σ H Q := h
instance {r : V → List V → Hp → VK → Prop} : St1 (tM1 r to te σ H Q) (to σ H fun x H1 => (∃ a, x = .str a) ∧ te σ H1 fun y H2 => r x [y] H2 Q) := ⟨g_m1⟩
def TyW (K : PySem.W.Frag) (T : String) (x : V) (H : Hp) (P : Prop) : Prop := tyV K T x H ∧ P
theorem g_bm {T : String} {r : V → List V → Hp → VK → Prop} (h : to σ H fun x H1 => TyW K T x H1 (tl σ H1 fun xs H2 => r x xs H2 Q)) : tBM K T r to tl σ H Q := h
instance {T : String} {r : V → List V → Hp → VK → Prop} : St1 (tBM K T r to tl σ H Q) (to σ H fun x H1 => TyW K T x H1 (tl σ H1 fun xs H2 => r x xs H2 Q)) := ⟨g_bm⟩
theorem g_fmt (h : te σ H fun x H1 => (∃ y : Str, x = .str y ∧ y.length ≤ sizeLine ∧ Q (.str y) H1) ∨ ∃ i : Int, x = .int i ∧ i.natAbs.log2 < 1920 ∧ Q (.str (toString i)) H1) : tFmt te σ H Q := h
def NewM (xs : List V) (H : Hp) (Q : VK) : Prop := xs.length ≤ sizeLine ∧ ∀ p, H p = none → Q (.ref p) (upd H p (.lst xs))
def NewL (xs : List V) (H : Hp) (Q : VK) : Prop := xs.length ≤ sizeLine ∧ ∀ p, H p = none → Q (.ref p) (upd H p (.lst xs))
def NewT (xs : List V) (H : Hp) (Q : VK) : Prop := xs.length ≤ sizeLine ∧ ∀ p, H p = none → Q (.ref p) (upd H p (.tup xs))
/-- lists that may change -/
def tLstM (t : TA) : TE := tLst t
theorem g_lst (h : tl σ H fun xs H1 => NewL xs H1 Q) : tLst tl σ H Q := h
instance : St1 (tLst tl σ H Q) (tl σ H fun xs H1 => NewL xs H1 Q) := ⟨g_lst⟩
theorem g_tup (h : tl σ H fun xs H1 => NewT xs H1 Q) : tTup tl σ H Q := h
instance : St1 (tTup tl σ H Q) (tl σ H fun xs H1 => NewT xs H1 Q) := ⟨g_tup⟩
theorem g_newL (s : S K C H Φ mt) (kn : KnL Φ xs ws) (hz : xs.length ≤ 100000) (k : ∀ p H1, S K C H1 ((.ref p, .l ws) :: Φ) mt → Q (.ref p) H1) : NewL xs H Q :=
  ⟨sz_of hz, fun p hp => k p _ (s.addL hp (Ex.new hp) upd_same kn)⟩
theorem g_newT (s : S K C H Φ mt) (kn : KnL Φ xs ws) (hz : xs.length ≤ 100000) (k : ∀ p H1, S K C H1 ((.ref p, .t ws) :: Φ) mt → Q (.ref p) H1) : NewT xs H Q :=
  ⟨sz_of hz, fun p hp => k p _ (s.addT hp (Ex.new hp) upd_same kn)⟩
theorem g_newM (s : S K C H Φ mt) (hz : xs.length ≤ 100000) (k : ∀ p H1, S K C H1 Φ ((p, Eq (.lst xs)) :: mt) → Q (.ref p) H1) : NewL xs H Q :=
  ⟨sz_of hz, fun p hp => k p _ (s.addM hp (Ex.new hp) upd_same rfl)⟩
/-! what a test tells -/
theorem g_exB {P : Bool → Prop} {b : Bool} (h : P b) : ∃ k, V.bl b = V.bl k ∧ P k := ⟨b, rfl, h⟩
instance {P : Bool → Prop} {b : Bool} : St1 (∃ k, V.bl b = V.bl k ∧ P k) (P b) := ⟨g_exB⟩
theorem g_exI {P : Int → Prop} {i : Int} (h : P i) : ∃ k, V.int i = V.int k ∧ P k := ⟨i, rfl, h⟩
instance {P : Int → Prop} {i : Int} : St1 (∃ k, V.int i = V.int k ∧ P k) (P i) := ⟨g_exI⟩
theorem g_exS {P : Str → Prop} {i : Str} (h : P i) : ∃ k, V.str i = V.str k ∧ P k := ⟨i, rfl, h⟩
instance {P : Str → Prop} {i : Str} : St1 (∃ k, V.str i = V.str k ∧ P k) (P i) := ⟨g_exS⟩
theorem g_strA {s : Str} {P : Prop} (h : P) : (∃ a, V.str s = .str a) ∧ P := ⟨⟨s, rfl⟩, h⟩
instance {s : Str} {P : Prop} : St1 ((∃ a, V.str s = .str a) ∧ P) (P) := ⟨g_strA⟩
theorem g_rfl {P : Prop} {v : V} (h : P) : v = v ∧ P := ⟨rfl, h⟩
instance {P : Prop} {v : V} : St1 (v = v ∧ P) (P) := ⟨g_rfl⟩
variable {A B : Prop} {b : Bool}
theorem g_iteT (h : A) : if true = true then A else B := by rw [if_pos rfl]; exact h
instance : St1 (if true = true then A else B) (A) := ⟨g_iteT⟩
theorem g_iteF (h : B) : if false = true then A else B := by rw [if_neg Bool.false_ne_true]; exact h
instance : St1 (if false = true then A else B) (B) := ⟨g_iteF⟩
theorem g_iteD {P : Prop} {i : Decidable P} (h1 : P → A) (h2 : ¬P → B) : if decide P = true then A else B := by
  by_cases h : P
  · rw [decide_eq_true h]; exact g_iteT (h1 h)
  · rw [decide_eq_false h]; exact g_iteF (h2 h)
theorem g_iteN (h : if b = true then B else A) : if (!b) = true then A else B := by cases b <;> exact h
instance : St1 (if (!b) = true then A else B) (if b = true then B else A) := ⟨g_iteN⟩
theorem g_iteB (h1 : b = true → A) (h2 : b = false → B) : if b = true then A else B := by
  cases b
  · exact g_iteF (h2 rfl)
  · exact g_iteT (h1 rfl)
theorem g_iteVI {m n : Int} (h1 : m = n → A) (h2 : ¬ m = n → B) : if decide (V.int m = V.int n) = true then A else B :=
  g_iteD (fun h => h1 (V.int.inj h)) fun h => h2 fun e => h (e ▸ rfl)
theorem g_iteVS {m n : Str} (h1 : m = n → A) (h2 : ¬ m = n → B) : if decide (V.str m = V.str n) = true then A else B :=
  g_iteD (fun h => h1 (V.str.inj h)) fun h => h2 fun e => h (e ▸ rfl)
theorem g_iteON {o : Option Int} (h1 : o = none → A) (h2 : ∀ i, o = some i → B) : if decide (oi o = .non) = true then A else B := by
  cases o with
  | none => exact g_iteD (fun _ => h1 rfl) fun h => (h rfl).elim
  | some i => exact g_iteD (fun h => nomatch h) fun _ => h2 i rfl
theorem g_iteIN {i : Int} (h : B) : if decide (V.int i = .non) = true then A else B := g_iteD (fun h => nomatch h) fun _ => h
instance {i : Int} : St1 (if decide (V.int i = .non) = true then A else B) (B) := ⟨g_iteIN⟩
theorem g_iteSN {i : Str} (h : B) : if decide (V.str i = .non) = true then A else B := g_iteD (fun h => nomatch h) fun _ => h
instance {i : Str} : St1 (if decide (V.str i = .non) = true then A else B) (B) := ⟨g_iteSN⟩
theorem g_iteRN {i : Addr} (h : B) : if decide (V.ref i = .non) = true then A else B := g_iteD (fun h => nomatch h) fun _ => h
instance {i : Addr} : St1 (if decide (V.ref i = .non) = true then A else B) (B) := ⟨g_iteRN⟩
theorem g_iteNN (h : A) : if decide (V.non = .non) = true then A else B := g_iteD (fun _ => h) fun h => (h rfl).elim
instance : St1 (if decide (V.non = .non) = true then A else B) (A) := ⟨g_iteNN⟩
/-! reading -/
theorem rep_strs : ∀ {vs : List V} {ks : List Str}, RepL K C H vs (ks.map W.s) → vs = ks.map V.str
  | [], [], _ => rfl
  | v :: vs, k :: ks, .cons h r => by cases h; rw [rep_strs r]; rfl
theorem g_ixLI {ns : List Int} {i : Int} (s : S K C H Φ mt) (h : (.ref p, .l (ns.map W.i)) ∈ Φ) (h0 : 0 ≤ i) (h1 : i < ns.length) (k : ∀ n, atI ns i = some n → n ∈ ns → Q (.int n) H) : rIxL K (.ref p) (.int i) H Q := by
  obtain ⟨j, rfl⟩ : ∃ j : Nat, i = (j : Int) := ⟨i.toNat, by omega⟩
  have hj : j < ns.length := by omega
  cases s.rep (.f h) with
  | l hq hr =>
    obtain ⟨v, hv, r⟩ := hr.get j (.i (ns[j]'hj)) (by rw [List.getElem?_map, List.getElem?_eq_getElem hj]; rfl)
    cases r
    exact ⟨p, _, _, _, rfl, rfl, sq_of hq, atI_nat hv, k _ (atI_nat (List.getElem?_eq_getElem hj)) (List.getElem_mem hj)⟩
theorem g_ixLS {ns : List Str} {i : Int} (s : S K C H Φ mt) (h : (.ref p, .l (ns.map W.s)) ∈ Φ) (h0 : 0 ≤ i) (h1 : i < ns.length) (k : ∀ n, atI ns i = some n → n ∈ ns → Q (.str n) H) : rIxL K (.ref p) (.int i) H Q := by
  obtain ⟨j, rfl⟩ : ∃ j : Nat, i = (j : Int) := ⟨i.toNat, by omega⟩
  have hj : j < ns.length := by omega
  cases s.rep (.f h) with
  | l hq hr =>
    obtain ⟨v, hv, r⟩ := hr.get j (.s (ns[j]'hj)) (by rw [List.getElem?_map, List.getElem?_eq_getElem hj]; rfl)
    cases r
    exact ⟨p, _, _, _, rfl, rfl, sq_of hq, atI_nat hv, k _ (atI_nat (List.getElem?_eq_getElem hj)) (List.getElem_mem hj)⟩
theorem rep_o {o : Option Int} (h : Rep K C H v (W.o o)) : v = oi o := by
  cases o with
  | none => change Rep K C H v .n at h; cases h; rfl
  | some i => change Rep K C H v (.i i) at h; cases h; rfl
theorem g_ixLO {ns : List (Option Int)} {i : Int} (s : S K C H Φ mt) (h : (.ref p, .l (ns.map W.o)) ∈ Φ) (h0 : 0 ≤ i) (h1 : i < ns.length) (k : ∀ n, atI ns i = some n → n ∈ ns → Q (oi n) H) : rIxL K (.ref p) (.int i) H Q := by
  obtain ⟨j, rfl⟩ : ∃ j : Nat, i = (j : Int) := ⟨i.toNat, by omega⟩
  have hj : j < ns.length := by omega
  cases s.rep (.f h) with
  | l hq hr =>
    obtain ⟨v, hv, r⟩ := hr.get j (W.o (ns[j]'hj)) (by rw [List.getElem?_map, List.getElem?_eq_getElem hj]; rfl)
    obtain rfl := rep_o r
    exact ⟨p, _, _, _, rfl, rfl, sq_of hq, atI_nat hv, k _ (atI_nat (List.getElem?_eq_getElem hj)) (List.getElem_mem hj)⟩
/-- a value and what stands for it, where it has no parts -/
class Sc (w : W) (v : outParam V) : Prop where
  h : ∀ (K : PySem.W.Frag) (C : Addr) (H : Hp) (u : V), Rep K C H u w → u = v
instance {n : Int} : Sc (.i n) (.int n) := ⟨fun _ _ _ _ r => by cases r; rfl⟩
instance {n : Str} : Sc (.s n) (.str n) := ⟨fun _ _ _ _ r => by cases r; rfl⟩
instance {n : Bool} : Sc (.b n) (.bl n) := ⟨fun _ _ _ _ r => by cases r; rfl⟩
instance : Sc .n .non := ⟨fun _ _ _ _ r => by cases r; rfl⟩
instance {n : Option Int} : Sc (W.o n) (oi n) := ⟨fun _ _ _ _ r => rep_o r⟩
theorem S.grow (s : S K C H Φ mt) (h : (.ref p, .l ws) ∈ Φ) (j : Nat) (e : ws[j]? = some w) : ∃ vs v, SqL K H p vs ∧ vs[j]? = some v ∧ S K C H ((v, w) :: Φ) mt := by
  obtain ⟨⟨kb, h1, h2, h3⟩, d⟩ := s
  cases hh : h2 _ h with
  | l hq hr =>
    obtain ⟨v, hv, r⟩ := hr.get j w e
    exact ⟨_, v, sq_of (h1 _ _ hq), hv, ⟨kb, h1, fun q hq => by rcases List.mem_cons.mp hq with rfl | hq; exact r; exact h2 q hq, h3⟩, d⟩
theorem S.growT (s : S K C H Φ mt) (h : (.ref p, .t ws) ∈ Φ) (j : Nat) (e : ws[j]? = some w) : ∃ vs v, SqT K H p vs ∧ vs[j]? = some v ∧ S K C H ((v, w) :: Φ) mt := by
  obtain ⟨⟨kb, h1, h2, h3⟩, d⟩ := s
  cases hh : h2 _ h with
  | t hq hr =>
    obtain ⟨v, hv, r⟩ := hr.get j w e
    exact ⟨_, v, st_of (h1 _ _ hq), hv, ⟨kb, h1, fun q hq => by rcases List.mem_cons.mp hq with rfl | hq; exact r; exact h2 q hq, h3⟩, d⟩
theorem atI_of {α : Type} {xs : List α} {i : Int} {x : α} (e : atI xs i = some x) : ∃ j, ixN xs.length i = some j ∧ xs[j]? = some x := by
  unfold atI at e
  cases h : ixN xs.length i with
  | none => rw [h] at e; cases e
  | some j => rw [h] at e; exact ⟨j, rfl, e⟩
theorem atI_mk {α : Type} {xs : List α} {i : Int} {x : α} {j : Nat} (h : ixN xs.length i = some j) (e : xs[j]? = some x) : atI xs i = some x := by
  unfold atI
  rw [h]
  exact e
/-- an item of a list whose items are told, by a written number -/
theorem S.growA {i : Int} (s : S K C H Φ mt) (h : (.ref p, .l ws) ∈ Φ) (e : atI ws i = some w) : ∃ vs v, SqL K H p vs ∧ atI vs i = some v ∧ S K C H ((v, w) :: Φ) mt := by
  obtain ⟨j, h1, h2⟩ := atI_of e
  obtain ⟨⟨kb, g1, g2, g3⟩, d⟩ := s
  cases hh : g2 _ h with
  | l hq hr =>
    obtain ⟨v, hv, r⟩ := hr.get j w h2
    exact ⟨_, v, sq_of (g1 _ _ hq), atI_mk (by rw [hr.len]; exact h1) hv, ⟨kb, g1, fun q hq => by rcases List.mem_cons.mp hq with rfl | hq; exact r; exact g2 q hq, g3⟩, d⟩
theorem S.growTA {i : Int} (s : S K C H Φ mt) (h : (.ref p, .t ws) ∈ Φ) (e : atI ws i = some w) : ∃ vs v, SqT K H p vs ∧ atI vs i = some v ∧ S K C H ((v, w) :: Φ) mt := by
  obtain ⟨j, h1, h2⟩ := atI_of e
  obtain ⟨⟨kb, g1, g2, g3⟩, d⟩ := s
  cases hh : g2 _ h with
  | t hq hr =>
    obtain ⟨v, hv, r⟩ := hr.get j w h2
    exact ⟨_, v, st_of (g1 _ _ hq), atI_mk (by rw [hr.len]; exact h1) hv, ⟨kb, g1, fun q hq => by rcases List.mem_cons.mp hq with rfl | hq; exact r; exact g2 q hq, g3⟩, d⟩
theorem g_ixL {i : Int} (s : S K C H Φ mt) (h : (.ref p, .l ws) ∈ Φ) (e : atI ws i = some w) (sc : Sc w v) (k : Q v H) : rIxL K (.ref p) (.int i) H Q := by
  obtain ⟨vs, u, h1, h2, h3⟩ := s.growA h e
  have := sc.h K C H u (h3.rep (.f List.mem_cons_self))
  subst this
  exact ⟨p, vs, _, _, rfl, rfl, h1, h2, k⟩
def IsRef (w : W) : Prop := (∃ us, w = .l us) ∨ (∃ us, w = .t us) ∨ ∃ m, w = .m m
theorem isL {ws : List W} : IsRef (.l ws) := .inl ⟨_, rfl⟩
theorem isT {ws : List W} : IsRef (.t ws) := .inr (.inl ⟨_, rfl⟩)
theorem isM {m : MK} : IsRef (.m m) := .inr (.inr ⟨_, rfl⟩)
theorem isRef_of {u : V} (hw : IsRef w) (r : Rep K C H u w) : ∃ q, u = .ref q := by
  rcases hw with ⟨us, rfl⟩ | ⟨us, rfl⟩ | ⟨m, rfl⟩ <;> cases r <;> exact ⟨_, rfl⟩
theorem g_ixLr {i : Int} (s : S K C H Φ mt) (h : (.ref p, .l ws) ∈ Φ) (e : atI ws i = some w) (hw : IsRef w) (k : ∀ q, S K C H ((.ref q, w) :: Φ) mt → Q (.ref q) H) : rIxL K (.ref p) (.int i) H Q := by
  obtain ⟨vs, u, h1, h2, h3⟩ := s.growA h e
  obtain ⟨q, rfl⟩ := isRef_of hw (h3.rep (.f List.mem_cons_self))
  exact ⟨p, vs, _, _, rfl, rfl, h1, h2, k q h3⟩
theorem g_ixT {i : Int} (s : S K C H Φ mt) (h : (.ref p, .t ws) ∈ Φ) (e : atI ws i = some w) (sc : Sc w v) (k : Q v H) : rIxT K (.ref p) (.int i) H Q := by
  obtain ⟨vs, u, h1, h2, h3⟩ := s.growTA h e
  have := sc.h K C H u (h3.rep (.f List.mem_cons_self))
  subst this
  exact ⟨p, vs, _, _, rfl, rfl, h1, h2, k⟩
theorem g_ixTr {i : Int} (s : S K C H Φ mt) (h : (.ref p, .t ws) ∈ Φ) (e : atI ws i = some w) (hw : IsRef w) (k : ∀ q, S K C H ((.ref q, w) :: Φ) mt → Q (.ref q) H) : rIxT K (.ref p) (.int i) H Q := by
  obtain ⟨vs, u, h1, h2, h3⟩ := s.growTA h e
  obtain ⟨q, rfl⟩ := isRef_of hw (h3.rep (.f List.mem_cons_self))
  exact ⟨p, vs, _, _, rfl, rfl, h1, h2, k q h3⟩
/-- an item of a cell -/
theorem g_ixM {i : Int} (s : S K C H Φ mt) (h : (p, Eq (.lst vs)) ∈ mt) (e : atI vs i = some v) (k : Q v H) : rIxL K (.ref p) (.int i) H Q :=
  ⟨p, vs, _, _, rfl, rfl, sq_of (s.at h), e, k⟩
/-- a sign of a text -/
theorem g_ixS {t : Str} {i : Int} (hz : t.length ≤ 100000) (h0 : 0 ≤ i) (h1 : i < t.length) (k : ∀ c, atI (sg t) i = some c → c ∈ sg t → Q (.str ⟨#[c]⟩) H) : rIxS (.str t) (.int i) H Q := by
  obtain ⟨c, hc, hm⟩ := atI_in (xs := sg t) h0 (by rw [sg_len]; exact h1)
  exact ⟨t, i, c, rfl, rfl, sz_of hz, hc, k c hc hm⟩
class SL (t : Str) (n : outParam Nat) : Prop where
  h : t.length = n
instance : SL "abcdefghijklmnopqrstuvwxyz" 26 := ⟨by decide +kernel⟩
instance : SL "0123456789" 10 := ⟨by decide +kernel⟩
instance : SL "123456789" 9 := ⟨by decide +kernel⟩
instance : SL "abcd" 4 := ⟨by decide +kernel⟩
/-- a sign of a text that is written -/
theorem g_ixSn {t : Str} {i : Int} {n : Nat} (l : SL t n) (hz : n ≤ 100000) (h0 : 0 ≤ i) (h1 : i < n) (k : ∀ c, atI (sg t) i = some c → c ∈ sg t → Q (.str (one c)) H) : rIxS (.str t) (.int i) H Q :=
  g_ixS (by rw [l.h]; exact hz) h0 (by rw [l.h]; exact h1) k
/-- lists that are told item by item, as what they hold -/
class AsI (ws : List W) (ns : outParam (List Int)) : Prop where
  h : ws = ns.map W.i
instance : AsI [] [] := ⟨rfl⟩
instance {n : Int} {ws : List W} {ns : List Int} [q : AsI ws ns] : AsI (.i n :: ws) (n :: ns) := ⟨by rw [q.h]; rfl⟩
class AsO (ws : List W) (ns : outParam (List (Option Int))) : Prop where
  h : ws = ns.map W.o
instance : AsO [] [] := ⟨rfl⟩
instance {n : Int} {ws : List W} {ns : List (Option Int)} [q : AsO ws ns] : AsO (.i n :: ws) (some n :: ns) := ⟨by rw [q.h]; rfl⟩
instance {ws : List W} {ns : List (Option Int)} [q : AsO ws ns] : AsO (.n :: ws) (none :: ns) := ⟨by rw [q.h]; rfl⟩
instance {o : Option Int} {ws : List W} {ns : List (Option Int)} [q : AsO ws ns] : AsO (W.o o :: ws) (o :: ns) := ⟨by rw [q.h]; rfl⟩
class AsS (ws : List W) (ns : outParam (List Str)) : Prop where
  h : ws = ns.map W.s
instance : AsS [] [] := ⟨rfl⟩
instance {n : Str} {ws : List W} {ns : List Str} [q : AsS ws ns] : AsS (.s n :: ws) (n :: ns) := ⟨by rw [q.h]; rfl⟩
theorem g_ixAI {i : Int} {ns : List Int} (s : S K C H Φ mt) (h : (.ref p, .l ws) ∈ Φ) (q : AsI ws ns) (h0 : 0 ≤ i) (h1 : i < ns.length) (k : ∀ n, n ∈ ns → Q (.int n) H) : rIxL K (.ref p) (.int i) H Q :=
  g_ixLI (ns := ns) s (by rw [← q.h]; exact h) h0 h1 fun n _ hn => k n hn
theorem g_ixAO {i : Int} {ns : List (Option Int)} (s : S K C H Φ mt) (h : (.ref p, .l ws) ∈ Φ) (q : AsO ws ns) (h0 : 0 ≤ i) (h1 : i < ns.length) (k : ∀ n, n ∈ ns → Q (oi n) H) : rIxL K (.ref p) (.int i) H Q :=
  g_ixLO (ns := ns) s (by rw [← q.h]; exact h) h0 h1 fun n _ hn => k n hn
theorem g_ixAS {i : Int} {ns : List Str} (s : S K C H Φ mt) (h : (.ref p, .l ws) ∈ Φ) (q : AsS ws ns) (h0 : 0 ≤ i) (h1 : i < ns.length) (k : ∀ n, n ∈ ns → Q (.str n) H) : rIxL K (.ref p) (.int i) H Q :=
  g_ixLS (ns := ns) s (by rw [← q.h]; exact h) h0 h1 fun n _ hn => k n hn
/-! len, slices, sums of lists -/
theorem g_lenL (s : S K C H Φ mt) (h : (.ref p, .l ws) ∈ Φ) (k : Q (.int (ws.length : Int)) H) : rLenS K [.ref p] H Q := by
  cases s.rep (.f h) with
  | l hq hr => exact ⟨p, _, rfl, .inl (sq_of hq), by rw [hr.len]; exact k⟩
theorem g_lenT (s : S K C H Φ mt) (h : (.ref p, .t ws) ∈ Φ) (k : Q (.int (ws.length : Int)) H) : rLenS K [.ref p] H Q := by
  cases s.rep (.f h) with
  | t hq hr => exact ⟨p, _, rfl, .inr (st_of hq), by rw [hr.len]; exact k⟩
theorem g_lenM (s : S K C H Φ mt) (h : (p, Eq (.lst vs)) ∈ mt) (k : Q (.int (vs.length : Int)) H) : rLenS K [.ref p] H Q :=
  ⟨p, vs, rfl, .inl (sq_of (s.at h)), k⟩
theorem knl_zip : ∀ {vs : List V} {ws : List W} {Ψ : List (V × W)}, vs.length = ws.length → KnL (vs.zip ws ++ Ψ) vs ws
  | [], [], _, _ => .nil
  | v :: vs, w :: ws, Ψ, h => .cons (.f List.mem_cons_self) (KnL.mono (fun q hq => List.mem_cons_of_mem _ hq) (knl_zip (Nat.succ.inj h)))
  | [], _ :: _, _, h => nomatch h
  | _ :: _, [], _, h => nomatch h
theorem repL_zip {kb : Hp} : ∀ {vs : List V} {ws : List W}, RepL K C kb vs ws → ∀ q ∈ vs.zip ws, Rep K C kb q.1 q.2
  | _, _, .nil => fun q hq => by cases hq
  | _, _, .cons (v := v) (w := w) (vs := vs) (ws := ws) h r => fun q hq => by
    rcases List.mem_cons.mp (show q ∈ (v, w) :: vs.zip ws from hq) with rfl | hq
    · exact h
    · exact repL_zip r q hq
/-- a list whose items are told, its items known one by one -/
theorem S.openH (s : S K C H Φ mt) (h : (.ref p, .l ws) ∈ Φ) : ∃ vs, H p = some (.lst vs) ∧ vs.length = ws.length ∧ S K C H (vs.zip ws ++ Φ) mt := by
  obtain ⟨⟨kb, h1, h2, h3⟩, d⟩ := s
  cases h2 _ h with
  | l hq hr => exact ⟨_, h1 _ _ hq, hr.len, ⟨kb, h1, fun q hq => (List.mem_append.mp hq).elim (repL_zip hr q) (h2 q), h3⟩, d⟩
theorem S.open (s : S K C H Φ mt) (h : (.ref p, .l ws) ∈ Φ) : ∃ vs, SqL K H p vs ∧ vs.length = ws.length ∧ S K C H (vs.zip ws ++ Φ) mt := by
  obtain ⟨vs, h1, h2, h3⟩ := s.openH h
  exact ⟨vs, sq_of h1, h2, h3⟩
theorem S.openT (s : S K C H Φ mt) (h : (.ref p, .t ws) ∈ Φ) : ∃ vs, SqT K H p vs ∧ vs.length = ws.length ∧ S K C H (vs.zip ws ++ Φ) mt := by
  obtain ⟨⟨kb, h1, h2, h3⟩, d⟩ := s
  cases h2 _ h with
  | t hq hr => exact ⟨_, st_of (h1 _ _ hq), hr.len, ⟨kb, h1, fun q hq => (List.mem_append.mp hq).elim (repL_zip hr q) (h2 q), h3⟩, d⟩
theorem mem3 {x : V × W} {q : V × W} {A : List (V × W)} (h : q ∈ x :: Φ) : q ∈ x :: (A ++ Φ) := by
  rcases List.mem_cons.mp h with rfl | h
  · exact List.mem_cons_self
  · exact List.mem_cons_of_mem _ (List.mem_append_right _ h)
/-- list(..), told as it is -/
theorem g_listL (s : S K C H Φ mt) (h : (.ref p, .l ws) ∈ Φ) (k : ∀ q H', S K C H' ((.ref q, .l ws) :: Φ) mt → Q (.ref q) H') : rListS K [.ref p] H Q := by
  obtain ⟨vs, h1, h2, s'⟩ := s.open h
  exact ⟨p, vs, rfl, .inl h1, fun q hn => k q _ ((s'.addL hn (Ex.new hn) upd_same (knl_zip h2)).to (fun q hq => mem3 hq) (List.Sublist.refl _))⟩
theorem g_listT (s : S K C H Φ mt) (h : (.ref p, .t ws) ∈ Φ) (k : ∀ q H', S K C H' ((.ref q, .l ws) :: Φ) mt → Q (.ref q) H') : rListS K [.ref p] H Q := by
  obtain ⟨vs, h1, h2, s'⟩ := s.openT h
  exact ⟨p, vs, rfl, .inr h1, fun q hn => k q _ ((s'.addL hn (Ex.new hn) upd_same (knl_zip h2)).to (fun q hq => mem3 hq) (List.Sublist.refl _))⟩
/-- list(..), as a cell, of texts or of things told one by one -/
theorem g_listMS {ks : List Str} (s : S K C H Φ mt) (h : (.ref p, .l (ks.map W.s)) ∈ Φ) (k : ∀ q H', S K C H' Φ ((q, Eq (.lst (ks.map V.str))) :: mt) → Q (.ref q) H') : rListS K [.ref p] H Q := by
  obtain ⟨vs, h1, h2, s'⟩ := s.open h
  have hr := s'.repL (knl_zip h2)
  obtain rfl := rep_strs hr
  exact ⟨p, _, rfl, .inl h1, fun q hn => k q _ (s.addM hn (Ex.new hn) upd_same rfl)⟩
theorem g_tupOfS (s : S K C H Φ mt) (h : (.ref p, .l ws) ∈ Φ) (k : ∀ q H', S K C H' ((.ref q, .t ws) :: Φ) mt → Q (.ref q) H') : rTupOf K [.ref p] H Q := by
  obtain ⟨vs, h1, h2, s'⟩ := s.open h
  exact ⟨p, vs, rfl, .inl ⟨h1, fun q hn => k q _ ((s'.addT hn (Ex.new hn) upd_same (knl_zip h2)).to (fun q hq => mem3 hq) (List.Sublist.refl _))⟩⟩
theorem g_add {i j : Int} (k : Q (.int (i + j)) H) : rAdd (.int i) (.int j) H Q := ⟨i, j, rfl, rfl, k⟩
instance {i j : Int} : St1 (rAdd (.int i) (.int j) H Q) (Q (.int (i + j)) H) := ⟨g_add⟩
theorem g_rI0 {f : Int → Int → V} {i j : Int} (k : Q (f i j) H) : rI0 f (.int i) (.int j) H Q := ⟨i, j, rfl, rfl, k⟩
instance {f : Int → Int → V} {i j : Int} : St1 (rI0 f (.int i) (.int j) H Q) (Q (f i j) H) := ⟨g_rI0⟩
theorem g_rI {c : Int → Int → Prop} {f : Int → Int → V} {i j : Int} (h : c i j) (k : Q (f i j) H) : rI c f (.int i) (.int j) H Q := ⟨i, j, rfl, rfl, h, k⟩
theorem g_rMod {f : Int → Int → V} {i j : Int} (h : 0 < j) (k : Q (f i j) H) : rI (fun _ j => 0 < j) f (.int i) (.int j) H Q := ⟨i, j, rfl, rfl, h, k⟩
theorem g_rModN {f : Int → Int → V} {i j : Int} (h : j ≠ 0) (k : Q (f i j) H) : rI (fun _ j => j ≠ 0) f (.int i) (.int j) H Q := ⟨i, j, rfl, rfl, h, k⟩
theorem g_rDiv {f : Int → Int → V} {i j : Int} (h : 0 < j) (h1 : j < 1073741824) (k : Q (f i j) H) : rI CDiv f (.int i) (.int j) H Q := ⟨i, j, rfl, rfl, ⟨h, h1⟩, k⟩
theorem g_rDivW {f : Int → Int → V} {i j : Int} (h : 0 < j) (h1 : j.natAbs.log2 < 9000) (k : Q (f i j) H) : rI CDivW f (.int i) (.int j) H Q := ⟨i, j, rfl, rfl, ⟨h, h1⟩, k⟩
theorem g_rPow {f : Int → Int → V} {i j : Int} (h : 0 ≤ j) (h1 : j ≤ 1000000) (h2 : -18446744073709551616 < i) (h3 : i < 18446744073709551616) (k : Q (f i j) H) : rI CPow f (.int i) (.int j) H Q := ⟨i, j, rfl, rfl, ⟨h, h1, by omega⟩, k⟩
theorem g_rMul {f : Int → Int → V} {i j : Int} (h : -18446744073709551616 < i) (h1 : i < 18446744073709551616) (k : Q (f i j) H) : rI CMul f (.int i) (.int j) H Q := ⟨i, j, rfl, rfl, .inl ⟨h, h1⟩, k⟩
theorem g_rMulR {f : Int → Int → V} {i j : Int} (h : -18446744073709551616 < j) (h1 : j < 18446744073709551616) (k : Q (f i j) H) : rI CMul f (.int i) (.int j) H Q := ⟨i, j, rfl, rfl, .inr ⟨h, h1⟩, k⟩
theorem g_rEq (h : scal x y = true) (k : Q (.bl (decide (x = y))) H) : rEq x y H Q := ⟨h, k⟩
theorem g_rNe (h : scal x y = true) (k : Q (.bl (!decide (x = y))) H) : rNe x y H Q := ⟨h, k⟩
theorem g_rU {f : Int → V} {i : Int} (k : Q (f i) H) : rU f (.int i) H Q := ⟨i, rfl, k⟩
instance {f : Int → V} {i : Int} : St1 (rU f (.int i) H Q) (Q (f i) H) := ⟨g_rU⟩
theorem g_strAdd {i j : Str} (hz : i.length + j.length ≤ 100000) (k : Q (.str (i ++ j)) H) : qAddS (.str i) (.str j) H Q := ⟨i, j, rfl, rfl, sz_of hz, k⟩
theorem g_strI {i : Int} (h : i.natAbs.log2 < 1920) (k : (Str.ofString (toString i)).length ≤ 1921 → Q (.str (toString i)) H) : qStrI [.int i] H Q := ⟨i, rfl, h, k (int_len h)⟩
theorem g_strS {t : Str} (k : Q (.str t) H) : qStrS [.str t] H Q := ⟨t, rfl, k⟩
instance {t : Str} : St1 (qStrS [.str t] H Q) (Q (.str t) H) := ⟨g_strS⟩
theorem g_lenS {t : Str} (h : t.length ≤ 100000) (k : Q (.int (t.length : Int)) H) : qLenS [.str t] H Q := ⟨t, rfl, sz_of h, k⟩
theorem g_int1 {i : Int} (k : Q (.int i) H) : qInt1 [.int i] H Q := .inl ⟨i, rfl, k⟩
instance {i : Int} : St1 (qInt1 [.int i] H Q) (Q (.int i) H) := ⟨g_int1⟩
theorem g_intB {b : Bool} (k : Q (.int (if b then 1 else 0)) H) : qInt1 [.bl b] H Q := .inr ⟨b, rfl, k⟩
theorem g_max2 {i j : Int} (k : Q (.int (if j > i then j else i)) H) : qMax2 [.int i, .int j] H Q := ⟨i, j, rfl, k⟩
instance {i j : Int} : St1 (qMax2 [.int i, .int j] H Q) (Q (.int (if j > i then j else i)) H) := ⟨g_max2⟩
theorem g_min2 {i j : Int} (k : Q (.int (if j < i then j else i)) H) : qMin2 [.int i, .int j] H Q := ⟨i, j, rfl, k⟩
instance {i j : Int} : St1 (qMin2 [.int i, .int j] H Q) (Q (.int (if j < i then j else i)) H) := ⟨g_min2⟩
theorem g_ltS {i j : Str} (k : Q (.bl (decide (i.cps.toList < j.cps.toList))) H) : qLtS (.str i) (.str j) H Q := ⟨i, j, rfl, rfl, k⟩
instance {i j : Str} : St1 (qLtS (.str i) (.str j) H Q) (Q (.bl (decide (i.cps.toList < j.cps.toList))) H) := ⟨g_ltS⟩
theorem g_inS {c : Nat} {t : Str} (k : Q (.bl (decide (c ∈ sg t))) H) : qInS (.str ⟨#[c]⟩) (.str t) H Q := ⟨c, t, rfl, rfl, k⟩
instance {c : Nat} {t : Str} : St1 (qInS (.str ⟨#[c]⟩) (.str t) H Q) (Q (.bl (decide (c ∈ sg t))) H) := ⟨g_inS⟩
theorem g_notInS {c : Nat} {t : Str} (k : Q (.bl (!decide (c ∈ sg t))) H) : qNotInS (.str ⟨#[c]⟩) (.str t) H Q := ⟨c, t, rfl, rfl, k⟩
instance {c : Nat} {t : Str} : St1 (qNotInS (.str ⟨#[c]⟩) (.str t) H Q) (Q (.bl (!decide (c ∈ sg t))) H) := ⟨g_notInS⟩
theorem g_isN (k : Q (.bl (decide (x = .non))) H) : qIsN x .non H Q := ⟨rfl, k⟩
instance : St1 (qIsN x .non H Q) (Q (.bl (decide (x = .non))) H) := ⟨g_isN⟩
theorem g_notN (k : Q (.bl (!decide (x = .non))) H) : qNotN x .non H Q := ⟨rfl, k⟩
instance : St1 (qNotN x .non H Q) (Q (.bl (!decide (x = .non))) H) := ⟨g_notN⟩
theorem g_joinS {ts : List TE} (h : tJs ts Str.empty σ H fun out H1 => Q (.str out) H1) : tJoinS ts σ H Q := h
instance {ts : List TE} : St1 (tJoinS ts σ H Q) (tJs ts Str.empty σ H fun out H1 => Q (.str out) H1) := ⟨g_joinS⟩
theorem g_truS {t : Str} {Q : Bool → Hp → Prop} (ht : te σ H fun x H' => ∃ k, TruV K x H' k ∧ Q k H') : tTru K te σ H Q := ht
/-! methods that change a cell -/
theorem g_tyM {P : Prop} (s : S K C H Φ mt) (h : (p, Eq (.lst vs)) ∈ mt) (k : P) : TyW K "list" (.ref p) H P := ⟨.inl ⟨rfl, vs, sq_of (s.at h)⟩, k⟩
theorem g_tyL {P : Prop} (s : S K C H Φ mt) (h : (.ref p, .l ws) ∈ Φ) (k : P) : TyW K "list" (.ref p) H P := by
  cases s.rep (.f h) with
  | l hq hr => exact ⟨.inl ⟨rfl, _, sq_of hq⟩, k⟩
theorem g_append (s : S K C H Φ mt) (h : (p, Eq (.lst vs)) ∈ mt) (hz : vs.length < 100000) (hs : SetM p (Eq (.lst (vs ++ [v]))) mt nt) (k : ∀ H', S K C H' Φ nt → Q .non H') : rAppend (.ref p) [v] H Q :=
  ⟨p, vs, v, rfl, rfl, s.at h, sz_lt hz, k _ (s.set hs rfl)⟩
theorem g_setL {R : Hp → Prop} {i : Int} {j : Nat} (s : S K C H Φ mt) (h : (p, Eq (.lst vs)) ∈ mt) (hi : Ix i j) (hj : j < vs.length) (hv : SetAt vs j v us) (hs : SetM p (Eq (.lst us)) mt nt) (k : ∀ H', S K C H' Φ nt → R H') : rSetL (.ref p) (.int i) v H R := by
  obtain rfl := hi.h
  have e := hv.h
  subst e
  exact ⟨p, vs, j, j, rfl, rfl, s.at h, ixN_nat hj, k _ (s.set hs rfl)⟩
theorem g_gName {i : Nat} {N : L2.St → Hp → Prop} (h : N (σ.set i (some v)) H) : gName i v σ H N := h
instance {i : Nat} {N : L2.St → Hp → Prop} : St1 (gName i v σ H N) (N (σ.set i (some v)) H) := ⟨g_gName⟩
theorem g_gSub {ti : TE} {ts : TSet} {N : L2.St → Hp → Prop} (h : to σ H fun o H1 => ti σ H1 fun i H2 => ts o i v H2 fun H3 => N σ H3) : gSub to ti ts v σ H N := h
instance {ti : TE} {ts : TSet} {N : L2.St → Hp → Prop} : St1 (gSub to ti ts v σ H N) (to σ H fun o H1 => ti σ H1 fun i H2 => ts o i v H2 fun H3 => N σ H3) := ⟨g_gSub⟩
end

instance (priority := high) {A B : Prop} {x : V} {i : Decidable (x = x)} : St1 (if decide (x = x) = true then A else B) A := ⟨fun h => by rw [if_pos (decide_eq_true rfl)]; exact h⟩
instance (priority := high) {A B : Prop} : St1 (if decide (oi none = .non) = true then A else B) A := ⟨fun h => (if_pos (decide_eq_true (rfl : oi none = V.non))).mpr h⟩
instance (priority := high) {A B : Prop} {i : Int} : St1 (if decide (oi (some i) = .non) = true then A else B) B := ⟨fun h => (if_neg (fun z => nomatch (of_decide_eq_true z : oi (some i) = V.non))).mpr h⟩
instance (priority := high) {f : Int → Int → V} {i : Int} {y : V} {H : Hp} {Q : VK} : St1 (rI0 f (oi (some i)) y H Q) (rI0 f (.int i) y H Q) := ⟨fun h => h⟩
instance (priority := high) {f : Int → Int → V} {c : Int → Int → Prop} {i : Int} {y : V} {H : Hp} {Q : VK} : St1 (rI c f (oi (some i)) y H Q) (rI c f (.int i) y H Q) := ⟨fun h => h⟩
/-! a slot that was set, in its place -/
section
variable {σ σ' : L2.St} {i : Nat} {v : Option V} {H : Hp} {D : Ends} {ta tz tb tc : TS} {te : TE} {tt : TT} {g : TG} {wi : TI}
instance (priority := high) [q : SetAt σ i v σ'] : St1 (tSeq ta tz D (σ.set i v) H) (tSeq ta tz D σ' H) := ⟨fun h => by rw [q.h]; exact h⟩
instance (priority := high) [q : SetAt σ i v σ'] : St1 (tRet te D (σ.set i v) H) (tRet te D σ' H) := ⟨fun h => by rw [q.h]; exact h⟩
instance (priority := high) [q : SetAt σ i v σ'] : St1 (tAsg te g D (σ.set i v) H) (tAsg te g D σ' H) := ⟨fun h => by rw [q.h]; exact h⟩
instance (priority := high) [q : SetAt σ i v σ'] : St1 (tDrop te D (σ.set i v) H) (tDrop te D σ' H) := ⟨fun h => by rw [q.h]; exact h⟩
instance (priority := high) [q : SetAt σ i v σ'] : St1 (tIfS tt ta tz D (σ.set i v) H) (tIfS tt ta tz D σ' H) := ⟨fun h => by rw [q.h]; exact h⟩
instance (priority := high) [q : SetAt σ i v σ'] : St1 (tFor wi g tb D (σ.set i v) H) (tFor wi g tb D σ' H) := ⟨fun h => by rw [q.h]; exact h⟩
end

/-! ### loops -/
section
variable {K : PySem.W.Frag} {C : Addr} {σ σ0 : L2.St} {H : Hp} {Φ Ψ : List (V × W)} {mt nt : List (Addr × (HO → Prop))} {Q : VK} {D : Ends} {tz tb : TS} {te : TE} {tt : TT} {tl : TA} {v : V} {ws : List W} {w : W} {g : TG} {a p : Addr} {wi : TI} {J : It} {i n : Nat} {lo : Int} {vs : List Nat}
def LcW (J : It) (g : TG) (tt : TT) (te : TE) (vs : List Nat) (σ : L2.St) (H1 : Hp) (Q : VK) : Prop := ∀ D, H1 D = none → ∃ W : Nat → Nat → Hp → Prop, (∃ m, W 0 m (upd H1 D (.lst []))) ∧ ∀ i m H, W i m H →
  (J.stop i H ∧ Q (.ref D) H) ∨ (J.go i H ∧ ∃ Nx : Hp → Prop, (∀ H', Nx H' → ∃ m', m' < m ∧ W (i + 1) m' H') ∧ ∀ x H', J.yld i H x H' → g x (wipe σ vs) H' fun σ2 H2 => wipe σ2 vs = wipe σ vs ∧ tt σ2 H2 fun b H3 =>
    if b = true then te σ2 H3 fun y H4 => ∃ acc, H4 D = some (.lst acc) ∧ acc.length < sizeLine ∧ Nx (upd H4 D (.lst (acc ++ [y]))) else Nx H3)
theorem g_lc (h : wi σ H fun J H1 => LcW J g tt te vs σ H1 Q) : tLc wi g tt te vs σ H Q := h
instance : St1 (tLc wi g tt te vs σ H Q) (wi σ H fun J H1 => LcW J g tt te vs σ H1 Q) := ⟨g_lc⟩
def ForW (J : It) (g : TG) (tb : TS) (D : Ends) (σ : L2.St) (H : Hp) : Prop := ∃ W : Nat → Nat → L2.St → Hp → Prop, (∃ m, W 0 m σ H) ∧ ∀ i m σ H, W i m σ H →
  (J.stop i H ∧ D.nx σ H) ∨ (J.go i H ∧ ∃ N : L2.St → Hp → Prop, (∀ σ' H', N σ' H' → ∃ m', m' < m ∧ W (i + 1) m' σ' H') ∧ ∀ x H', J.yld i H x H' → g x σ H' fun σ2 H2 => tb { D with nx := N, ct := N, bk := D.nx } σ2 H2)
theorem g_for (h : wi σ H fun J H1 => ForW J g tb D σ H1) : tFor wi g tb D σ H := h
instance : St1 (tFor wi g tb D σ H) (wi σ H fun J H1 => ForW J g tb D σ H1) := ⟨g_for⟩
theorem g_seqF (h : wi σ H fun J H1 => ForW J g tb { D with nx := tz D } σ H1) : tSeq (tFor wi g tb) tz D σ H := h
instance : St1 (tSeq (tFor wi g tb) tz D σ H) (wi σ H fun J H1 => ForW J g tb { D with nx := tz D } σ H1) := ⟨g_seqF⟩
def Rng (vs : List V) (H : Hp) (R : It → Hp → Prop) : Prop := ∃ j : Int, vs = [.int j] ∧ -(2 ^ 62) ≤ j ∧ j < 2 ^ 62 ∧ R (Itr 0 j.toNat) H
def Rng2 (vs : List V) (H : Hp) (R : It → Hp → Prop) : Prop := ∃ i j : Int, vs = [.int i, .int j] ∧ (-(2 ^ 62) ≤ i ∧ i < 2 ^ 62 ∧ -(2 ^ 62) ≤ j ∧ j < 2 ^ 62) ∧ R (Itr i (j - i).toNat) H
theorem g_rng1 {R : It → Hp → Prop} (h : tl σ H fun vs H1 => Rng vs H1 R) : iRng1 tl σ H R := h
instance {R : It → Hp → Prop} : St1 (iRng1 tl σ H R) (tl σ H fun vs H1 => Rng vs H1 R) := ⟨g_rng1⟩
theorem g_rng2 {R : It → Hp → Prop} (h : tl σ H fun vs H1 => Rng2 vs H1 R) : iRng2 tl σ H R := h
instance {R : It → Hp → Prop} : St1 (iRng2 tl σ H R) (tl σ H fun vs H1 => Rng2 vs H1 R) := ⟨g_rng2⟩
theorem g_rngI {R : It → Hp → Prop} {j : Int} (h1 : -4611686018427387904 ≤ j) (h2 : j < 4611686018427387904) (h : R (Itr 0 j.toNat) H) : Rng [.int j] H R := ⟨j, rfl, h1, h2, h⟩
theorem g_rngII {R : It → Hp → Prop} {i j : Int} (h1 : -4611686018427387904 ≤ j) (h2 : j < 4611686018427387904) (h3 : -4611686018427387904 ≤ i) (h4 : i < 4611686018427387904) (h : R (Itr i (j - i).toNat) H) : Rng2 [.int i, .int j] H R := ⟨i, j, rfl, ⟨h3, h4, h1, h2⟩, h⟩
def Wlk (K : PySem.W.Frag) (x : V) (H : Hp) (R : It → Hp → Prop) : Prop := ∃ a, x = .ref a ∧ (∃ xs, SqL K H a xs) ∧ R (Itl K a) H
def WlkT (K : PySem.W.Frag) (x : V) (H : Hp) (R : It → Hp → Prop) : Prop := ∃ a, x = .ref a ∧ (∃ xs, SqT K H a xs) ∧ R (Itt K a) H
theorem g_wlk {R : It → Hp → Prop} (h : te σ H fun x H1 => Wlk K x H1 R) : iList K te σ H R := h
instance {R : It → Hp → Prop} : St1 (iList K te σ H R) (te σ H fun x H1 => Wlk K x H1 R) := ⟨g_wlk⟩
theorem g_wlkT {R : It → Hp → Prop} (h : te σ H fun x H1 => WlkT K x H1 R) : iTup K te σ H R := h
instance {R : It → Hp → Prop} : St1 (iTup K te σ H R) (te σ H fun x H1 => WlkT K x H1 R) := ⟨g_wlkT⟩
theorem g_wlkL {R : It → Hp → Prop} (s : S K C H Φ mt) (m : (.ref a, .l ws) ∈ Φ) (h : R (Itl K a) H) : Wlk K (.ref a) H R := by
  cases s.rep (.f m) with
  | l hq _ => exact ⟨a, rfl, ⟨_, sq_of hq⟩, h⟩
theorem g_wlkU {R : It → Hp → Prop} (s : S K C H Φ mt) (m : (.ref a, .t ws) ∈ Φ) (h : R (Itt K a) H) : WlkT K (.ref a) H R := by
  cases s.rep (.f m) with
  | t hq _ => exact ⟨a, rfl, ⟨_, st_of hq⟩, h⟩
theorem mem_snoc {α : Type} {P : Nat → α → Prop} {xs : List α} {x : α} (h : ∀ j x, xs[j]? = some x → P j x) (hx : P xs.length x) : ∀ j y, (xs ++ [x])[j]? = some y → P j y := fun j y e => by
  by_cases hj : j < xs.length
  · rw [List.getElem?_append_left hj] at e; exact h j y e
  · by_cases hj2 : j = xs.length
    · subst hj2; rw [List.getElem?_concat_length] at e; cases e; exact hx
    · rw [List.getElem?_eq_none (by rw [List.length_append]; simp; omega)] at e; cases e
/-- [.. for _ in range(..)], of things without parts -/
theorem g_lcR {α : Type} (enc : α → V) (encW : α → W) (P : Nat → α → Prop) {σ1 : V → L2.St} (kn : ∀ Ψ x, Kn Ψ (enc x) (encW x)) (s : S K C H Φ mt) (hn : n < 100000) (hw : Wp σ vs σ0) (hs : ∀ x, SetAt σ0 i (some x) (σ1 x)) (hw2 : ∀ x, Wp (σ1 x) vs σ0)
    (body : ∀ (j : Nat) X H', j < n → S K C H' Φ (X :: mt) → ∀ N : VK, (∀ x H'', P j x → S K C H'' Φ (X :: mt) → N (enc x) H'') → te (σ1 (.int (lo + j))) H' N)
    (k : ∀ D (xs : List α) H', xs.length = n → (∀ j x, xs[j]? = some x → P j x) → S K C H' ((.ref D, .l (xs.map encW)) :: Φ) mt → Q (.ref D) H') : LcW (Itr lo n) (gName i) tYes te vs σ H Q := by
  have hw := hw.h
  subst hw
  intro D hD
  refine lc_range (fun j H' => ∃ xs : List α, xs.length = j ∧ (∀ j x, xs[j]? = some x → P j x) ∧ S K C H' Φ ((D, Eq (.lst (xs.map enc))) :: mt)) ⟨[], rfl, fun j x h => by simp at h, s.addM hD (Ex.new hD) upd_same rfl⟩ ?_ ?_
  · rintro j H1 hj ⟨xs, hl, hP, s1⟩
    unfold gName
    rw [(hs (V.int (lo + j))).h]
    refine ⟨(hw2 _).h, ?_⟩
    dsimp only [tYes]
    rw [if_pos rfl]
    refine body j _ H1 hj s1 _ fun x H2 hx s2 => ⟨_, s2.at List.mem_cons_self, sz_lt (by rw [List.length_map]; omega), xs ++ [x], by rw [List.length_append, hl]; rfl, mem_snoc hP (by rw [hl]; exact hx), ?_⟩
    rw [List.map_append]
    exact s2.set .hd rfl
  · rintro H1 ⟨xs, hl, hP, s1⟩
    exact k D xs H1 hl hP (s1.fixL .hd (.is xs enc encW fun x _ => kn _ x))
theorem rep_map {β : Type} {encB : β → V} {encBW : β → W} (knB : ∀ K C H v x, Rep K C H v (encBW x) → v = encB x) {H : Hp} : ∀ (ks : List β) {us : List V}, RepL K C H us (ks.map encBW) → us = ks.map encB
  | [], us, r => by cases r; rfl
  | x :: ks, us, r => by
    cases r with
    | cons h r => rw [knB _ _ _ _ _ h, rep_map knB ks r]; rfl
/-- the same over a list of things without parts -/
theorem g_lcL {α β : Type} (enc : α → V) (encW : α → W) (encB : β → V) (encBW : β → W) (ks : List β) (P : Nat → α → Prop) {σ1 : V → L2.St} (kn : ∀ Ψ x, Kn Ψ (enc x) (encW x)) (knB : ∀ K C H v x, Rep K C H v (encBW x) → v = encB x) (s : S K C H Φ mt) (ha : (.ref a, .l (ks.map encBW)) ∈ Φ) (hn : ks.length < 100000) (hw : Wp σ vs σ0) (hs : ∀ x, SetAt σ0 i (some x) (σ1 x)) (hw2 : ∀ x, Wp (σ1 x) vs σ0)
    (body : ∀ (j : Nat) (y : β) X H', ks[j]? = some y → S K C H' Φ (X :: mt) → ∀ N : VK, (∀ x H'', P j x → S K C H'' Φ (X :: mt) → N (enc x) H'') → te (σ1 (encB y)) H' N)
    (k : ∀ D (xs : List α) H', xs.length = ks.length → (∀ j x, xs[j]? = some x → P j x) → S K C H' ((.ref D, .l (xs.map encW)) :: Φ) mt → Q (.ref D) H') : LcW (Itl K a) (gName i) tYes te vs σ H Q := by
  have hw := hw.h
  subst hw
  intro D hD
  have hL : ∀ {H' Φ' mt'}, S K C H' Φ' mt' → (V.ref a, W.l (ks.map encBW)) ∈ Φ' → SqL K H' a (ks.map encB) := fun s' m => by
    cases s'.rep (.f m) with
    | l hq hr =>
      rw [rep_map knB _ hr] at hq
      exact sq_of hq
  refine (show ∃ W : Nat → Nat → Hp → Prop, _ from lc_list (K := K) (a := a) (xs := ks.map encB) (fun j H' => ∃ xs : List α, xs.length = j ∧ (∀ j x, xs[j]? = some x → P j x) ∧ S K C H' Φ ((D, Eq (.lst (xs.map enc))) :: mt)) ⟨[], rfl, fun j x h => by simp at h, s.addM hD (Ex.new hD) upd_same rfl⟩ (fun j H' _ ⟨_, _, _, s'⟩ => hL s' ha) ?_ ?_)
  · rintro j x H1 hj ⟨xs, hl, hP, s1⟩
    rw [List.getElem?_map] at hj
    cases hy : ks[j]? with
    | none => rw [hy] at hj; cases hj
    | some y =>
      rw [hy] at hj
      cases hj
      unfold gName
      rw [(hs (encB y)).h]
      refine ⟨(hw2 _).h, ?_⟩
      dsimp only [tYes]
      rw [if_pos rfl]
      have hjl : j < ks.length := (List.getElem?_eq_some_iff.mp hy).1
      refine body j y _ H1 hy s1 _ fun x H2 hx s2 => ⟨_, s2.at List.mem_cons_self, sz_lt (by rw [List.length_map]; omega), xs ++ [x], by rw [List.length_append, hl]; rfl, mem_snoc hP (by rw [hl]; exact hx), ?_⟩
      rw [List.map_append]
      exact s2.set .hd rfl
  · rintro H1 ⟨xs, hl, hP, s1⟩
    exact k D xs H1 (by rw [hl, List.length_map]) hP (s1.fixL .hd (.is xs enc encW fun x _ => kn _ x))
/-! for -/
theorem g_forR (Pv : Nat → L2.St → Hp → Prop) (h0 : Pv 0 σ H)
    (hs : ∀ j σ' H', j < n → Pv j σ' H' → tb { D with nx := Pv (j + 1), ct := Pv (j + 1), bk := D.nx } (σ'.set i (some (.int (lo + j)))) H') (hd : ∀ σ' H', Pv n σ' H' → D.nx σ' H') : ForW (Itr lo n) (gName i) tb D σ H :=
  for_range Pv h0 hs hd
theorem g_forL (Pv : Nat → L2.St → Hp → Prop) (h0 : Pv 0 σ H) (hl : ∀ j σ' H', Pv j σ' H' → ∃ Φ' mt', S K C H' Φ' mt' ∧ (.ref a, .l ws) ∈ Φ')
    (hs : ∀ j w v σ' H', ws[j]? = some w → Pv j σ' H' → (∀ Φ' mt', S K C H' Φ' mt' → (.ref a, .l ws) ∈ Φ' → S K C H' ((v, w) :: Φ') mt') → tb { D with nx := Pv (j + 1), ct := Pv (j + 1), bk := D.nx } (σ'.set i (some v)) H')
    (hd : ∀ σ' H', Pv ws.length σ' H' → D.nx σ' H') : ForW (Itl K a) (gName i) tb D σ H := by
  refine ⟨fun j m σ H => m = ws.length - j ∧ j ≤ ws.length ∧ Pv j σ H, ⟨ws.length, by simp, Nat.zero_le _, h0⟩, ?_⟩
  rintro j m σ' H' ⟨rfl, hi, p⟩
  obtain ⟨Φ', mt', s', m'⟩ := hl j σ' H' p
  by_cases hlt : j < ws.length
  · obtain ⟨vs, v, h1, h2, h3⟩ := s'.grow m' j (List.getElem?_eq_getElem hlt)
    refine .inr ⟨⟨vs, v, h1, h2⟩, Pv (j + 1), fun σ2 H2 p' => ⟨ws.length - (j + 1), by omega, rfl, hlt, p'⟩, fun x H2 y => ?_⟩
    obtain ⟨e, y⟩ := y
    subst e
    refine hs j _ x σ' _ (List.getElem?_eq_getElem hlt) p fun Φ2 mt2 s2 m2 => ?_
    obtain ⟨vs2, v2, g1, g2, g3⟩ := s2.grow m2 j (List.getElem?_eq_getElem hlt)
    have := y vs2 g1
    rw [g2] at this
    cases this
    exact g3
  · have e : j = ws.length := by omega
    subst e
    obtain ⟨vs, hv, hlen, _⟩ := s'.open m'
    exact .inl ⟨⟨vs, hv, by omega⟩, hd _ _ p⟩
end

/-! ### more steps: lists put together, cut, made to change; marks made and asked -/
section
variable {K : PySem.W.Frag} {C : Addr} {σ : L2.St} {H H1 : Hp} {Φ : List (V × W)} {mt nt : List (Addr × (HO → Prop))} {Q : VK} {D : Ends} {tz tu tw : TS} {ta tb tc te to : TE} {t u : TT} {tl tr tk : TA} {v x y z : V} {vs us xs : List V} {ws ws' : List W} {w : W} {p a q : Addr}
class AppW (ws xs : List W) (zs : outParam (List W)) : Prop where
  h : ws ++ xs = zs
instance {ws xs : List W} : AppW ws xs (ws ++ xs) := ⟨rfl⟩
instance {xs : List W} : AppW [] xs xs := ⟨rfl⟩
instance {w : W} {ws xs zs : List W} [q : AppW ws xs zs] : AppW (w :: ws) xs (w :: zs) := ⟨by rw [List.cons_append, q.h]⟩
instance {ks : List Str} {xs : List W} {js : List Str} [q : AsS xs js] : AppW (ks.map W.s) xs ((ks ++ js).map W.s) := ⟨by rw [q.h, List.map_append]⟩
instance {ks js : List Str} : AppW (ks.map W.s) (js.map W.s) ((ks ++ js).map W.s) := ⟨by rw [List.map_append]⟩
instance {ks : List Int} {xs : List W} {js : List Int} [q : AsI xs js] : AppW (ks.map W.i) xs ((ks ++ js).map W.i) := ⟨by rw [q.h, List.map_append]⟩
instance {w : Str} {ks : List Str} : AppW [.s w] (ks.map W.s) ((w :: ks).map W.s) := ⟨rfl⟩
class TakeW (ws : List W) (n : Nat) (us : outParam (List W)) : Prop where
  h : ws.take n = us
instance {ws : List W} {n : Nat} : TakeW ws n (ws.take n) := ⟨rfl⟩
instance {n : Nat} : TakeW [] n [] := ⟨by cases n <;> rfl⟩
instance {ws : List W} : TakeW ws 0 [] := ⟨rfl⟩
instance {w : W} {ws us : List W} {n : Nat} [q : TakeW ws n us] : TakeW (w :: ws) (n + 1) (w :: us) := ⟨by rw [List.take_succ_cons, q.h]⟩
instance {α : Type} {ks : List α} {f : α → W} {n : Nat} : TakeW (ks.map f) n ((ks.take n).map f) := ⟨by rw [List.map_take]⟩
class DropW (ws : List W) (n : Nat) (us : outParam (List W)) : Prop where
  h : ws.drop n = us
instance {ws : List W} {n : Nat} : DropW ws n (ws.drop n) := ⟨rfl⟩
instance {n : Nat} : DropW [] n [] := ⟨by cases n <;> rfl⟩
instance {ws : List W} : DropW ws 0 ws := ⟨rfl⟩
instance {w : W} {ws us : List W} {n : Nat} [q : DropW ws n us] : DropW (w :: ws) (n + 1) us := ⟨by rw [List.drop_succ_cons, q.h]⟩
instance {α : Type} {ks : List α} {f : α → W} {n : Nat} : DropW (ks.map f) n ((ks.drop n).map f) := ⟨by rw [List.map_drop]⟩
theorem KnL.take : ∀ {vs : List V} {ws : List W} (n : Nat), vs.length = ws.length → KnL (vs.zip ws ++ Φ) (vs.take n) (ws.take n)
  | [], [], n, _ => by cases n <;> exact .nil
  | v :: vs, w :: ws, 0, _ => .nil
  | v :: vs, w :: ws, n + 1, h => .cons (.f List.mem_cons_self) (KnL.mono (fun q hq => List.mem_cons_of_mem _ hq) (KnL.take n (Nat.succ.inj h)))
  | [], _ :: _, _, h => nomatch h
  | _ :: _, [], _, h => nomatch h
theorem KnL.drop : ∀ {vs : List V} {ws : List W} (n : Nat), vs.length = ws.length → KnL (vs.zip ws ++ Φ) (vs.drop n) (ws.drop n)
  | [], [], n, _ => by cases n <;> exact .nil
  | v :: vs, w :: ws, 0, h => knl_zip h
  | v :: vs, w :: ws, n + 1, h => KnL.mono (fun q hq => List.mem_cons_of_mem _ hq) (KnL.drop n (Nat.succ.inj h))
  | [], _ :: _, _, h => nomatch h
  | _ :: _, [], _, h => nomatch h
theorem zip_sub {A : List (V × W)} : ∀ r ∈ Φ, r ∈ A ++ Φ := fun r hr => List.mem_append_right _ hr
theorem g_cat (s : S K C H Φ mt) (h1 : (.ref p, .l ws) ∈ Φ) (h2 : (.ref q, .l ws') ∈ Φ) (hz : ws.length + ws'.length ≤ 100000) {zs : List W} (ap : AppW ws ws' zs) (k : ∀ r H', S K C H' ((.ref r, .l zs) :: Φ) mt → Q (.ref r) H') : rCat (.ref p) (.ref q) H Q := by
  obtain ⟨vs, g1, g2, s1⟩ := s.openH h1
  obtain ⟨us, g3, g4, s2⟩ := s1.openH (zip_sub _ h2)
  refine ⟨p, q, vs, us, rfl, rfl, g1, g3, sz_of (by omega), fun r hr => k r _ ?_⟩
  have kn : KnL (us.zip ws' ++ (vs.zip ws ++ Φ)) (vs ++ us) zs := by
    rw [← ap.h]
    exact .app (KnL.mono zip_sub (knl_zip g2)) (knl_zip g4)
  exact (s2.addL hr (Ex.new hr) upd_same kn).to (fun z hz => by
    rcases List.mem_cons.mp hz with rfl | hz
    · exact List.mem_cons_self
    · exact List.mem_cons_of_mem _ (List.mem_append_right _ (List.mem_append_right _ hz))) (List.Sublist.refl _)
theorem cutV_to {vs : List V} (n : Nat) : cutV vs none (some (n : Int)) = vs.take n := by
  unfold cutV
  rw [HT.sIx_none, HT.sIx_nat, List.drop_zero, Nat.sub_zero]
  by_cases h : n ≤ vs.length
  · rw [Nat.min_eq_left h]
  · rw [Nat.min_eq_right (by omega), List.take_of_length_le (Nat.le_refl _), List.take_of_length_le (by omega)]
theorem cutV_from {vs : List V} (n : Nat) : cutV vs (some (n : Int)) none = vs.drop n := by
  unfold cutV
  rw [HT.sIx_none, HT.sIx_nat]
  by_cases h : n ≤ vs.length
  · rw [Nat.min_eq_left h, List.take_of_length_le (by rw [List.length_drop]; omega)]
  · rw [Nat.min_eq_right (by omega), List.drop_of_length_le (Nat.le_refl _), List.drop_of_length_le (by omega)]; simp
theorem g_slTo {i : Int} {n : Nat} (s : S K C H Φ mt) (h : (.ref p, .l ws) ∈ Φ) (hi : Ix i n) {us : List W} (tk : TakeW ws n us) (k : ∀ r H', S K C H' ((.ref r, .l us) :: Φ) mt → Q (.ref r) H') : rSlL K (.ref p) none (some i) H Q := by
  obtain ⟨vs, g1, g2, s1⟩ := s.open h
  obtain rfl := hi.h
  refine ⟨p, vs, rfl, g1, fun r hr => k r _ ?_⟩
  rw [cutV_to]
  exact (s1.addL hr (Ex.new hr) upd_same (by rw [← tk.h]; exact KnL.take n g2)).to (fun z hz => mem3 hz) (List.Sublist.refl _)
theorem g_slFrom {i : Int} {n : Nat} (s : S K C H Φ mt) (h : (.ref p, .l ws) ∈ Φ) (hi : Ix i n) {us : List W} (tk : DropW ws n us) (k : ∀ r H', S K C H' ((.ref r, .l us) :: Φ) mt → Q (.ref r) H') : rSlL K (.ref p) (some i) none H Q := by
  obtain ⟨vs, g1, g2, s1⟩ := s.open h
  obtain rfl := hi.h
  refine ⟨p, vs, rfl, g1, fun r hr => k r _ ?_⟩
  rw [cutV_from]
  exact (s1.addL hr (Ex.new hr) upd_same (by rw [← tk.h]; exact KnL.drop n g2)).to (fun z hz => mem3 hz) (List.Sublist.refl _)
theorem g_slS {t : Str} {lo hi : Option Int} (hz : t.length ≤ 100000) (k : Q (.str (cutS t lo hi)) H) : rSlS (.str t) lo hi H Q := ⟨t, rfl, sz_of hz, k⟩
/-! lists that may change -/
theorem g_mLst (h : tl σ H fun xs H1 => NewM xs H1 Q) : tMut (tLst tl) σ H Q := h
instance : St1 (tMut (tLst tl) σ H Q) (tl σ H fun xs H1 => NewM xs H1 Q) := ⟨g_mLst⟩
theorem g_newMM (s : S K C H Φ mt) (hz : xs.length ≤ 100000) (k : ∀ p H1, S K C H1 Φ ((p, Eq (.lst xs)) :: mt) → Q (.ref p) H1) : NewM xs H Q :=
  ⟨sz_of hz, fun p hp => k p _ (s.addM hp (Ex.new hp) upd_same rfl)⟩
instance {sp : Sp} {dvs : List V} {E : XK} : St1 (tMut (tCall sp dvs E tl) σ H Q) (tCall sp dvs E tl σ H Q) := ⟨fun h => h⟩
def rCatM : R2 := rCat
theorem g_mCat (h : ta σ H fun x H1 => tb σ H1 fun y H2 => rCatM x y H2 Q) : tMut (tOp rCat ta tb) σ H Q := h
instance : St1 (tMut (tOp rCat ta tb) σ H Q) (ta σ H fun x H1 => tb σ H1 fun y H2 => rCatM x y H2 Q) := ⟨g_mCat⟩
/-- the items that a list of items told stands for -/
class Vs (ws : List W) (vs : outParam (List V)) : Prop where
  h : ∀ (K : PySem.W.Frag) (C : Addr) (H : Hp) (us : List V), RepL K C H us ws → us = vs
instance : Vs [] [] := ⟨fun _ _ _ _ r => by cases r; rfl⟩
instance {w : W} {v : V} {ws : List W} {vs : List V} [a : Sc w v] [b : Vs ws vs] : Vs (w :: ws) (v :: vs) := ⟨fun K C H us r => by cases r with | cons h r => rw [a.h K C H _ h, b.h K C H _ r]⟩
instance {ks : List Str} : Vs (ks.map W.s) (ks.map V.str) := ⟨fun K C H us r => rep_strs r⟩
instance {ks : List Int} : Vs (ks.map W.i) (ks.map V.int) := ⟨fun K C H us r => rep_map (fun K C H v x r => by cases r; rfl) ks r⟩
theorem g_catM (s : S K C H Φ mt) (h1 : (.ref p, .l ws) ∈ Φ) (h2 : (.ref q, .l ws') ∈ Φ) (hz : ws.length + ws'.length ≤ 100000) {zs : List W} (ap : AppW ws ws' zs) (hv : Vs zs vs) (k : ∀ r H', S K C H' Φ ((r, Eq (.lst vs)) :: mt) → Q (.ref r) H') : rCatM (.ref p) (.ref q) H Q := by
  obtain ⟨vs1, g1, g2, s1⟩ := s.openH h1
  obtain ⟨us, g3, g4, s2⟩ := s1.openH (zip_sub _ h2)
  refine ⟨p, q, vs1, us, rfl, rfl, g1, g3, sz_of (by omega), fun r hr => k r _ ?_⟩
  have kn : KnL (us.zip ws' ++ (vs1.zip ws ++ Φ)) (vs1 ++ us) zs := by
    rw [← ap.h]
    exact .app (KnL.mono zip_sub (knl_zip g2)) (knl_zip g4)
  have := hv.h K C H _ (s2.repL kn)
  subst this
  exact s.addM hr (Ex.new hr) upd_same rfl
def rListM (K : PySem.W.Frag) : List V → Hp → VK → Prop := rListS K
theorem g_mList (h : tl σ H fun vs H1 => rListM K vs H1 Q) : tMut (tCB (rListS K) tl) σ H Q := h
instance : St1 (tMut (tCB (rListS K) tl) σ H Q) (tl σ H fun vs H1 => rListM K vs H1 Q) := ⟨g_mList⟩
theorem g_listM (s : S K C H Φ mt) (h : (.ref p, .l ws) ∈ Φ) (hv : Vs ws vs) (k : ∀ q H', S K C H' Φ ((q, Eq (.lst vs)) :: mt) → Q (.ref q) H') : rListM K [.ref p] H Q := by
  obtain ⟨us, h1, h2, s'⟩ := s.open h
  have := hv.h K C H _ (s'.repL (knl_zip h2))
  subst this
  exact ⟨p, _, rfl, .inl h1, fun q hn => k q _ (s.addM hn (Ex.new hn) upd_same rfl)⟩
/-- a cell, handed on: told as it stands, from here on it stays -/
theorem S.freeze (s : S K C H Φ mt) (h : RmM a (Eq (.lst vs)) mt nt) (kn : KnL Φ vs ws) : S K C H ((.ref a, .l ws) :: Φ) nt := s.fixL h kn
theorem g_joinM {ks : List Str} {c : Str} (s : S K C H Φ mt) (h : (p, Eq (.lst (ks.map V.str))) ∈ mt) (hz : (ks.map (·.length)).sum + ks.length * c.length ≤ 16777216) (k : Q (.str (Txt.join c ks)) H) : rJoin K (.str c) [.ref p] H Q :=
  ⟨c, p, ks, rfl, rfl, .inl (sq_of (s.at h)), hz, k⟩
theorem g_appendS {ks : List Str} {y : Str} (s : S K C H Φ mt) (h : (p, Eq (.lst (ks.map V.str))) ∈ mt) (hz : ks.length < 100000) (hs : SetM p (Eq (.lst ((ks ++ [y]).map V.str))) mt nt) (k : ∀ H', S K C H' Φ nt → Q .non H') : rAppend (.ref p) [.str y] H Q :=
  g_append s h (by rw [List.length_map]; exact hz) (by rw [show ks.map V.str ++ [V.str y] = (ks ++ [y]).map V.str by rw [List.map_append]; rfl]; exact hs) k
theorem g_setLS {R : Hp → Prop} {ks : List Str} {y : Str} {i : Int} {j : Nat} (s : S K C H Φ mt) (h : (p, Eq (.lst (ks.map V.str))) ∈ mt) (hi : Ix i j) (hj : j < ks.length) (hs : SetM p (Eq (.lst ((ks.set j y).map V.str))) mt nt) (k : ∀ H', S K C H' Φ nt → R H') : rSetL (.ref p) (.int i) (.str y) H R := by
  obtain rfl := hi.h
  exact ⟨p, _, j, j, rfl, rfl, s.at h, ixN_nat (by rw [List.length_map]; exact hj), k _ (s.set hs (by rw [List.map_set]))⟩
theorem sum_le {ks : List Str} {n : Nat} (h : ∀ k ∈ ks, k.length ≤ n) : (ks.map (·.length)).sum ≤ ks.length * n := by
  induction ks with
  | nil => simp
  | cons a l ih =>
    have h1 := h a List.mem_cons_self
    have h2 := ih fun s hs => h s (List.mem_cons_of_mem _ hs)
    rw [List.map_cons, List.sum_cons, List.length_cons, Nat.succ_mul]
    omega
/-! int of a truth -/
theorem g_intNS {m n : Str} (h1 : m = n → Q (.int 0) H) (h2 : ¬ m = n → Q (.int 1) H) : qInt1 [.bl (!decide (V.str m = V.str n))] H Q := by
  refine g_intB ?_
  by_cases h : m = n
  · rw [decide_eq_true (h ▸ rfl)]; exact h1 h
  · rw [decide_eq_false (fun e => h (V.str.inj e))]; exact h2 h
theorem g_intD {P : Prop} {i : Decidable P} (h1 : P → Q (.int 1) H) (h2 : ¬ P → Q (.int 0) H) : qInt1 [.bl (decide P)] H Q := by
  refine g_intB ?_
  by_cases h : P
  · rw [decide_eq_true h]; exact h1 h
  · rw [decide_eq_false h]; exact h2 h
/-! f-strings -/
theorem g_jNil {acc : Str} {R : Str → Hp → Prop} (h : R acc H) : tJs [] acc σ H R := h
theorem g_jCons {ts : List TE} {acc : Str} {R : Str → Hp → Prop} (h : te σ H fun x H1 => ∃ y : Str, x = .str y ∧ (acc ++ y).length ≤ sizeLine ∧ tJs ts (acc ++ y) σ H1 R) : tJs (te :: ts) acc σ H R := h
end
/-! ### marks -/
class OiV (v : V) (o : outParam (Option Int)) : Prop where
  h : v = oi o
instance : OiV .non none := ⟨rfl⟩
instance {i : Int} : OiV (.int i) (some i) := ⟨rfl⟩
instance {o : Option Int} : OiV (oi o) o := ⟨rfl⟩
section
variable {K : PySem.W.Frag} {C : Addr} {σ : L2.St} {H H1 : Hp} {Φ : List (V × W)} {mt nt : List (Addr × (HO → Prop))} {Q : VK} {ta te : TE} {tl tr tk : TA} {v x y z v4 v5 mk : V} {vs us xs dvs : List V} {p a q : Addr} {sp : Sp} {E : XK} {lt pts : Str} {num : Int} {ks : List Str} {yr cp : Option Int} {n n' : Nat} {gV : List V → List V → List V}
def MakeW (C : Addr) (sp : Sp) (E : XK) (g : V → List V) (H1 : Hp) (Q : VK) : Prop := ∀ x dx, H1 x = none → H1 dx = none → dx ≠ x → sp (g (.ref x)) (upd (upd H1 dx (.own x)) x (.ins C dx [])) (fun v H2 => v = .non ∧ Q (.ref x) H2) E
theorem g_make (h : tl σ H fun vs H1 => MakeW C sp E (fun x => x :: (vs ++ dvs)) H1 Q) : tMake C sp dvs E tl σ H Q := h
instance : St1 (tMake C sp dvs E tl σ H Q) (tl σ H fun vs H1 => MakeW C sp E (fun x => x :: (vs ++ dvs)) H1 Q) := ⟨g_make⟩
def MakeN (C : Addr) (n n' : Nat) (sp : Sp) (gV : List V → List V → List V) (E : XK) (vs zs : List V) (H2 : Hp) (Q : VK) : Prop := vs.length = n ∧ zs.length = n' ∧ MakeW C sp E (fun x => gV (x :: vs) zs) H2 Q
theorem g_makeN (h : tl σ H fun vs H1 => tk σ H1 fun zs H2 => MakeN C n n' sp gV E vs zs H2 Q) : tMakeN C n n' sp gV E tl tk σ H Q := h
instance : St1 (tMakeN C n n' sp gV E tl tk σ H Q) (tl σ H fun vs H1 => tk σ H1 fun zs H2 => MakeN C n n' sp gV E vs zs H2 Q) := ⟨g_makeN⟩
theorem g_makeK (h : tl σ H fun vs H1 => tk σ H1 fun zs H2 => MakeN C n n' sp gV E vs zs H2 Q) : tMakeK C n n' sp gV E tl tk σ H Q := h
instance : St1 (tMakeK C n n' sp gV E tl tk σ H Q) (tl σ H fun vs H1 => tk σ H1 fun zs H2 => MakeN C n n' sp gV E vs zs H2 Q) := ⟨g_makeK⟩
theorem g_mkN (h1 : vs.length = n) (h2 : xs.length = n') (h : MakeW C sp E (fun x => gV (x :: vs) xs) H Q) : MakeN C n n' sp gV E vs xs H Q := ⟨h1, h2, h⟩
theorem mkin_l (s : S K C H Φ mt) (h : (.ref a, .l (ks.map W.s)) ∈ Φ) : MkIn H (.ref a) ks := by
  obtain ⟨vs, h1, h2, s'⟩ := s.openH h
  obtain rfl := rep_strs (s'.repL (knl_zip h2))
  exact .inr ⟨a, rfl, .inl h1⟩
theorem mkin_l0 (s : S K C H Φ mt) (h : (.ref a, .l []) ∈ Φ) : MkIn H (.ref a) [] := mkin_l (ks := []) s h
theorem mkin_t (s : S K C H Φ mt) (h : (.ref a, .t (ks.map W.s)) ∈ Φ) : MkIn H (.ref a) ks := by
  obtain ⟨⟨kb, g1, g2, g3⟩, d⟩ := s
  cases g2 _ h with
  | t hq hr => obtain rfl := rep_strs hr; exact .inr ⟨a, rfl, .inr (g1 _ _ hq)⟩
theorem mkin_m (s : S K C H Φ mt) (h : (a, Eq (.lst (ks.map V.str))) ∈ mt) : MkIn H (.ref a) ks := .inr ⟨a, rfl, .inl (s.at h)⟩
theorem mkin_n : MkIn H .non [] := .inl ⟨rfl, rfl⟩
theorem g_mark {g : V → List V} (s : S K C H Φ mt) (hv : ∀ x, g x = [x, .str lt, .int num, .str pts, mk, v4, v5]) (c4 : OiV v4 yr) (c5 : OiV v5 cp) (hm : MkIn H mk ks) (ok : (⟨lt, num, pts, ks, yr, cp⟩ : MK).Ok)
    (k : ∀ x H', S K C H' ((.ref x, .m ⟨lt, num, pts, ks, yr, cp⟩) :: Φ) mt → Q (.ref x) H') : MakeW C (spMark C) E g H Q := by
  intro x dx hx hdx hne
  rw [hv, c4.h, c5.h]
  have e1 : Ex H (upd (upd H dx (.own x)) x (.ins C dx [])) := (Ex.new hdx).trans (Ex.new (by rw [upd_ne hne.symm]; exact hx))
  exact ⟨H, x, dx, ⟨lt, num, pts, ks, yr, cp⟩, mk, rfl, ok, e1, hx, upd_same, hm.ex e1, fun H' e h => ⟨rfl, k x H' (s.addMark hx e h ok)⟩⟩
/-! methods of marks -/
def MethW (C : Addr) (m : Str) (sp : Sp) (dvs : List V) (E : XK) (t : TA) (σ : L2.St) (Q : VK) (x : V) (H1 : Hp) : Prop := ∃ a dx fs, x = .ref a ∧ H1 a = some (.ins C dx fs) ∧ fs.lookup m = none ∧ t σ H1 fun vs H2 => sp (x :: (vs ++ dvs)) H2 Q E
theorem g_meth {m : Str} (h : ta σ H fun x H1 => MethW C m sp dvs E tl σ Q x H1) : tMeth C m sp dvs E ta tl σ H Q := h
instance {m : Str} : St1 (tMeth C m sp dvs E ta tl σ H Q) (ta σ H fun x H1 => MethW C m sp dvs E tl σ Q x H1) := ⟨g_meth⟩
theorem g_methM {m : Str} {k : MK} (s : S K C H Φ mt) (h : (.ref a, .m k) ∈ Φ) (hm : m ≠ "_parts") (hm2 : m ≠ "_text") (q : tl σ H fun vs H2 => sp (.ref a :: (vs ++ dvs)) H2 Q E) : MethW C m sp dvs E tl σ Q (.ref a) H := by
  cases s.rep (.f h) with
  | m ha ok =>
    obtain ⟨dx, pa, ma, h1, h2, h3⟩ := ha
    exact ⟨a, dx, _, rfl, h1, by rw [lk_tail (beq_eq_false_iff_ne.mpr hm), lk_tail (beq_eq_false_iff_ne.mpr hm2)]; rfl, q⟩
theorem S.mark {k : MK} (s : S K C H Φ mt) (h : (.ref a, .m k) ∈ Φ) : MarkAt C H a k ∧ k.Ok := by
  cases s.rep (.f h) with
  | m ha ok => exact ⟨ha, ok⟩
end

/-! ### what values are as data: compared, shown -/
mutual
def W.data : W → PyData
  | .i k => .int k
  | .b k => .bool k
  | .n => .none
  | .s k => .str k
  | .l ks => .list (W.datas ks)
  | .t ks => .tuple (W.datas ks)
  | .m _ => .none
  | .q _ => .none
def W.datas : List W → List PyData
  | [] => []
  | x :: xs => x.data :: W.datas xs
end
mutual
def W.plain : W → Bool
  | .m _ => false
  | .q _ => false
  | .l ks => W.plains ks
  | .t ks => W.plains ks
  | .i _ => true
  | .b _ => true
  | .n => true
  | .s _ => true
def W.plains : List W → Bool
  | [] => true
  | x :: xs => x.plain && W.plains xs
end
theorem rep_dp {K : PySem.W.Frag} {C : Addr} {H : Hp} {v : V} {w : W} (r : Rep K C H v w) : w.plain = true → Dp K H v w.data :=
  Rep.rec (motive_1 := fun v w _ => w.plain = true → Dp K H v w.data) (motive_2 := fun vs ws _ => W.plains ws = true → DpAll K H vs (W.datas ws))
    (fun n _ => by simp only [W.data]; exact .int n) (fun c _ => by simp only [W.data]; exact .bl c) (fun _ => by simp only [W.data]; exact .non) (fun t _ => by simp only [W.data]; exact .str t)
    (fun h r ih p => by simp only [W.data]; exact .lst (sq_of h) (ih (by simpa only [W.plain] using p))) (fun h r ih p => by simp only [W.data]; exact .tup (st_of h) (ih (by simpa only [W.plain] using p)))
    (fun _ _ p => by simp [W.plain] at p) (fun _ p => by simp [W.plain] at p) (fun _ => by simp only [W.datas]; exact .nil)
    (fun h r ih1 ih2 p => by simp only [W.plains, Bool.and_eq_true] at p; simp only [W.datas]; exact .cons (ih1 p.1) (ih2 p.2)) r
class SOk (t : Str) : Prop where
  h : PyData.strOk t = true
  l : t.length ≤ 60000
class SOkL (ks : List Str) : Prop where
  h : ∀ k ∈ ks, PyData.strOk k = true ∧ k.length ≤ 2000
  l : ks.length ≤ 100
class IOk (n : Int) : Prop where
  h : n.natAbs.log2 < 1920
class OOk (o : Option Int) : Prop where
  h : ∀ n, o = some n → n.natAbs.log2 < 1920
/-- a value that shows, and compares: d its depth, z how long it shows -/
class Ly (w : W) (d z : outParam Nat) : Prop where
  p : w.plain = true
  c : w.data.canLay0 = true
  d1 : w.data.depth ≤ d
  s : w.data.showable = true
  n1 : w.data.hasDict = false
  z1 : w.data.shown.length ≤ z
class LyL (ws : List W) (d z n : outParam Nat) : Prop where
  p : W.plains ws = true
  c : PyData.canLayAll0 (W.datas ws) = true
  d1 : PyData.depthAll (W.datas ws) ≤ d
  s : PyData.showableAll (W.datas ws) = true
  n1 : PyData.hasDictAll (W.datas ws) = false
  z1 : ((PyData.shownAll (W.datas ws)).map (·.length)).sum ≤ z
  e : (PyData.shownAll (W.datas ws)).length ≤ n
theorem shown_strL {t : Str} (h : PyData.strOk t = true) : (reprText t).length ≤ 10 * t.length + 2 := by
  have := StrLaws.reprText_len t fun c hc => by
    unfold PyData.strOk at h
    rw [Array.all_eq_true_iff_forall_mem] at h
    have := h c (by simpa using hc)
    simp at this
    omega
  omega
theorem shown_str {t : Str} [q : SOk t] : (reprText t).length ≤ 600002 := by
  have := shown_strL q.h
  have := q.l
  omega
theorem shown_int' {n : Int} (h : n.natAbs.log2 < 1920) : (Str.ofString (toString n)).length ≤ 1921 := int_len h
instance {t : Str} [q : SOk t] : Ly (.s t) 0 600002 := ⟨rfl, by simp only [W.data, PyData.canLay0, q.h], by simp only [W.data, PyData.depth, Nat.le_refl], by simp only [W.data, PyData.showable], by simp only [W.data, PyData.hasDict], by simp only [W.data, PyData.shown]; exact shown_str⟩
instance {n : Int} [q : IOk n] : Ly (.i n) 0 1921 := ⟨rfl, by simp only [W.data, PyData.canLay0], by simp only [W.data, PyData.depth, Nat.le_refl], by simp only [W.data, PyData.showable, q.h, decide_true], by simp only [W.data, PyData.hasDict], by simp only [W.data, PyData.shown]; exact shown_int' q.h⟩
instance : Ly .n 0 4 := ⟨rfl, by simp only [W.data, PyData.canLay0], by simp only [W.data, PyData.depth, Nat.le_refl], by simp only [W.data, PyData.showable], by simp only [W.data, PyData.hasDict], by simp only [W.data, PyData.shown]; decide +kernel⟩
instance {b : Bool} : Ly (.b b) 0 5 := ⟨rfl, by simp only [W.data, PyData.canLay0], by simp only [W.data, PyData.depth, Nat.le_refl], by simp only [W.data, PyData.showable], by simp only [W.data, PyData.hasDict], by simp only [W.data, PyData.shown]; cases b <;> decide +kernel⟩
instance {o : Option Int} [q : OOk o] : Ly (W.o o) 0 1921 := by
  cases o with
  | none => exact ⟨rfl, by simp only [W.o, W.data, PyData.canLay0], by simp only [W.o, W.data, PyData.depth, Nat.le_refl], by simp only [W.o, W.data, PyData.showable], by simp only [W.o, W.data, PyData.hasDict], by simp only [W.o, W.data, PyData.shown]; decide +kernel⟩
  | some n => exact ⟨rfl, by simp only [W.o, W.data, PyData.canLay0], by simp only [W.o, W.data, PyData.depth, Nat.le_refl], by simp only [W.o, W.data, PyData.showable, q.h n rfl, decide_true], by simp only [W.o, W.data, PyData.hasDict], by simp only [W.o, W.data, PyData.shown]; exact shown_int' (q.h n rfl)⟩
instance : LyL [] 0 0 0 := ⟨rfl, by simp only [W.datas, PyData.canLayAll0], by simp [W.datas, PyData.depthAll], by simp only [W.datas, PyData.showableAll], by simp only [W.datas, PyData.hasDictAll], by simp [W.datas, PyData.shownAll], by simp [W.datas, PyData.shownAll]⟩
instance {w : W} {ws : List W} {d e z y n : Nat} [a : Ly w d z] [b : LyL ws e y n] : LyL (w :: ws) (max d e) (z + y) (n + 1) := ⟨by simp only [W.plains, a.p, b.p, Bool.and_self], by simp only [W.datas, PyData.canLayAll0, a.c, b.c, Bool.and_self], by simp only [W.datas, PyData.depthAll]; have := a.d1; have := b.d1; omega, by simp only [W.datas, PyData.showableAll, a.s, b.s, Bool.and_self], by simp only [W.datas, PyData.hasDictAll, a.n1, b.n1, Bool.or_self],
  by simp only [W.datas, PyData.shownAll, List.map_cons, List.sum_cons]; have := a.z1; have := b.z1; omega, by simp only [W.datas, PyData.shownAll, List.length_cons]; have := b.e; omega⟩
theorem datas_strs : ∀ ks : List Str, W.datas (ks.map W.s) = ks.map PyData.str
  | [] => rfl
  | k :: ks => by simp only [List.map_cons, W.datas, W.data, datas_strs ks]
theorem plains_strs : ∀ ks : List Str, W.plains (ks.map W.s) = true
  | [] => rfl
  | k :: ks => by simp only [List.map_cons, W.plains, W.plain, plains_strs ks, Bool.and_self]
theorem strs_all : ∀ ks : List Str, (∀ k ∈ ks, PyData.strOk k = true ∧ k.length ≤ 2000) → PyData.showableAll (ks.map PyData.str) = true ∧ PyData.hasDictAll (ks.map PyData.str) = false ∧ ((PyData.shownAll (ks.map PyData.str)).map (·.length)).sum ≤ ks.length * 20002 ∧ (PyData.shownAll (ks.map PyData.str)).length = ks.length
  | [], _ => by simp [PyData.showableAll, PyData.hasDictAll, PyData.shownAll]
  | k :: ks, h => by
    obtain ⟨h1, h2, h3, h4⟩ := strs_all ks fun j hj => h j (List.mem_cons_of_mem _ hj)
    have := h k List.mem_cons_self
    have h5 := shown_strL this.1
    have h6 := this.2
    refine ⟨by simp only [List.map_cons, PyData.showableAll, PyData.showable, h1, Bool.and_self], by simp only [List.map_cons, PyData.hasDictAll, PyData.hasDict, h2, Bool.or_self], ?_, by simp only [List.map_cons, PyData.shownAll, List.length_cons, h4]⟩
    simp only [List.map_cons, PyData.shownAll, PyData.shown, List.sum_cons, List.length_cons]
    omega
instance {ks : List Str} [q : SOkL ks] : LyL (ks.map W.s) 0 2000200 100 := by
  obtain ⟨h1, h2, h3, h4⟩ := strs_all ks q.h
  have hl := q.l
  exact ⟨plains_strs ks, by rw [datas_strs]; exact lay_strs ks fun s hs => (q.h s hs).1, by rw [datas_strs, depth_strs]; exact Nat.le_refl 0, by rw [datas_strs]; exact h1, by rw [datas_strs]; exact h2, by rw [datas_strs]; omega, by rw [datas_strs, h4]; exact hl⟩
instance {ws : List W} {d z n : Nat} [a : LyL ws d z n] : Ly (.l ws) (d + 1) (z + 2 * n + 3) := ⟨by simp only [W.plain, a.p], by simp only [W.data, PyData.canLay0, a.c], by simp only [W.data, PyData.depth]; have := a.d1; omega, by simp only [W.data, PyData.showable, a.s], by simp only [W.data, PyData.hasDict, a.n1],
  by simp only [W.data, PyData.shown]; have := listText_len_le (PyData.shownAll (W.datas ws)); have := a.z1; have := a.e; omega⟩
instance {ws : List W} {d z n : Nat} [a : LyL ws d z n] : Ly (.t ws) (d + 1) (z + 2 * n + 3) := ⟨by simp only [W.plain, a.p], by simp only [W.data, PyData.canLay0, a.c], by simp only [W.data, PyData.depth]; have := a.d1; omega, by simp only [W.data, PyData.showable, a.s], by simp only [W.data, PyData.hasDict, a.n1],
  by simp only [W.data, PyData.shown]; have := tupleText_len_le (PyData.shownAll (W.datas ws)); have := a.z1; have := a.e; omega⟩
instance : SOk "" := ⟨by decide +kernel, by decide +kernel⟩
section
variable {K : PySem.W.Frag} {C : Addr} {H : Hp} {Φ : List (V × W)} {mt nt : List (Addr × (HO → Prop))} {Q : VK} {x y v : V} {w w' : W} {d e z z' : Nat} {ks : List Str} {p : Addr}
inductive KnM (Φ : List (V × W)) (mt : List (Addr × (HO → Prop))) : V → W → Prop
  | k {v : V} {w : W} (h : Kn Φ v w) : KnM Φ mt v w
  | c {p : Addr} {ks : List Str} (h : (p, Eq (.lst (ks.map V.str))) ∈ mt) : KnM Φ mt (.ref p) (.l (ks.map W.s))
theorem S.repM (s : S K C H Φ mt) (h : KnM Φ mt v w) : Rep K C H v w := by
  cases h with
  | k h => exact s.rep h
  | c h => exact .l (s.at h) (RepL.map V.str W.s _ fun x _ => .s x)
theorem g_eqD (s : S K C H Φ mt) (h1 : KnM Φ mt x w) (h2 : KnM Φ mt y w') (l1 : Ly w d z) (l2 : Ly w' e z') (hd : d ≤ 64) (he : e ≤ 64) (k : Q (.bl (PyData.eqv w.data w'.data)) H) : rEqD K x y H Q :=
  ⟨_, _, rep_dp (s.repM h1) l1.p, rep_dp (s.repM h2) l2.p, by unfold SeqAt.shaped; rw [l1.c, decide_eq_true (Nat.le_trans l1.d1 hd)]; rfl, by unfold SeqAt.shaped; rw [l2.c, decide_eq_true (Nat.le_trans l2.d1 he)]; rfl, k⟩
theorem g_neD (s : S K C H Φ mt) (h1 : KnM Φ mt x w) (h2 : KnM Φ mt y w') (l1 : Ly w d z) (l2 : Ly w' e z') (hd : d ≤ 64) (he : e ≤ 64) (k : Q (.bl (!PyData.eqv w.data w'.data)) H) : rNeD K x y H Q :=
  ⟨_, _, rep_dp (s.repM h1) l1.p, rep_dp (s.repM h2) l2.p, by unfold SeqAt.shaped; rw [l1.c, decide_eq_true (Nat.le_trans l1.d1 hd)]; rfl, by unfold SeqAt.shaped; rw [l2.c, decide_eq_true (Nat.le_trans l2.d1 he)]; rfl, k⟩
theorem g_eqD0 (s : S K C H Φ mt) (h1 : KnM Φ mt x w) (h2 : KnM Φ mt y w) (l1 : Ly w d z) (hd : d ≤ 64) (k : Q (.bl true) H) : rEqD K x y H Q :=
  g_eqD s h1 h2 l1 l1 hd hd (by rw [SeqAt.eqv_refl _ l1.c]; exact k)
theorem g_neD0 (s : S K C H Φ mt) (h1 : KnM Φ mt x w) (h2 : KnM Φ mt y w) (l1 : Ly w d z) (hd : d ≤ 64) (k : Q (.bl false) H) : rNeD K x y H Q :=
  g_neD s h1 h2 l1 l1 hd hd (by rw [SeqAt.eqv_refl _ l1.c]; exact k)
theorem g_repr (s : S K C H Φ mt) (h1 : KnM Φ mt (.ref p) w) (l1 : Ly w d z) (hd : d ≤ 60) (hz : z ≤ 16000000) (k : w.data.shown.length ≤ z → Q (.str w.data.shown) H) : qRepr K [.ref p] H Q :=
  ⟨p, _, rfl, rep_dp (s.repM h1) l1.p, l1.s, l1.n1, Nat.le_trans l1.d1 hd, Nat.le_trans (Nat.le_trans l1.z1 hz) (by decide), k l1.z1⟩
theorem g_tupOfM (s : S K C H Φ mt) (h : (p, Eq (.lst (ks.map V.str))) ∈ mt) (k : ∀ q H', S K C H' ((.ref q, .t (ks.map W.s)) :: Φ) mt → Q (.ref q) H') : rTupOf K [.ref p] H Q :=
  ⟨p, _, rfl, .inl ⟨sq_of (s.at h), fun q hn => k q _ (s.addT hn (Ex.new hn) upd_same (.is _ V.str W.s fun x _ => .s x))⟩⟩
end

/-! ### == and != of an own __eq__, with anything -/
section
open PySem.W PyProof.Rows
variable {prog : Program} {w : World} {A : Around} {E : Value → Shared → Prop} {s : Shared} {K : PySem.W.Frag} {x C f L : Addr} {ox : Obj} {od : Option Obj} {b tb : Value} {h₀ : Heap} {m : Str → Option Value}
theorem ifBound_objNe {M : Model} {args : List Value} {Q : Option Value → Shared → Prop} (X : K.In s.heap) (I : PySem.W.InstAt s.heap x ox C od) (hs : PySem.W.findIn K (.ref C) "__ne__" = some (some (.builtin "object.__ne__")))
    (h : wpAny M A (call (.builtin "object.__ne__") (.ref x :: args)) (fun v => Q (some v)) E s) : wpAny M A (callSpecialIfBound? (.ref x) "__ne__" args) Q E s := by
  simp only [callSpecialIfBound?, bindSpecialIfBound?]
  refine wpAny_holding (wpAny_bind (wpAny_bind (wpAny_bind (I.type.here ((PySem.W.looks_findIn X hs).here ?_)))))
  refine wpAny_bind (wpAny_askSetting (wpAny_ite ?_))
  have fin : wpAny M A (call (.builtin "object.__ne__") ([.ref x] ++ args) >>= fun v => pure (some v)) Q E s := wpAny_bind (wpAny_mono h (fun v s' h' => wpAny_pure h') fun _ _ h' => h')
  split
  · exact wpAny_bind (wpAny_of_eq (F.cmp_object.ne.bind _) (wpAny_pure (by exact fin)))
  · exact wpAny_tryCatch (wpAny_bind (wpAny_of_eq (F.cmp_object.ne.bind _) (wpAny_pure (by exact fin))))
theorem entry_ne {Q : Fin → Shared → Prop} (hu : A.units < cLine) (X : K.In s.heap) (I : PySem.W.InstAt s.heap x ox C od) (he : PySem.W.findIn K (.ref C) "__eq__" = some (some (.ref f))) (hf : PySem.W.isFn K (.ref f) = true)
    (hcall : wpAny (model prog w) A (call (.ref f) [.ref x, b]) (fun v s' => ∃ k, v = .bool k ∧ Q (.done (.ret (.bool (!k)))) s') E s) :
    wpAny (model prog w) A (Builtin.«object.__ne__» ⟨[.ref x, b], []⟩) Q E s := by
  unfold Builtin.«object.__ne__»
  repeat (first
    | with_reducible refine wpAny_cRoomFor hu ?_
    | (refine wpAny_bind (m := callSpecialIfBound? (.ref x) (Str.ofString "__eq__") [b])
        (PySem.W.ifBound_K X I he hf (wpAny_mono hcall (fun r s' hr => by
          obtain ⟨b, rfl, hq⟩ := hr
          repeat (first | exact hq | exact wpAny_pure hq | exact wpAny_truthy_bool hq | (refine wpAny_bind (m := truthy (.bool _)) (wpAny_truthy_bool ?_)) | wp_step)) fun _ _ e => e)))
    | wp_step)
theorem ne_K {Q : Value → Shared → Prop} (hu : A.units + 1 < cLine) (F' : PyProof.Rows.Fr h₀ L s.heap m) (X₀ : K.In h₀) (I : PySem.W.InstAt s.heap x ox C od) (hb : PySem.W.Looks (model prog w) s.heap (typeOf b) tb) (hn : PySem.W.notFirst K C tb = true)
    (hm : PySem.W.mroIn K C (.type "object") = some true) (hs : PySem.W.findIn K (.ref C) "__ne__" = some (some (.builtin "object.__ne__"))) (he : PySem.W.findIn K (.ref C) "__eq__" = some (some (.ref f))) (hf : PySem.W.isFn K (.ref f) = true)
    (h : wpAny (model prog w) A.in1 (call (.ref f) [.ref x, b]) (fun v s' => ∃ k, v = .bool k ∧ Q (.bool (!k)) s') E s) : wpAny (model prog w) A (richCompare .NotEq (.ref x) b) Q E s := by
  have X := X₀.keeps F'.keep
  have one : wpAny (model prog w) A (tryCompare (.ref x) "__ne__" b) (fun r s' => ∃ v, r = some v ∧ Q v s') E s := by
    unfold tryCompare
    refine wpAny_bind (ifBound_objNe X I hs (wpAny_call (codeAny_call_builtin F.cmp_object.ne.plain F.cmpEntry_ne (PySem.W.check_slot F.cmpKind_ne F.cmpSplit_ne (I.type.andThen (PySem.W.looks_mroIn X hm)) (F.cmpArgs_ne _ _)
      (entry_ne (A := A.in1) hu X I he hf (wpAny_mono h (fun v s' hv => ?_) fun _ _ e => e))))))
    obtain ⟨k, rfl, hq⟩ := hv
    first | exact ⟨k, rfl, wpAny_pure ⟨_, rfl, hq⟩⟩ | exact ⟨k, rfl, ⟨_, rfl, hq⟩⟩
  unfold richCompare
  simp only [oneThing_ref, cmpInfo_NotEq]
  refine wpAny_holding (wpAny_bind (wpAny_cRoomFor (Nat.lt_of_succ_lt hu) ?_))
  refine wpAny_bind (I.type.here (wpAny_bind (hb.here ?_)))
  split
  · rename_i q
    have e : PySem.W.subIn K tb (.ref C) = some false := by
      rcases Bool.or_eq_true_iff.mp hn with e | e
      · rw [beq_iff_eq.mp e] at q; simp at q
      · exact beq_iff_eq.mp e
    refine wpAny_bind ((PySem.W.looks_subIn X e).here ?_)
    simp only [Bool.false_eq_true, if_false]
    refine wpAny_bind (m := tryCompare (.ref x) _ b) (wpAny_mono one (fun r s' z => ?_) fun _ _ e => e)
    obtain ⟨v, rfl, hq⟩ := z
    exact wpAny_pure hq
  · refine wpAny_bind (wpAny_pure ?_)
    simp only [Bool.false_eq_true, if_false]
    refine wpAny_bind (m := tryCompare (.ref x) _ b) (wpAny_mono one (fun r s' z => ?_) fun _ _ e => e)
    obtain ⟨v, rfl, hq⟩ := z
    exact wpAny_pure hq
/-- the kinds of things of the model that are no instances -/
inductive KdT (H : Hp) : V → String → Prop where
  | non : KdT H .non "NoneType"
  | bl (k : Bool) : KdT H (.bl k) "bool"
  | int (i : Int) : KdT H (.int i) "int"
  | str (t : Str) : KdT H (.str t) "str"
  | lst {a : Addr} {xs : List V} (e : H a = some (.lst xs)) : KdT H (.ref a) "list"
  | tup {a : Addr} {xs : List V} (e : H a = some (.tup xs)) : KdT H (.ref a) "tuple"
  | dK {a : Addr} {kvs : List (Key × V)} (e : H a = some (.dK kvs)) : KdT H (.ref a) "dict"
theorem looks_is {v : Value} {T : String} (h : s.TypeIs v T) : PySem.W.Looks (model prog w) s.heap (typeOf v) (.type T) := by
  cases v with
  | ref a => obtain ⟨o, ho, hc⟩ := h; exact fun A Q E s k q => wpAny_typeOf_ref (k _ _ ho) (by rw [hc]; exact q)
  | _ => exact PySem.W.Looks.of_pure h
theorem KdT.sub {H : Hp} {y : V} {T : String} (k : KdT H y T) : PySem.W.subIn K (.type T) (.ref C) = some false := by
  have go : ∀ l, fastBuiltinMro T = some l → (l.contains (.ref C)) = false → PySem.W.subIn K (.type T) (.ref C) = some false := fun l e h => by
    show (fastBuiltinMro T).map (·.contains (.ref C)) = some false
    rw [e, Option.map_some, h]
  cases k
  · exact go _ (by decide +kernel : fastBuiltinMro "NoneType" = some [.type "NoneType", .type "object"]) (by simp)
  · exact go _ (by decide +kernel : fastBuiltinMro "bool" = some [.type "bool", .type "int", .type "object"]) (by simp)
  · exact go _ (by decide +kernel : fastBuiltinMro "int" = some [.type "int", .type "object"]) (by simp)
  · exact go _ (by decide +kernel : fastBuiltinMro "str" = some [.type "str", .type "object"]) (by simp)
  · exact go _ (by decide +kernel : fastBuiltinMro "list" = some [.type "list", .type "object"]) (by simp)
  · exact go _ (by decide +kernel : fastBuiltinMro "tuple" = some [.type "tuple", .type "object"]) (by simp)
  · exact go _ (by decide +kernel : fastBuiltinMro "dict" = some [.type "dict", .type "object"]) (by simp)
theorem KdT.is {X : Cx} {pins : List (Addr × Obj)} {σ : L2.St} {H : Hp} {y : V} {u : Value} {T : String} (k : KdT H y T) (I : Inv X pins σ H s) (r : RelV y u) : s.TypeIs u T := by
  cases k with
  | non => cases (show u = Value.none from r); rfl
  | bl k => cases (show u = Value.bool k from r); rfl
  | int i => obtain ⟨t, rfl⟩ := (show ∃ t, u = Value.int i t from r); exact typeIs_int s i t
  | str i => obtain ⟨t, rfl⟩ := (show ∃ t, u = Value.str i t from r); exact typeIs_str s i t
  | @lst a xs e =>
    cases (show u = Value.ref a from r)
    obtain ⟨_, _, n, _, h1⟩ := (show ObjOk X.prog X.w H s.heap a (.lst xs) from I.hok a _ e)
    exact ⟨_, h1, rfl⟩
  | @tup a xs e =>
    cases (show u = Value.ref a from r)
    obtain ⟨_, _, _, o, h1, h2, _⟩ := (show ObjOk X.prog X.w H s.heap a (.tup xs) from I.hok a _ e)
    exact ⟨o, h1, h2⟩
  | @dK a xs e =>
    cases (show u = Value.ref a from r)
    obtain ⟨_, _, vs, _, o, es, ep, h1, h2, _⟩ := (show ObjOk X.prog X.w H s.heap a (.dK xs) from I.hok a _ e)
    exact ⟨o, h1, h2.1⟩
end
section
variable {X : Cx}
def KdV (C : Addr) (H : Hp) (y : V) : Prop := (∃ T, KdT H y T) ∨ ∃ b dy gs, y = .ref b ∧ H b = some (.ins C dy gs)
def rEqW (C : Addr) (sp : Sp) (E : XK) : R2 := fun x y H Q => ∃ a dx fs, x = .ref a ∧ H a = some (.ins C dx fs) ∧ KdV C H y ∧ sp [.ref a, y] H (fun v H' => (∃ k, v = .bl k) ∧ Q v H') E
def rNeW (C : Addr) (sp : Sp) (E : XK) : R2 := fun x y H Q => ∃ a dx fs, x = .ref a ∧ H a = some (.ins C dx fs) ∧ KdV C H y ∧ sp [.ref a, y] H (fun v H' => ∃ k, v = .bl k ∧ Q (.bl (!k)) H') E
theorem KdV.looks {C : Addr} {H : Hp} {y : V} {u : Value} {pins : List (Addr × Obj)} {σ : L2.St} {s : Shared} (k : KdV C H y) (I : Inv X pins σ H s) (r : RelV y u) : ∃ tb, PySem.W.Looks (model X.prog X.w) s.heap (typeOf u) tb ∧ PySem.W.notFirst X.K C tb = true := by
  rcases k with ⟨T, k⟩ | ⟨b, dy, gs, rfl, hb⟩
  · exact ⟨_, looks_is (k.is I r), by unfold PySem.W.notFirst; rw [k.sub]; simp⟩
  · cases r
    obtain ⟨mB, J', _⟩ := ins_get I.hok hb
    obtain ⟨od', J', _⟩ := J'.look
    exact ⟨_, J'.type, by simp [PySem.W.notFirst]⟩
theorem op_eqW {CX : CXT} {C f : Addr} {fd : FuncData} {ps : List Str} {sp : Sp} {E : XK} {n : Nat} (F : FnOk X.prog X.w X.K X.mg X.base CX n f fd ps sp) (hr : Room n X.A) (M : Meth X.K C "__eq__" f) (hb : Binds X.K fd ps []) (hx : Passes CX X E) :
    OpR X (compareOp .Eq) (rEqW C sp E) := by
  intro pins s σ H x y v u Q I rx ry h
  obtain ⟨a, dx, fs, rfl, ha, hk, hsp⟩ := h
  obtain ⟨tb, L2, hn⟩ := hk.looks I ry
  cases rx
  obtain ⟨mA, J, _⟩ := ins_get I.hok ha
  obtain ⟨od, J, _⟩ := J.look
  obtain ⟨m, hF⟩ := I.fr
  show wpAny _ _ (richCompare .Eq _ _) _ _ _
  refine PySem.W.cmp_K (op := .Eq) (tb := tb) hr.units0 hF I.ok.mod.kin J L2 hn M.at_ M.fn ?_
  have hl := F.len _ _ _ _ hsp
  have r2 : Vals [V.ref a, y] [Value.ref a, u] := .cons rfl (.cons ry .nil)
  refine wpAny_call (codeAny_mono (F.run X.A X.stack s H ⟨[.ref a, u], []⟩ [.ref a, u] [.ref a, y] _ E hr I.env0 (by
    have := hb s [.ref a, u] I.kIn (by simpa using hl)
    simpa using this) r2 hsp) fun r s' hq => ?_)
  cases r with
  | error e => exact hx pins σ H s e s' I hq
  | ok fl =>
    cases fl with
    | ret w =>
      obtain ⟨z, H', I', rz, ⟨k, ez⟩, q⟩ := I.after hq
      subst ez
      cases rz
      exact ⟨.bl k, H', I', rfl, q⟩
    | next => exact False.elim hq
    | brk => exact False.elim hq
    | cont => exact False.elim hq
theorem op_neW {CX : CXT} {C f : Addr} {fd : FuncData} {ps : List Str} {sp : Sp} {E : XK} {n : Nat} (F : FnOk X.prog X.w X.K X.mg X.base CX n f fd ps sp) (hr : Room (n + 1) X.A) (M : Meth X.K C "__eq__" f) (hm : PySem.W.mroIn X.K C (.type "object") = some true) (hs : PySem.W.findIn X.K (.ref C) "__ne__" = some (some (.builtin "object.__ne__"))) (hb : Binds X.K fd ps []) (hx : Passes CX X E) :
    OpR X (compareOp .NotEq) (rNeW C sp E) := by
  intro pins s σ H x y v u Q I rx ry h
  obtain ⟨a, dx, fs, rfl, ha, hk, hsp⟩ := h
  obtain ⟨tb, L2, hn⟩ := hk.looks I ry
  cases rx
  obtain ⟨mA, J, _⟩ := ins_get I.hok ha
  obtain ⟨od, J, _⟩ := J.look
  obtain ⟨m, hF⟩ := I.fr
  show wpAny _ _ (richCompare .NotEq _ _) _ _ _
  refine ne_K (tb := tb) hr.in1.units0 hF I.ok.mod.kin J L2 hn hm hs M.at_ M.fn ?_
  have hl := F.len _ _ _ _ hsp
  have r2 : Vals [V.ref a, y] [Value.ref a, u] := .cons rfl (.cons ry .nil)
  refine wpAny_call (codeAny_mono (F.run X.A.in1 X.stack s H ⟨[.ref a, u], []⟩ [.ref a, u] [.ref a, y] _ E hr.in1 I.env0.in1 (by
    have := hb s [.ref a, u] I.kIn (by simpa using hl)
    simpa using this) r2 hsp) fun r s' hq => ?_)
  cases r with
  | error e => exact hx pins σ H s e s' I hq
  | ok fl =>
    cases fl with
    | ret w =>
      obtain ⟨z, H', I', rz, k, ez, q⟩ := I.after hq
      subst ez
      cases rz
      exact ⟨k, rfl, .bl (!k), H', I', rfl, q⟩
    | next => exact False.elim hq
    | brk => exact False.elim hq
    | cont => exact False.elim hq
end
section
open PySem.W
variable {X : Cx}
def rStrOwn (C : Addr) (sp : Sp) (E : XK) : List V → Hp → VK → Prop := fun xs H Q => ∃ a dx fs, xs = [.ref a] ∧ H a = some (.ins C dx fs) ∧ sp [.ref a] H (fun v H' => (∃ t, v = .str t) ∧ Q v H') E
def rReprOwn (C : Addr) (sp : Sp) (E : XK) : List V → Hp → VK → Prop := rStrOwn C sp E
def rLenOwn (C : Addr) (sp : Sp) (E : XK) : List V → Hp → VK → Prop := fun xs H Q => ∃ a dx fs, xs = [.ref a] ∧ H a = some (.ins C dx fs) ∧ sp [.ref a] H (fun v H' => ∃ n : Int, v = .int n ∧ 0 ≤ n ∧ n < 2 ^ 63 ∧ Q v H') E
theorem call_strOwn {CX : CXT} {C f : Addr} {fd : FuncData} {ps : List Str} {sp : Sp} {E : XK} {n : Nat} (F : FnOk X.prog X.w X.K X.mg X.base CX n f fd ps sp) (hr : Room (n + 2) X.A) (M : Meth X.K C "__str__" f) (hb : Binds X.K fd ps []) (hx : Passes CX X E) : CallR X (.type "str") (rStrOwn C sp E) := by
  intro pins s σ H xs us Q I r h
  obtain ⟨a, dx, fs, rfl, ha, hsp⟩ := h
  obtain ⟨u, rfl, ru⟩ := vals1 r
  obtain rfl : u = Value.ref a := ru
  obtain ⟨mA, J, _⟩ := ins_get I.hok ha
  obtain ⟨od, J, _⟩ := J.look
  obtain ⟨m, hF⟩ := I.fr
  have hr1 : Room (n + 1) X.A.in1 := hr.in1
  have hr2 : Room n X.A.in1.in1 := hr1.in1
  have hl := F.len _ _ _ _ hsp
  have r2 : Vals [V.ref a] [Value.ref a] := .cons rfl .nil
  refine PySem.W.kso_call hr2.units0 I.kIn J M.at_ M.fn ?_
  refine wpAny_call (codeAny_mono (F.run X.A.in1.in1 X.stack s H ⟨[.ref a], []⟩ [.ref a] [.ref a] _ E hr2 I.env0.in1.in1 (by
    have := hb s [.ref a] I.kIn (by simpa using hl)
    simpa using this) r2 hsp) fun r s' hq => ?_)
  cases r with
  | error e => exact hx pins σ H s e s' I hq
  | ok fl =>
    cases fl with
    | ret w =>
      obtain ⟨z, H', I', rz, ⟨k, ez⟩, q⟩ := I.after hq
      subst ez
      obtain ⟨t, rfl⟩ := (show ∃ t, w = Value.str k t from rz)
      exact ⟨.str k, H', I', ⟨t, rfl⟩, q⟩
    | next => exact False.elim hq
    | brk => exact False.elim hq
    | cont => exact False.elim hq
theorem call_reprOwn {CX : CXT} {C f : Addr} {fd : FuncData} {ps : List Str} {sp : Sp} {E : XK} {n : Nat} (F : FnOk X.prog X.w X.K X.mg X.base CX n f fd ps sp) (hr : Room (n + 2) X.A) (M : Meth X.K C "__repr__" f) (hb : Binds X.K fd ps []) (hx : Passes CX X E) : CallR X (.builtin "repr") (rReprOwn C sp E) := by
  intro pins s σ H xs us Q I r h
  obtain ⟨a, dx, fs, rfl, ha, hsp⟩ := h
  obtain ⟨u, rfl, ru⟩ := vals1 r
  obtain rfl : u = Value.ref a := ru
  obtain ⟨mA, J, _⟩ := ins_get I.hok ha
  obtain ⟨od, J, _⟩ := J.look
  obtain ⟨m, hF⟩ := I.fr
  have hr1 : Room (n + 1) X.A.in1 := hr.in1
  have hr2 : Room n X.A.in1.in1 := hr1.in1
  have hl := F.len _ _ _ _ hsp
  have r2 : Vals [V.ref a] [Value.ref a] := .cons rfl .nil
  refine PySem.W.repr_K hr1.units0 hF I.ok.mod.kin J M.at_ M.fn ?_
  refine wpAny_call (codeAny_mono (F.run X.A.in1 X.stack s H ⟨[.ref a], []⟩ [.ref a] [.ref a] _ E (hr1.mono (by omega)) I.env0.in1 (by
    have := hb s [.ref a] I.kIn (by simpa using hl)
    simpa using this) r2 hsp) fun r s' hq => ?_)
  cases r with
  | error e => exact hx pins σ H s e s' I hq
  | ok fl =>
    cases fl with
    | ret w =>
      obtain ⟨z, H', I', rz, ⟨k, ez⟩, q⟩ := I.after hq
      subst ez
      obtain ⟨t, rfl⟩ := (show ∃ t, w = Value.str k t from rz)
      exact ⟨.str k, H', I', ⟨t, rfl⟩, q⟩
    | next => exact False.elim hq
    | brk => exact False.elim hq
    | cont => exact False.elim hq
theorem call_lenOwn {CX : CXT} {C f : Addr} {fd : FuncData} {ps : List Str} {sp : Sp} {E : XK} {n : Nat} (F : FnOk X.prog X.w X.K X.mg X.base CX n f fd ps sp) (hr : Room (n + 2) X.A) (M : Meth X.K C "__len__" f) (hb : Binds X.K fd ps []) (hx : Passes CX X E) : CallR X (.builtin "len") (rLenOwn C sp E) := by
  intro pins s σ H xs us Q I r h
  obtain ⟨a, dx, fs, rfl, ha, hsp⟩ := h
  obtain ⟨u, rfl, ru⟩ := vals1 r
  obtain rfl : u = Value.ref a := ru
  obtain ⟨mA, J, _⟩ := ins_get I.hok ha
  obtain ⟨od, J, _⟩ := J.look
  obtain ⟨m, hF⟩ := I.fr
  have hr1 : Room (n + 1) X.A.in1 := hr.in1
  have hr2 : Room n X.A.in1.in1 := hr1.in1
  have hl := F.len _ _ _ _ hsp
  have r2 : Vals [V.ref a] [Value.ref a] := .cons rfl .nil
  refine PySem.W.len_K hF I.ok.mod.kin J M.at_ M.fn ?_
  refine wpAny_call (codeAny_mono (F.run X.A.in1 X.stack s H ⟨[.ref a], []⟩ [.ref a] [.ref a] _ E (hr1.mono (by omega)) I.env0.in1 (by
    have := hb s [.ref a] I.kIn (by simpa using hl)
    simpa using this) r2 hsp) fun r s' hq => ?_)
  cases r with
  | error e => exact hx pins σ H s e s' I hq
  | ok fl =>
    cases fl with
    | ret w =>
      obtain ⟨z, H', I', rz, k, ez, h0, h1, q⟩ := I.after hq
      subst ez
      obtain ⟨t, rfl⟩ := (show ∃ t, w = Value.int k t from rz)
      obtain ⟨hh, g, d, t', os'⟩ := s'
      exact ⟨⟨h0, h1⟩, .int k, H', I'.tok _, ⟨_, rfl⟩, q⟩
    | next => exact False.elim hq
    | brk => exact False.elim hq
    | cont => exact False.elim hq
end

theorem len_l0 : (Str.ofString "").length = 0 := by decide +kernel
theorem len_l1 : (Str.ofString ".").length = 1 := by decide +kernel
theorem len_l2 : (Str.ofString "c.").length = 2 := by decide +kernel
theorem len_l3 : (Str.ofString " ").length = 1 := by decide +kernel
theorem len_l4 : (Str.ofString "<").length = 1 := by decide +kernel
theorem len_l5 : (Str.ofString ">").length = 1 := by decide +kernel
theorem log_s {a : Int} (h1 : -1606938044258990275541962092341162602522202993782792835301376 < a) (h2 : a < 1606938044258990275541962092341162602522202993782792835301376) : a.natAbs.log2 < 1920 := by
  have h : a.natAbs < 2 ^ 200 := by omega
  exact Nat.lt_of_lt_of_le (PySem.Flt.log2_lt_of (by decide) h) (by decide)
theorem sub_skip {Φ Ψ : List (V × W)} {x : V × W} (h : ∀ q ∈ Ψ, q ∈ Φ) : ∀ q ∈ Ψ, q ∈ x :: Φ := fun q hq => List.mem_cons_of_mem _ (h q hq)
theorem sub_cons {Φ Ψ : List (V × W)} {x : V × W} (h0 : x ∈ Φ) (h : ∀ q ∈ Ψ, q ∈ Φ) : ∀ q ∈ x :: Ψ, q ∈ Φ := fun q hq => by
  rcases List.mem_cons.mp hq with rfl | hq
  · exact h0
  · exact h q hq
theorem g_norm {tz : TS} {D : Ends} {σ σ' : L2.St} {i : Nat} {v : Option V} {H : Hp} (e : SetAt σ i v σ') (h : tz D σ' H) : tz D (σ.set i v) H := by rw [e.h]; exact h
local macro_rules | `(tactic| tb_rel) => `(tactic| with_reducible (first | assumption | exact List.mem_cons_self | (apply List.mem_cons_of_mem; tb_rel)))
local macro_rules | `(tactic| kt_at_in) => `(tactic| with_reducible (first | exact KnL.nil | exact Kn.i _ | exact Kn.s _ | exact Kn.n | exact Kn.b _ | exact Kn.o _ | (apply Kn.f; tb_rel) | (apply KnL.cons; kt_at_in; kt_at_in) | exact KnL.is _ V.str W.s (fun _ _ => Kn.s _) | exact KnL.is _ V.int W.i (fun _ _ => Kn.i _)))
local macro_rules | `(tactic| kt_at_item) => `(tactic| with_reducible (first | exact SetM.hd | (apply SetM.tl; kt_at_item)))
local macro_rules | `(tactic| kt_at_method) => `(tactic| with_reducible (first | exact RmM.hd | (apply RmM.tl; kt_at_method)))
local macro_rules | `(tactic| kt_at_method) => `(tactic| with_reducible (first | exact mkin_n | (apply mkin_m; assumption; tb_rel) | (apply mkin_l; assumption; tb_rel) | (apply mkin_t; assumption; tb_rel) | (apply mkin_l0; assumption; tb_rel)))
local macro_rules | `(tactic| kt_at_notin) => `(tactic| with_reducible (first | exact (fun _ h => h) | (refine sub_cons ?_ ?_; (focus (tb_rel)); kt_at_notin) | (refine sub_skip ?_; kt_at_notin)))
local macro_rules | `(tactic| kt_eqs) => `(tactic| with_reducible (first | exact List.Sublist.refl _ | exact List.nil_sublist _ | (refine List.Sublist.cons_cons _ ?_; kt_eqs) | (refine List.Sublist.cons _ ?_; kt_eqs)))
/-- the state, as it is wanted -/
local macro_rules | `(tactic| kt_ors) => `(tactic| first | with_reducible assumption | (refine S.to (by with_reducible assumption) ?_ ?_; (focus (kt_at_notin)); (focus (kt_eqs))))
local macro_rules | `(tactic| kcf_m) => `(tactic| first | with_reducible assumption | (with_reducible exact log_s (by omega) (by omega)) | omega | (with_unfolding_all decide) | (simp only [List.length_cons, List.length_nil, List.length_map, List.length_append, len_one, len_app, len_l0, len_l1, len_l2, len_l3, len_l4, len_l5]; done) | (simp only [List.length_cons, List.length_nil, List.length_map, List.length_append, len_one, len_app, len_l0, len_l1, len_l2, len_l3, len_l4, len_l5]; omega))
/-- one step: what stands at the head -/
local macro_rules | `(tactic| kt_at_get) => `(tactic| with_reducible first
  | refine st_go ?_
  | ((show ite _ _ _); first
    | (apply g_iteVI <;> intro _)
    | (apply g_iteVS <;> intro _)
    | (apply g_iteON <;> intros)
    | (apply g_iteD <;> intro _)
    | (apply g_iteB <;> intro _))
  | ((show rIxL _ _ _ _ _); first
    | (apply g_ixL; (focus (assumption)); (focus (tb_rel)); (focus (with_unfolding_all rfl)); (focus (infer_instance)))
    | (apply g_ixM; (focus (assumption)); (focus (tb_rel)); (focus (with_unfolding_all rfl)))
    | (apply g_ixLr; (focus (assumption)); (focus (tb_rel)); (focus (with_unfolding_all rfl)); (focus (first | exact isL | exact isT | exact isM)); intro _ _)
    | (apply g_ixAI; (focus (assumption)); (focus (tb_rel)); (focus (infer_instance)); (focus (kcf_m)); (focus (kcf_m)); intro _ h; simp only [List.mem_cons, List.not_mem_nil, or_false] at h)
    | (apply g_ixAO; (focus (assumption)); (focus (tb_rel)); (focus (infer_instance)); (focus (kcf_m)); (focus (kcf_m)); intro _ _)
    | (apply g_ixAS; (focus (assumption)); (focus (tb_rel)); (focus (infer_instance)); (focus (kcf_m)); (focus (kcf_m)); intro _ _)
    | (apply g_ixLI; (focus (assumption)); (focus (tb_rel)); (focus (kcf_m)); (focus (kcf_m)); intro _ _ _)
    | (apply g_ixLS; (focus (assumption)); (focus (tb_rel)); (focus (kcf_m)); (focus (kcf_m)); intro _ _ _))
  | ((show rIxT _ _ _ _ _); first
    | (apply g_ixT; (focus (assumption)); (focus (tb_rel)); (focus (with_unfolding_all rfl)); (focus (infer_instance)))
    | (apply g_ixTr; (focus (assumption)); (focus (tb_rel)); (focus (with_unfolding_all rfl)); (focus (first | exact isL | exact isT | exact isM)); intro _ _))
  | (apply g_ixSn; (focus (infer_instance)); (focus (kcf_m)); (focus (kcf_m)); (focus (kcf_m)); intro _ _ _)
  | (apply g_ixS; (focus (kcf_m)); (focus (kcf_m)); (focus (kcf_m)); intro _ _ _)
  | (apply g_newL; (focus (assumption)); (focus (kt_at_in)); (focus (kcf_m)); intro _ _ _)
  | (apply g_newT; (focus (assumption)); (focus (kt_at_in)); (focus (kcf_m)); intro _ _ _)
  | ((show rI _ _ _ _ _ _); first
    | (apply g_rMod; (focus (kcf_m)))
    | (apply g_rModN; (focus (kcf_m)))
    | (apply g_rDiv; (focus (kcf_m)); (focus (kcf_m)))
    | (apply g_rDivW; (focus (kcf_m)); (focus (kcf_m)))
    | (apply g_rPow; (focus (kcf_m)); (focus (kcf_m)); (focus (omega)); (focus (omega)))
    | (apply g_rMul; (focus (omega)); (focus (omega)))
    | (apply g_rMulR; (focus (omega)); (focus (omega))))
  | (apply g_rEq; (focus (with_unfolding_all exact rfl)))
  | (apply g_rNe; (focus (with_unfolding_all exact rfl)))
  | (apply g_rU)
  | (apply g_strAdd; (focus (kcf_m)))
  | (apply g_strI; (focus (kcf_m)); intro _)
  | (apply g_lenS; (focus (kcf_m)))
  | (apply g_intNS <;> intro _)
  | (apply g_intD <;> intro _)
  | (apply g_lenL; (focus (assumption)); (focus (tb_rel)))
  | (apply g_lenT; (focus (assumption)); (focus (tb_rel)))
  | (apply g_lenM; (focus (assumption)); (focus (tb_rel)))
  | (apply g_listL; (focus (assumption)); (focus (tb_rel)); intro _ _ _)
  | (apply g_listT; (focus (assumption)); (focus (tb_rel)); intro _ _ _)
  | (apply g_tupOfS; (focus (assumption)); (focus (tb_rel)); intro _ _ _)
  | (apply g_tyM; (focus (assumption)); (focus (tb_rel)))
  | (apply g_appendS; (focus (assumption)); (focus (tb_rel)); (focus (kcf_m)); (focus (kt_at_item)); intro _ _)
  | (apply g_append; (focus (assumption)); (focus (tb_rel)); (focus (kcf_m)); (focus (kt_at_item)); intro _ _)
  | (apply g_setLS; (focus (assumption)); (focus (tb_rel)); (focus (infer_instance)); (focus (kcf_m)); (focus (kt_at_item)); intro _ _)
  | (apply g_setL; (focus (assumption)); (focus (tb_rel)); (focus (infer_instance)); (focus (kcf_m)); (focus (infer_instance)); (focus (kt_at_item)); intro _ _)
  | (apply g_cat; (focus (assumption)); (focus (tb_rel)); (focus (tb_rel)); (focus (kcf_m)); (focus (infer_instance)); intro _ _ _)
  | (apply g_slTo; (focus (assumption)); (focus (tb_rel)); (focus (infer_instance)); (focus (infer_instance)); intro _ _ _)
  | (apply g_slFrom; (focus (assumption)); (focus (tb_rel)); (focus (infer_instance)); (focus (infer_instance)); intro _ _ _)
  | (apply g_slS; (focus (kcf_m)))
  | (apply g_eqD0; (focus (assumption)); (focus (first | (apply KnM.k; kt_at_in) | (apply KnM.c; tb_rel))); (focus (first | (apply KnM.k; kt_at_in) | (apply KnM.c; tb_rel))); (focus (infer_instance)); (focus (kcf_m)))
  | (apply g_neD0; (focus (assumption)); (focus (first | (apply KnM.k; kt_at_in) | (apply KnM.c; tb_rel))); (focus (first | (apply KnM.k; kt_at_in) | (apply KnM.c; tb_rel))); (focus (infer_instance)); (focus (kcf_m)))
  | (apply g_eqD; (focus (assumption)); (focus (first | (apply KnM.k; kt_at_in) | (apply KnM.c; tb_rel))); (focus (first | (apply KnM.k; kt_at_in) | (apply KnM.c; tb_rel))); (focus (infer_instance)); (focus (infer_instance)); (focus (kcf_m)); (focus (kcf_m)))
  | (apply g_neD; (focus (assumption)); (focus (first | (apply KnM.k; kt_at_in) | (apply KnM.c; tb_rel))); (focus (first | (apply KnM.k; kt_at_in) | (apply KnM.c; tb_rel))); (focus (infer_instance)); (focus (infer_instance)); (focus (kcf_m)); (focus (kcf_m)))
  | (apply g_repr; (focus (assumption)); (focus (first | (apply KnM.k; kt_at_in) | (apply KnM.c; tb_rel))); (focus (infer_instance)); (focus (kcf_m)); (focus (kcf_m)); intro _)
  | (apply g_tupOfM; (focus (assumption)); (focus (tb_rel)); intro _ _ _)
  | (apply g_mkN; (focus (with_unfolding_all rfl)); (focus (with_unfolding_all rfl)))
  | (apply g_mark; (focus (assumption)); (focus (intro _; with_unfolding_all rfl)); (focus (infer_instance)); (focus (infer_instance)); (focus (kt_at_method)); (focus (assumption)); intro _ _ _)
  | (apply g_methM; (focus (assumption)); (focus (tb_rel)); (focus (decide +kernel)); (focus (decide +kernel)))
  | (apply g_newMM; (focus (assumption)); (focus (kcf_m)); intro _ _ _)
  | (apply g_catM; (focus (assumption)); (focus (tb_rel)); (focus (tb_rel)); (focus (kcf_m)); (focus (infer_instance)); (focus (infer_instance)); intro _ _ _)
  | (apply g_listM; (focus (assumption)); (focus (tb_rel)); (focus (infer_instance)); intro _ _ _)
  | (apply g_rngI; (focus (kcf_m)); (focus (kcf_m)))
  | (apply g_rngII; (focus (kcf_m)); (focus (kcf_m)); (focus (kcf_m)); (focus (kcf_m)))
  | (apply g_wlkL; (focus (assumption)); (focus (tb_rel)))
  | refine g_wlkU (by assumption) (by tb_rel) ?_
  | (apply g_norm; (focus (infer_instance))))
local macro_rules | `(tactic| kxt_pos) => `(tactic| simp only [L2.start, L2.cxOf, List.map_cons, List.map_nil, List.length_cons, List.length_nil, Nat.zero_add, Nat.reduceAdd, Nat.reduceSub, List.reduceReplicate, List.replicate_zero, List.cons_append, List.nil_append, List.append_nil])
local macro_rules | `(tactic| kopn_word) => `(tactic| repeat' (first | kt_at_get | kt_len | fail "go"))

/-! ### loops over lists that are told item by item: gone through turn by turn -/
section
variable {K : PySem.W.Frag} {C : Addr} {σ σ0 : L2.St} {H : Hp} {Φ : List (V × W)} {mt nt : List (Addr × (HO → Prop))} {Q : VK} {D : Ends} {tb : TS} {te : TE} {tt : TT} {v y : V} {ws rest : List W} {w : W} {g : TG} {a p : Addr} {vs : List Nat} {acc us : List V} {accW : List W}
def ForIt (K : PySem.W.Frag) (C a : Addr) (ws : List W) (g : TG) (tb : TS) (D : Ends) : List W → L2.St → Hp → Prop
  | [], σ, H => ∃ Φ mt, S K C H Φ mt ∧ (.ref a, .l ws) ∈ Φ ∧ D.nx σ H
  | w :: rest, σ, H => ∃ Φ mt, S K C H Φ mt ∧ (.ref a, .l ws) ∈ Φ ∧ ∀ v, S K C H ((v, w) :: Φ) mt → g v σ H fun σ2 H2 => tb { D with nx := ForIt K C a ws g tb D rest, ct := ForIt K C a ws g tb D rest, bk := D.nx } σ2 H2
class Expl (ws : List W) : Prop where
  h : True
instance : Expl [] := ⟨trivial⟩
instance {w : W} {ws : List W} [Expl ws] : Expl (w :: ws) := ⟨trivial⟩
theorem g_forU (_ : S K C H Φ mt) (_ : (.ref a, .l ws) ∈ Φ) (_ : Expl ws) (h : ForIt K C a ws g tb D ws σ H) : ForW (Itl K a) g tb D σ H := by
  refine ⟨fun j m σ H => m = ws.length - j ∧ j ≤ ws.length ∧ ForIt K C a ws g tb D (ws.drop j) σ H, ⟨ws.length, by simp, Nat.zero_le _, h⟩, ?_⟩
  rintro j m σ' H' ⟨rfl, hi, p⟩
  by_cases hlt : j < ws.length
  · rw [List.drop_eq_getElem_cons hlt] at p
    obtain ⟨Φ', mt', s', m', p⟩ := p
    obtain ⟨vs, v, h1, h2, h3⟩ := s'.grow m' j (List.getElem?_eq_getElem hlt)
    refine .inr ⟨⟨vs, v, h1, h2⟩, ForIt K C a ws g tb D (ws.drop (j + 1)), fun σ2 H2 p' => ⟨ws.length - (j + 1), by omega, rfl, hlt, p'⟩, fun x H2 y => ?_⟩
    obtain ⟨e, y⟩ := y
    subst e
    obtain ⟨vs2, v2, g1, g2, g3⟩ := s'.grow m' j (List.getElem?_eq_getElem hlt)
    have := y vs2 g1
    rw [g2] at this
    cases this
    exact p _ g3
  · have e : j = ws.length := by omega
    subst e
    rw [List.drop_length] at p
    obtain ⟨Φ', mt', s', m', p⟩ := p
    obtain ⟨vs, hv, hlen, _⟩ := s'.open m'
    exact .inl ⟨⟨vs, hv, by omega⟩, p⟩
theorem fi_nil (s : S K C H Φ mt) (h : (.ref a, .l ws) ∈ Φ) (k : D.nx σ H) : ForIt K C a ws g tb D [] σ H := ⟨Φ, mt, s, h, k⟩
theorem fi_sc (s : S K C H Φ mt) (h : (.ref a, .l ws) ∈ Φ) (sc : Sc w v) (k : g v σ H fun σ2 H2 => tb { D with nx := ForIt K C a ws g tb D rest, ct := ForIt K C a ws g tb D rest, bk := D.nx } σ2 H2) : ForIt K C a ws g tb D (w :: rest) σ H :=
  ⟨Φ, mt, s, h, fun u s' => by
    have := sc.h K C H u (s'.rep (.f List.mem_cons_self))
    subst this
    exact k⟩
theorem fi_ref (s : S K C H Φ mt) (h : (.ref a, .l ws) ∈ Φ) (hw : IsRef w) (k : ∀ q, S K C H ((.ref q, w) :: Φ) mt → g (.ref q) σ H fun σ2 H2 => tb { D with nx := ForIt K C a ws g tb D rest, ct := ForIt K C a ws g tb D rest, bk := D.nx } σ2 H2) : ForIt K C a ws g tb D (w :: rest) σ H :=
  ⟨Φ, mt, s, h, fun u s' => by
    obtain ⟨q, rfl⟩ := isRef_of hw (s'.rep (.f List.mem_cons_self))
    exact k q s'⟩
/-- targets of several names, from a tuple that is told -/
def TI (K : PySem.W.Frag) (C : Addr) (H : Hp) (Φ : List (V × W)) (mt : List (Addr × (HO → Prop))) (ws : List W) (t : TGs) (σ : L2.St) (N : L2.St → Hp → Prop) : Prop := ∀ xs : List V, xs.length = ws.length → S K C H (xs.zip ws ++ Φ) mt → t xs σ H N
theorem g_tupT {n : Nat} {t : TGs} {N : L2.St → Hp → Prop} (s : S K C H Φ mt) (h : (.ref a, .t ws) ∈ Φ) (hn : ws.length = n) (k : TI K C H Φ mt ws t σ N) : gTup K n t (.ref a) σ H N := by
  obtain ⟨xs, h1, h2, s'⟩ := s.openT h
  exact ⟨a, xs, rfl, h1, h2.trans hn, k xs h2 s'⟩
theorem ti_nil {N : L2.St → Hp → Prop} (k : S K C H Φ mt → N σ H) : TI K C H Φ mt [] gNil σ N := fun xs hl s => by
  cases xs with
  | nil => exact ⟨rfl, k s⟩
  | cons => cases hl
theorem ti_any {i : Nat} {u : TGs} {N : L2.St → Hp → Prop} (k : ∀ v, S K C H ((v, w) :: Φ) mt → TI K C H ((v, w) :: Φ) mt ws u (σ.set i (some v)) N) : TI K C H Φ mt (w :: ws) (gCons (gName i) u) σ N := fun xs hl s => by
  cases xs with
  | nil => cases hl
  | cons x xs =>
    have s1 : S K C H (xs.zip ws ++ ((x, w) :: Φ)) mt := s.to (fun q hq => by
      rcases List.mem_append.mp hq with h | h
      · exact List.mem_cons_of_mem _ (List.mem_append_left _ h)
      · rcases List.mem_cons.mp h with rfl | h
        · exact List.mem_cons_self
        · exact List.mem_cons_of_mem _ (List.mem_append_right _ h)) (List.Sublist.refl _)
    exact ⟨x, xs, rfl, k x (s1.to (fun q hq => List.mem_append_right _ hq) (List.Sublist.refl _)) xs (Nat.succ.inj hl) s1⟩
theorem ti_sc {i : Nat} {u : TGs} {N : L2.St → Hp → Prop} (sc : Sc w v) (k : TI K C H Φ mt ws u (σ.set i (some v)) N) : TI K C H Φ mt (w :: ws) (gCons (gName i) u) σ N := fun xs hl s => by
  cases xs with
  | nil => cases hl
  | cons x xs =>
    have := sc.h K C H x (s.rep (.f List.mem_cons_self))
    subst this
    exact ⟨_, xs, rfl, k xs (Nat.succ.inj hl) (s.to (fun q hq => List.mem_cons_of_mem _ hq) (List.Sublist.refl _))⟩
theorem ti_ref {i : Nat} {u : TGs} {N : L2.St → Hp → Prop} (hw : IsRef w) (k : ∀ q, TI K C H ((.ref q, w) :: Φ) mt ws u (σ.set i (some (.ref q))) N) : TI K C H Φ mt (w :: ws) (gCons (gName i) u) σ N :=
  ti_any fun v s => by
    obtain ⟨q, rfl⟩ := isRef_of hw (s.rep (.f List.mem_cons_self))
    exact k q
/-- [.. for .. in .. if ..] -/
def LcApp (D : Addr) (y : V) (N : Hp → Prop) (H4 : Hp) : Prop := ∃ acc, H4 D = some (.lst acc) ∧ acc.length < sizeLine ∧ N (upd H4 D (.lst (acc ++ [y])))
def LcIt (K : PySem.W.Frag) (C a : Addr) (ws : List W) (g : TG) (tt : TT) (te : TE) (σ0 : L2.St) (vs : List Nat) (D : Addr) (Q : VK) : List W → Hp → Prop
  | [], H => ∃ Φ mt, S K C H Φ mt ∧ (.ref a, .l ws) ∈ Φ ∧ Q (.ref D) H
  | w :: rest, H => ∃ Φ mt, S K C H Φ mt ∧ (.ref a, .l ws) ∈ Φ ∧ ∀ v, S K C H ((v, w) :: Φ) mt → g v σ0 H fun σ2 H2 => wipe σ2 vs = σ0 ∧ tt σ2 H2 fun b H3 => if b = true then te σ2 H3 fun y H4 => LcApp D y (LcIt K C a ws g tt te σ0 vs D Q rest) H4 else LcIt K C a ws g tt te σ0 vs D Q rest H3
theorem g_lcU (hw : Wp σ vs σ0) (s : S K C H Φ mt) (_ : (.ref a, .l ws) ∈ Φ) (_ : Expl ws) (h : ∀ D H1, S K C H1 Φ ((D, Eq (.lst [])) :: mt) → LcIt K C a ws g tt te σ0 vs D Q ws H1) : LcW (Itl K a) g tt te vs σ H Q := by
  have hw := hw.h
  subst hw
  intro D hD
  have h0 := h D _ (s.addM hD (Ex.new hD) upd_same rfl)
  refine ⟨fun j m H => m = ws.length - j ∧ j ≤ ws.length ∧ LcIt K C a ws g tt te (wipe σ vs) vs D Q (ws.drop j) H, ⟨ws.length, by simp, Nat.zero_le _, h0⟩, ?_⟩
  rintro j m H' ⟨rfl, hi, p⟩
  by_cases hlt : j < ws.length
  · rw [List.drop_eq_getElem_cons hlt] at p
    obtain ⟨Φ', mt', s', m', p⟩ := p
    obtain ⟨us, v, h1, h2, h3⟩ := s'.grow m' j (List.getElem?_eq_getElem hlt)
    refine .inr ⟨⟨us, v, h1, h2⟩, LcIt K C a ws g tt te (wipe σ vs) vs D Q (ws.drop (j + 1)), fun H2 p' => ⟨ws.length - (j + 1), by omega, rfl, hlt, p'⟩, fun x H2 y => ?_⟩
    obtain ⟨e, y⟩ := y
    subst e
    obtain ⟨vs2, v2, g1, g2, g3⟩ := s'.grow m' j (List.getElem?_eq_getElem hlt)
    have := y vs2 g1
    rw [g2] at this
    cases this
    exact p _ g3
  · have e : j = ws.length := by omega
    subst e
    rw [List.drop_length] at p
    obtain ⟨Φ', mt', s', m', p⟩ := p
    obtain ⟨us, hv, hlen, _⟩ := s'.open m'
    exact .inl ⟨⟨us, hv, by omega⟩, p⟩
theorem li_nil (s : S K C H Φ mt) (h : (.ref a, .l ws) ∈ Φ) {D : Addr} (hr : RmM D (Eq (.lst acc)) mt nt) (kn : KnL Φ acc accW) (k : S K C H ((.ref D, .l accW) :: Φ) nt → Q (.ref D) H) : LcIt K C a ws g tt te σ0 vs D Q [] H := ⟨Φ, mt, s, h, k (s.fixL hr kn)⟩
theorem li_sc {D : Addr} (s : S K C H Φ mt) (h : (.ref a, .l ws) ∈ Φ) (sc : Sc w v) (k : g v σ0 H fun σ2 H2 => wipe σ2 vs = σ0 ∧ tt σ2 H2 fun b H3 => if b = true then te σ2 H3 fun y H4 => LcApp D y (LcIt K C a ws g tt te σ0 vs D Q rest) H4 else LcIt K C a ws g tt te σ0 vs D Q rest H3) : LcIt K C a ws g tt te σ0 vs D Q (w :: rest) H :=
  ⟨Φ, mt, s, h, fun u s' => by
    have := sc.h K C H u (s'.rep (.f List.mem_cons_self))
    subst this
    exact k⟩
theorem li_ref {D : Addr} (s : S K C H Φ mt) (h : (.ref a, .l ws) ∈ Φ) (hw : IsRef w) (k : ∀ q, S K C H ((.ref q, w) :: Φ) mt → g (.ref q) σ0 H fun σ2 H2 => wipe σ2 vs = σ0 ∧ tt σ2 H2 fun b H3 => if b = true then te σ2 H3 fun y H4 => LcApp D y (LcIt K C a ws g tt te σ0 vs D Q rest) H4 else LcIt K C a ws g tt te σ0 vs D Q rest H3) : LcIt K C a ws g tt te σ0 vs D Q (w :: rest) H :=
  ⟨Φ, mt, s, h, fun u s' => by
    obtain ⟨q, rfl⟩ := isRef_of hw (s'.rep (.f List.mem_cons_self))
    exact k q s'⟩
theorem g_lcApp {D : Addr} {N : Hp → Prop} (s : S K C H Φ mt) (h : (D, Eq (.lst acc)) ∈ mt) (hz : acc.length ≤ 90000) (hs : SetM D (Eq (.lst (acc ++ [y]))) mt nt) (k : ∀ H', S K C H' Φ nt → N H') : LcApp D y N H :=
  ⟨acc, s.at h, sz_lt (by omega), k _ (s.set hs rfl)⟩
theorem g_wp {P : Prop} (hw : Wp σ vs σ0) (k : P) : wipe σ vs = σ0 ∧ P := ⟨hw.h, k⟩
/-! cells of texts, by open places -/
theorem g_ixMS {ks : List Str} {i : Int} (s : S K C H Φ mt) (h : (p, Eq (.lst (ks.map V.str))) ∈ mt) (h0 : 0 ≤ i) (h1 : i < ks.length) (k : ∀ y, atI ks i = some y → y ∈ ks → Q (.str y) H) : rIxL K (.ref p) (.int i) H Q := by
  obtain ⟨j, rfl⟩ : ∃ j : Nat, i = (j : Int) := ⟨i.toNat, by omega⟩
  have hj : j < ks.length := by omega
  exact ⟨p, _, _, _, rfl, rfl, sq_of (s.at h), atI_nat (by rw [List.getElem?_map, List.getElem?_eq_getElem hj]; rfl), k _ (atI_nat (List.getElem?_eq_getElem hj)) (List.getElem_mem hj)⟩
theorem g_slToM {ks : List Str} {i : Int} {n : Nat} (s : S K C H Φ mt) (h : (p, Eq (.lst (ks.map V.str))) ∈ mt) (hi : Ix i n) (k : ∀ r H', S K C H' ((.ref r, .l ((ks.take n).map W.s)) :: Φ) mt → Q (.ref r) H') : rSlL K (.ref p) none (some i) H Q := by
  obtain rfl := hi.h
  refine ⟨p, _, rfl, sq_of (s.at h), fun r hr => k r _ ?_⟩
  rw [cutV_to, ← List.map_take]
  exact s.addL hr (Ex.new hr) upd_same (.is _ V.str W.s fun x _ => .s x)
theorem g_lenMS {ks : List Str} (s : S K C H Φ mt) (h : (p, Eq (.lst (ks.map V.str))) ∈ mt) (k : Q (.int (ks.length : Int)) H) : rLenS K [.ref p] H Q :=
  g_lenM s h (by rw [List.length_map]; exact k)
theorem S.fixIn {q : Addr} {X : HO → Prop} {ks : List Str} {Ψ : List (V × W)} (s : S K C H Ψ ((p, X) :: (q, Eq (.lst (ks.map V.str))) :: mt)) (hs : ∀ z ∈ Φ, z ∈ Ψ) : S K C H ((.ref q, .l (ks.map W.s)) :: Φ) ((p, X) :: mt) :=
  (s.fixL (.tl .hd) (.is ks V.str W.s fun x _ => .s x)).to (fun z hz => by
    rcases List.mem_cons.mp hz with rfl | hz
    · exact List.mem_cons_self
    · exact List.mem_cons_of_mem _ (hs z hz)) (List.Sublist.refl _)
theorem eqv_none {mks : List Str} (h : (W.l (mks.map W.s)).data.eqv (W.l []).data = true) : mks = [] := by
  simp only [W.data, W.datas, datas_strs, PyData.eqv] at h
  cases mks with
  | nil => rfl
  | cons k ks => simp [PyData.eqvAll] at h
theorem ne_len {mks : List Str} (h : PyData.eqv (W.l (mks.map W.s)).data (W.l []).data = false) : 0 < mks.length := by
  cases mks with
  | nil => simp [W.data, W.datas, PyData.eqv, PyData.eqvAll] at h
  | cons => simp
/-! the script -/
theorem S.start {ns : List Int} (h : SqL K H a (ns.map V.int)) : S K C H [(.ref a, .q ns)] [] :=
  ⟨⟨H, Ex.refl _, fun q hq => by rw [List.mem_singleton.mp hq]; exact .q h, fun q hq => by cases hq⟩, List.Pairwise.nil⟩
theorem g_lenQ {ns : List Int} (s : S K C H Φ mt) (h : (.ref p, .q ns) ∈ Φ) (k : Q (.int (ns.length : Int)) H) : rLenS K [.ref p] H Q := by
  cases s.rep (.f h) with
  | q hq => exact ⟨p, _, rfl, .inl hq, by rw [List.length_map]; exact k⟩
theorem g_ixQ {ns : List Int} {i : Int} (s : S K C H Φ mt) (h : (.ref p, .q ns) ∈ Φ) (h0 : 0 ≤ i) (h1 : i < ns.length) (k : ∀ n, n ∈ ns → Q (.int n) H) : rIxL K (.ref p) (.int i) H Q := by
  obtain ⟨j, rfl⟩ : ∃ j : Nat, i = (j : Int) := ⟨i.toNat, by omega⟩
  have hj : j < ns.length := by omega
  cases s.rep (.f h) with
  | q hq => exact ⟨p, _, _, _, rfl, rfl, hq, atI_nat (by rw [List.getElem?_map, List.getElem?_eq_getElem hj]; rfl), k _ (List.getElem_mem hj)⟩
/-- a row, as a list that may change -/
theorem S.openRow {lt pts : Str} {num : Int} {w4 w5 w6 : W} (s : S K C H Φ mt) (h : (.ref p, .l [.s lt, .i num, .s pts, w4, w5, w6]) ∈ Φ) {v5 v6 : V} (h4 : IsRef w4) (h5 : Sc w5 v5) (h6 : Sc w6 v6) : ∃ ma, SqL K H p [.str lt, .int num, .str pts, .ref ma, v5, v6] ∧ S K C H ((.ref ma, w4) :: Φ) mt := by
  obtain ⟨⟨kb, g1, g2, g3⟩, d⟩ := s
  cases g2 _ h with
  | l hq hr =>
    cases hr with | cons r1 hr => cases hr with | cons r2 hr => cases hr with | cons r3 hr => cases hr with | cons r4 hr => cases hr with | cons r5 hr => cases hr with | cons r6 hr => cases hr with | nil =>
      cases r1; cases r2; cases r3
      obtain ⟨ma, rfl⟩ := isRef_of h4 r4
      have e5 := h5.h K C _ _ r5
      have e6 := h6.h K C _ _ r6
      subst e5; subst e6
      refine ⟨ma, sq_of (g1 _ _ hq), ⟨kb, g1, fun q hq => ?_, g3⟩, d⟩
      rcases List.mem_cons.mp hq with rfl | hq
      · exact r4
      · exact g2 q hq
theorem g_listRow {lt pts : Str} {num : Int} {w4 w5 w6 : W} {v5 v6 : V} (s : S K C H Φ mt) (h : (.ref p, .l [.s lt, .i num, .s pts, w4, w5, w6]) ∈ Φ) (h4 : IsRef w4) (h5 : Sc w5 v5) (h6 : Sc w6 v6) (k : ∀ q ma H', S K C H' ((.ref ma, w4) :: Φ) ((q, Eq (.lst [.str lt, .int num, .str pts, .ref ma, v5, v6])) :: mt) → Q (.ref q) H') : rListM K [.ref p] H Q := by
  obtain ⟨ma, h1, s'⟩ := s.openRow h h4 h5 h6
  exact ⟨p, _, rfl, .inl h1, fun q hn => k q ma _ (s'.addM hn (Ex.new hn) upd_same rfl)⟩
end
section
variable {K : PySem.W.Frag} {C : Addr} {σ σ' : L2.St} {H : Hp} {Φ : List (V × W)} {mt : List (Addr × (HO → Prop))} {ws : List W} {t : TGs} {N : L2.St → Hp → Prop} {i : Nat} {v : Option V} {te : TE} {Q : VK} {tt : TT} {R : Bool → Hp → Prop}
instance (priority := high) {vs : List Nat} {σ0 : L2.St} [q : SetAt σ i v σ'] [r : Wp σ' vs σ0] : St1 (wipe (σ.set i v) vs = σ0 ∧ tt (σ.set i v) H R) (tt σ' H R) := ⟨fun h => by rw [q.h]; exact ⟨r.h, h⟩⟩
instance {P : Prop} {vs : List Nat} {σ0 : L2.St} [r : Wp σ vs σ0] : St1 (wipe σ vs = σ0 ∧ P) P := ⟨fun h => ⟨r.h, h⟩⟩
instance (priority := high) [q : SetAt σ i v σ'] : St1 (TI K C H Φ mt ws t (σ.set i v) N) (TI K C H Φ mt ws t σ' N) := ⟨fun h => by rw [q.h]; exact h⟩
end
local macro_rules | `(tactic| kt_at_in) => `(tactic| with_reducible (first | exact KnL.nil | exact Kn.i _ | exact Kn.s _ | exact Kn.n | exact Kn.b _ | exact Kn.o _ | (apply Kn.f; tb_rel) | (apply KnL.cons; kt_at_in; kt_at_in) | exact KnL.is _ V.str W.s (fun _ _ => Kn.s _) | exact KnL.is _ V.int W.i (fun _ _ => Kn.i _)))
local macro_rules | `(tactic| kt_at_get) => `(tactic| with_reducible first
  | refine st_go ?_
  | ((show ForW _ _ _ _ _ _); apply g_forU; (focus (assumption)); (focus (tb_rel)); (focus (infer_instance)))
  | ((show LcW _ _ _ _ _ _ _ _); apply g_lcU; (focus (infer_instance)); (focus (assumption)); (focus (tb_rel)); (focus (infer_instance)); intro _ _ _)
  | ((show ForIt _ _ _ _ _ _ _ _ _ _); first
    | (apply fi_nil; (focus (assumption)); (focus (tb_rel)))
    | (apply fi_sc; (focus (assumption)); (focus (tb_rel)); (focus (infer_instance)))
    | (apply fi_ref; (focus (assumption)); (focus (tb_rel)); (focus (first | exact isL | exact isT | exact isM)); intro _ _))
  | ((show LcIt _ _ _ _ _ _ _ _ _ _ _ _ _); first
    | (apply li_nil; (focus (assumption)); (focus (tb_rel)); (focus (kt_at_method)); (focus (kt_at_in)); intro _)
    | (apply li_sc; (focus (assumption)); (focus (tb_rel)); (focus (infer_instance)))
    | (apply li_ref; (focus (assumption)); (focus (tb_rel)); (focus (first | exact isL | exact isT | exact isM)); intro _ _))
  | ((show LcApp _ _ _ _); apply g_lcApp; (focus (assumption)); (focus (tb_rel)); (focus (kcf_m)); (focus (kt_at_item)); intro _ _)
  | ((show rIxL _ _ _ _ _); apply g_ixMS; (focus (assumption)); (focus (tb_rel)); (focus (kcf_m)); (focus (kcf_m)); intro _ _ _)
  | ((show rSlL _ _ _ _ _ _); apply g_slToM; (focus (assumption)); (focus (tb_rel)); (focus (infer_instance)); intro _ _ _)
  | ((show rLenS _ _ _ _); apply g_lenMS; (focus (assumption)); (focus (tb_rel)))
  | ((show rLenS _ _ _ _); apply g_lenQ; (focus (assumption)); (focus (tb_rel)))
  | ((show rIxL _ _ _ _ _); apply g_ixQ; (focus (assumption)); (focus (tb_rel)); (focus (kcf_m)); (focus (kcf_m)); intro _ _)
  | ((show gTup _ _ _ _ _ _ _); apply g_tupT; (focus (assumption)); (focus (tb_rel)); (focus (with_unfolding_all exact rfl)))
  | ((show TI _ _ _ _ _ _ _ _ _); first
    | (apply ti_nil; intro _)
    | (apply ti_sc; (focus (infer_instance)))
    | (apply ti_ref; (focus (first | exact isL | exact isT | exact isM)); intro _))
  | ((show rListM _ _ _ _); apply g_listRow; (focus (assumption)); (focus (tb_rel)); (focus (first | exact isL | exact isT | exact isM)); (focus (infer_instance)); (focus (infer_instance)); intro _ _ _ _))


theorem words_len {m : MK} (ok : m.Ok) : m.words.length ≤ 6 ∧ ∀ s ∈ m.words, s.length ≤ 5000 := by
  have hk := ok.k
  have hh := head_len ok
  have e0 : (Str.empty).length = 0 := rfl
  have hcl : (("c." : Str)).length = 2 := by decide +kernel
  have hm : ∀ s ∈ m.mks, s.length ≤ 5000 := fun s h => by have := (ok.ks s h).2; omega
  have hy : ∀ y, m.yr = some y → (Str.ofString (toString y)).length ≤ 1921 := fun y h => int_len (log_s (by have := ok.y y h; omega) (by have := ok.y y h; omega))
  have hc : ∀ y, m.cp = some y → (Str.ofString (toString y)).length ≤ 1921 := fun y h => int_len (ok.c y h).2
  unfold MK.words
  constructor
  · cases m.yr <;> cases m.cp <;> simp only [List.length_append, List.length_cons, List.length_nil] <;> omega
  · intro s hs
    simp only [List.mem_append, List.mem_cons] at hs
    rcases hs with ((rfl | hs) | hs) | hs
    · exact hh
    · exact hm s hs
    · cases h : m.yr with
      | none => rw [h] at hs; cases hs
      | some y => rw [h] at hs; rw [List.mem_singleton.mp hs]; have := hy y h; omega
    · cases h : m.cp with
      | none => rw [h] at hs; cases hs
      | some y =>
        rw [h] at hs
        rw [List.mem_singleton.mp hs, fold_len]
        simp only [List.map_cons, List.map_nil, List.sum_cons, List.sum_nil, hcl, e0]
        have := hc y h
        omega
theorem text_len {m : MK} (ok : m.Ok) : m.text.length ≤ 50000 := by
  obtain ⟨h1, h2⟩ := words_len ok
  have h3 := StrLaws.join_length_le " " m.words
  have h4 := sum_le h2
  have hb : ((" " : Str)).length = 1 := by decide +kernel
  have e : m.text = Str.join " " m.words := StrLaws.glued_eq_join _ _
  rw [hb] at h3
  rw [e]
  have : m.words.length * 5000 ≤ 6 * 5000 := Nat.mul_le_mul_right _ h1
  omega
theorem strOk_iff {t : Str} : PyData.strOk t = true ↔ ∀ c ∈ sg t, c < 0x110000 := by
  unfold PyData.strOk
  rw [← Array.all_toList, List.all_eq_true]
  exact ⟨fun h c hc => of_decide_eq_true (h c hc), fun h c hc => decide_eq_true (h c hc)⟩
theorem strOk_app {a b : Str} (h1 : PyData.strOk a = true) (h2 : PyData.strOk b = true) : PyData.strOk (a ++ b) = true := by
  rw [strOk_iff] at *
  intro c hc
  rw [sg_app] at hc
  exact (List.mem_append.mp hc).elim (h1 c) (h2 c)
theorem strOk_lit (s : String) : PyData.strOk (Str.ofString s) = true := by
  rw [strOk_iff, PySem.Str.ofString_eq_toList]
  intro c hc
  have hc : c ∈ s.toList.map Char.toNat := by simpa using hc
  obtain ⟨d, _, rfl⟩ := List.mem_map.mp hc
  have := d.valid
  rcases this with h | ⟨_, h⟩
  · exact Nat.lt_of_lt_of_le h (by decide)
  · exact h
theorem strOk_join {sep : Str} (hs : PyData.strOk sep = true) : ∀ {ws : List Str}, (∀ w ∈ ws, PyData.strOk w = true) → PyData.strOk (Str.join sep ws) = true
  | [], _ => by show PyData.strOk Str.empty = true; decide +kernel
  | [x], h => h x List.mem_cons_self
  | x :: y :: r, h => strOk_app (strOk_app (h x List.mem_cons_self) hs) (strOk_join hs fun w hw => h w (List.mem_cons_of_mem _ hw))
theorem text_ok {m : MK} (ok : m.Ok) : PyData.strOk m.text = true := by
  have e : m.text = Str.join " " m.words := StrLaws.glued_eq_join _ _
  rw [e]
  refine strOk_join (strOk_lit " ") fun s hs => ?_
  have hl := strOk_of (letters_in ok.l) abc_ok
  have hp := points_str ok.p
  have he : PyData.strOk Str.empty = true := by decide +kernel
  have hh : PyData.strOk m.head = true := by
    unfold MK.head
    by_cases h : m.pts = ("" : Str)
    · rw [if_pos h]; exact strOk_app (strOk_app he hl) (strOk_lit _)
    · rw [if_neg h]; exact strOk_app (strOk_app (strOk_app (strOk_app he hl) (strOk_lit _)) (strOk_lit _)) hp
  unfold MK.words at hs
  simp only [List.mem_append, List.mem_cons] at hs
  rcases hs with ((rfl | hs) | hs) | hs
  · exact hh
  · exact maker_str (ok.ks s hs).1
  · cases h : m.yr with
    | none => rw [h] at hs; cases hs
    | some y => rw [h] at hs; rw [List.mem_singleton.mp hs]; exact strOk_lit _
  · cases h : m.cp with
    | none => rw [h] at hs; cases hs
    | some y => rw [h] at hs; rw [List.mem_singleton.mp hs]; exact strOk_app (strOk_app he (strOk_lit _)) (strOk_lit _)
theorem sok_l {t : Str} (h : lettersOk t 3 = true) : SOk t := ⟨strOk_of (letters_in h) abc_ok, by have := letters_len h; omega⟩
theorem sok_p {t : Str} (h : pointsOk t = true) (hl : t.length ≤ 1000) : SOk t := ⟨points_str h, by omega⟩
theorem sok_k {m : MK} (ok : m.Ok) : SOkL m.mks := ⟨fun k h => ⟨maker_str (ok.ks k h).1, by have := (ok.ks k h).2; omega⟩, by have := ok.k; omega⟩
theorem iok_n {m : MK} (ok : m.Ok) : IOk m.num := ⟨log_s (by have := ok.n; omega) (by have := ok.n; omega)⟩
theorem ook_y {m : MK} (ok : m.Ok) : OOk m.yr := ⟨fun n h => log_s (by have := ok.y n h; omega) (by have := ok.y n h; omega)⟩
theorem ook_c {m : MK} (ok : m.Ok) : OOk m.cp := ⟨fun n h => (ok.c n h).2⟩
theorem sok_t {m : MK} (ok : m.Ok) : SOk m.text := ⟨text_ok ok, Nat.le_trans (text_len ok) (by decide)⟩
/-! f-strings, part by part -/
section
variable {K : PySem.W.Frag} {C : Addr} {σ : L2.St} {H : Hp} {te : TE} {ts : List TE} {Q : VK} {R : Str → Hp → Prop} {acc y : Str} {i : Int}
theorem e_app {s : Str} : Str.empty ++ s = s := str_ext (by rw [sg_app]; rfl)
def JW (ts : List TE) (acc : Str) (R : Str → Hp → Prop) (σ : L2.St) (x : V) (H1 : Hp) : Prop := ∃ y : Str, x = .str y ∧ (acc ++ y).length ≤ sizeLine ∧ tJs ts (acc ++ y) σ H1 R
theorem g_jNilR (h : R acc H) : tJs [] acc σ H R := h
instance : St1 (tJs [] acc σ H R) (R acc H) := ⟨g_jNilR⟩
theorem g_jConsR (h : te σ H fun x H1 => JW ts acc R σ x H1) : tJs (te :: ts) acc σ H R := h
instance : St1 (tJs (te :: ts) acc σ H R) (te σ H fun x H1 => JW ts acc R σ x H1) := ⟨g_jConsR⟩
theorem g_jw0 (hz : y.length ≤ 100000) (h : tJs ts y σ H R) : JW ts Str.empty R σ (.str y) H := ⟨y, rfl, by rw [e_app]; exact sz_of hz, by rw [e_app]; exact h⟩
theorem g_jw (hz : (acc ++ y).length ≤ 100000) (h : tJs ts (acc ++ y) σ H R) : JW ts acc R σ (.str y) H := ⟨y, rfl, sz_of hz, h⟩
def FmtW (x : V) (H1 : Hp) (Q : VK) : Prop := (∃ s : Str, x = .str s ∧ s.length ≤ sizeLine ∧ Q (.str s) H1) ∨ ∃ i : Int, x = .int i ∧ i.natAbs.log2 < 1920 ∧ Q (.str (toString i)) H1
theorem g_fmtW (h : te σ H fun x H1 => FmtW x H1 Q) : tFmt te σ H Q := h
instance : St1 (tFmt te σ H Q) (te σ H fun x H1 => FmtW x H1 Q) := ⟨g_fmtW⟩
theorem g_fmtS (hz : y.length ≤ 100000) (k : Q (.str y) H) : FmtW (.str y) H Q := .inl ⟨y, rfl, sz_of hz, k⟩
theorem g_fmtI (hz : i.natAbs.log2 < 1920) (k : (Str.ofString (toString i)).length ≤ 1921 → Q (.str (toString i)) H) : FmtW (.int i) H Q := .inr ⟨i, rfl, hz, k (int_len hz)⟩
end
local macro_rules | `(tactic| kt_at_get) => `(tactic| with_reducible first
  | (apply g_jw0; (focus (kcf_m)))
  | (apply g_jw; (focus (kcf_m)))
  | (apply g_fmtS; (focus (kcf_m)))
  | (apply g_fmtI; (focus (kcf_m)); intro _))
abbrev MK.row (m : MK) : W := .l [.s m.lt, .i m.num, .s m.pts, .l (m.mks.map W.s), W.o m.yr, W.o m.cp]
/-! ### methods of marks, by facts -/
section
variable {K : PySem.W.Frag} {C : Addr} {σ : L2.St} {H H1 : Hp} {Φ : List (V × W)} {mt nt : List (Addr × (HO → Prop))} {Q : VK} {ta te : TE} {tl tr tk : TA} {v x y z : V} {vs us xs dvs : List V} {p a q : Addr} {sp : Sp} {E : XK} {m n : MK} {w : W}
def W.isq : W → Bool
  | .q _ => true
  | _ => false
def FldW (K : PySem.W.Frag) (f : Str) (x : V) (H1 : Hp) (Q : VK) : Prop := ∃ a C dx fs v, x = .ref a ∧ H1 a = some (.ins C dx fs) ∧ Cls K C ∧ NoAttr K C f ∧ fs.lookup f = some v ∧ Q v H1
theorem g_fld {f : Str} (h : ta σ H fun x H1 => FldW K f x H1 Q) : tFld K ta f σ H Q := h
instance {f : Str} : St1 (tFld K ta f σ H Q) (ta σ H fun x H1 => FldW K f x H1 Q) := ⟨g_fld⟩
theorem S.openM (s : S K C H Φ mt) (h : (.ref a, .m m) ∈ Φ) : ∃ dx pa ma, H a = some (.ins C dx [("_parts", .ref pa), ("_text", .str m.text)]) ∧ S K C H ((.ref pa, .t [.s m.lt, .i m.num, .s m.pts, .t (m.mks.map W.s), W.o m.yr, W.o m.cp]) :: (.ref ma, .t (m.mks.map W.s)) :: Φ) mt := by
  obtain ⟨⟨kb, h1, h2, h3⟩, d⟩ := s
  cases h2 _ h with
  | m hm ok =>
    obtain ⟨dx, pa, ma, g1, g2, g3⟩ := hm
    have r1 : Rep K C kb (.ref ma) (.t (m.mks.map W.s)) := .t g3 (RepL.map V.str W.s _ fun x _ => .s x)
    have ro : ∀ o : Option Int, Rep K C kb (oi o) (W.o o) := fun o => by cases o; exact .n; exact .i _
    have r2 : Rep K C kb (.ref pa) (.t [.s m.lt, .i m.num, .s m.pts, .t (m.mks.map W.s), W.o m.yr, W.o m.cp]) := .t g2 (.cons (.s _) (.cons (.i _) (.cons (.s _) (.cons r1 (.cons (ro _) (.cons (ro _) .nil))))))
    refine ⟨dx, pa, ma, h1 _ _ g1, ⟨kb, h1, fun q hq => ?_, h3⟩, d⟩
    rcases List.mem_cons.mp hq with rfl | hq
    · exact r2
    · rcases List.mem_cons.mp hq with rfl | hq
      · exact r1
      · exact h2 q hq
theorem g_fldText (s : S K C H Φ mt) (h : (.ref a, .m m) ∈ Φ) (hc : Cls K C) (hn : NoAttr K C "_text") (k : Q (.str m.text) H) : FldW K "_text" (.ref a) H Q := by
  obtain ⟨dx, pa, ma, h1, _⟩ := s.openM h
  exact ⟨a, C, dx, _, _, rfl, h1, hc, hn, by kernel_rfl, k⟩
theorem g_fldParts (s : S K C H Φ mt) (h : (.ref a, .m m) ∈ Φ) (hc : Cls K C) (hn : NoAttr K C "_parts") (k : ∀ p, S K C H ((.ref p, .t [.s m.lt, .i m.num, .s m.pts, .t (m.mks.map W.s), W.o m.yr, W.o m.cp]) :: Φ) mt → Q (.ref p) H) : FldW K "_parts" (.ref a) H Q := by
  obtain ⟨dx, pa, ma, h1, s'⟩ := s.openM h
  exact ⟨a, C, dx, _, _, rfl, h1, hc, hn, by kernel_rfl, k _ (s'.to (fun q hq => by
    rcases List.mem_cons.mp hq with rfl | hq
    · exact List.mem_cons_self
    · exact List.mem_cons_of_mem _ (List.mem_cons_of_mem _ hq)) (List.Sublist.refl _))⟩
theorem S.insM (s : S K C H Φ mt) (h : (.ref a, .m m) ∈ Φ) : ∃ dx fs, H a = some (.ins C dx fs) := by
  obtain ⟨dx, pa, ma, h1, _⟩ := s.openM h
  exact ⟨_, _, h1⟩
def spGet (K : PySem.W.Frag) (C : Addr) (f : MK → V) : Sp := fun vs H Q _ => ∃ x m Φ mt, vs = [.ref x] ∧ (.ref x, .m m) ∈ Φ ∧ S K C H Φ mt ∧ ∀ H', S K C H' Φ mt → Q (f m) H'
def spGetT (K : PySem.W.Frag) (C : Addr) (f : MK → List W) : Sp := fun vs H Q _ => ∃ x m Φ mt, vs = [.ref x] ∧ (.ref x, .m m) ∈ Φ ∧ S K C H Φ mt ∧ ∀ p H', S K C H' ((.ref p, .t (f m)) :: Φ) mt → Q (.ref p) H'
theorem use_get {f : MK → V} (s : S K C H Φ mt) (h : (.ref a, .m m) ∈ Φ) (k : ∀ H', S K C H' Φ mt → Q (f m) H') : spGet K C f [.ref a] H Q E := ⟨a, m, Φ, mt, rfl, h, s, k⟩
theorem use_getT {f : MK → List W} (s : S K C H Φ mt) (h : (.ref a, .m m) ∈ Φ) (k : ∀ p H', S K C H' ((.ref p, .t (f m)) :: Φ) mt → Q (.ref p) H') : spGetT K C f [.ref a] H Q E := ⟨a, m, Φ, mt, rfl, h, s, k⟩
theorem g_methN {mn : Str} (s : S K C H Φ mt) (h : (.ref a, .m m) ∈ Φ) (h1 : mn ≠ "_parts") (h2 : mn ≠ "_text") (q : tl σ H fun vs H2 => sp (.ref a :: vs) H2 Q E) : MethW C mn sp [] E tl σ Q (.ref a) H :=
  g_methM s h h1 h2 (by simpa only [List.append_nil] using q)
theorem g_meth0 {mn : Str} {f : MK → V} (s : S K C H Φ mt) (h : (.ref a, .m m) ∈ Φ) (h1 : mn ≠ "_parts") (h2 : mn ≠ "_text") (k : ∀ H', S K C H' Φ mt → Q (f m) H') : MethW C mn (spGet K C f) [] E tNil σ Q (.ref a) H :=
  g_methM s h h1 h2 (use_get (E := E) s h k)
theorem g_methT {mn : Str} {f : MK → List W} (s : S K C H Φ mt) (h : (.ref a, .m m) ∈ Φ) (h1 : mn ≠ "_parts") (h2 : mn ≠ "_text") (k : ∀ p H', S K C H' ((.ref p, .t (f m)) :: Φ) mt → Q (.ref p) H') : MethW C mn (spGetT K C f) [] E tNil σ Q (.ref a) H :=
  g_methM s h h1 h2 (use_getT (E := E) s h k)
theorem g_strOwn {f : MK → V} (s : S K C H Φ mt) (h : (.ref a, .m m) ∈ Φ) (hf : ∃ t, f m = .str t) (k : ∀ H', S K C H' Φ mt → Q (f m) H') : rStrOwn C (spGet K C f) E [.ref a] H Q := by
  obtain ⟨dx, fs, h1⟩ := s.insM h
  exact ⟨a, dx, fs, rfl, h1, use_get s h fun H' s' => ⟨hf, k H' s'⟩⟩
theorem g_reprOwn {f : MK → V} (s : S K C H Φ mt) (h : (.ref a, .m m) ∈ Φ) (hf : ∃ t, f m = .str t) (k : ∀ H', S K C H' Φ mt → Q (f m) H') : rReprOwn C (spGet K C f) E [.ref a] H Q := g_strOwn s h hf k
theorem g_lenOwn {f : MK → V} {n : Nat} (s : S K C H Φ mt) (h : (.ref a, .m m) ∈ Φ) (hf : f m = .int n) (hz : n < 100000) (k : ∀ H', S K C H' Φ mt → Q (.int n) H') : rLenOwn C (spGet K C f) E [.ref a] H Q := by
  obtain ⟨dx, fs, h1⟩ := s.insM h
  exact ⟨a, dx, fs, rfl, h1, use_get s h fun H' s' => ⟨n, hf, by omega, by omega, by rw [hf]; exact k H' s'⟩⟩
theorem kE_self (m : MK) : kE m m = true := by unfold kE; simp
instance {m : MK} {A B : Prop} : St1 (if kE m m = true then A else B) A := ⟨fun h => by rw [if_pos (kE_self m)]; exact h⟩
theorem dec_vint {a b : Int} : decide (V.int a = V.int b) = decide (a = b) := by
  by_cases h : a = b
  · rw [h, decide_eq_true rfl, decide_eq_true rfl]
  · rw [decide_eq_false h, decide_eq_false (fun z => h (V.int.inj z))]
theorem kE_comm (m n : MK) : kE m n = kE n m := by
  unfold kE
  simp only [eq_comm]
theorem eqv_strs : ∀ ks js : List Str, PyData.eqvAll (ks.map PyData.str) (js.map PyData.str) = decide (ks = js)
  | [], [] => by simp [PyData.eqvAll]
  | [], _ :: _ => by simp [PyData.eqvAll]
  | _ :: _, [] => by simp [PyData.eqvAll]
  | k :: ks, j :: js => by
    simp only [List.map_cons, PyData.eqvAll, PyData.eqv, eqv_strs ks js, List.cons.injEq]
    by_cases h : k = j <;> simp [h]
theorem eqv_o {o p : Option Int} (h1 : ∀ i, o = some i → i ≠ 0) (h2 : ∀ i, p = some i → i ≠ 0) : PyData.eqv (W.o o).data (W.o p).data = decide (o.getD 0 = p.getD 0) := by
  cases o with
  | none => cases p with
    | none => simp [W.o, W.data, PyData.eqv]
    | some j => have := h2 j rfl; simp [W.o, W.data, PyData.eqv]; exact fun h => this h.symm
  | some i => cases p with
    | none => have := h1 i rfl; simp [W.o, W.data, PyData.eqv, this]
    | some j => simp [W.o, W.data, PyData.eqv]; rw [Bool.eq_iff_iff]; simp
theorem eqv_row {m n : MK} (okm : m.Ok) (okn : n.Ok) : PyData.eqv m.row.data n.row.data = kE m n := by
  unfold MK.row kE
  simp only [W.data, W.datas, datas_strs, PyData.eqv, PyData.eqvAll, eqv_strs, Bool.and_true]
  rw [eqv_o (fun i h => by have := okm.y i h; omega) (fun i h => by have := okn.y i h; omega), eqv_o (fun i h => by have := (okm.c i h).1; omega) (fun i h => by have := (okn.c i h).1; omega)]
  rw [Bool.eq_iff_iff]
  simp only [Bool.and_eq_true, decide_eq_true_eq, beq_iff_eq]
theorem row_ly {m : MK} (ok : m.Ok) : ∃ d z, Ly m.row d z ∧ d ≤ 3 := by
  have i1 : SOk m.lt := sok_l ok.l
  have i2 : SOk m.pts := sok_p ok.p ok.pz
  have i3 : SOkL m.mks := sok_k ok
  have i4 : IOk m.num := iok_n ok
  have i5 : OOk m.yr := ook_y ok
  have i6 : OOk m.cp := ook_c ok
  exact ⟨_, _, (inferInstance : Ly (.l [.s m.lt, .i m.num, .s m.pts, .l (m.mks.map W.s), W.o m.yr, W.o m.cp]) _ _), by decide⟩
theorem g_eqRow (s : S K C H Φ mt) (h1 : (x, m.row) ∈ Φ) (h2 : (y, n.row) ∈ Φ) (okm : m.Ok) (okn : n.Ok) (k : Q (.bl (kE m n)) H) : rEqD K x y H Q := by
  obtain ⟨d, z, l1, h3⟩ := row_ly okm
  obtain ⟨e, z', l2, h4⟩ := row_ly okn
  refine g_eqD s (.k (.f h1)) (.k (.f h2)) l1 l2 (by omega) (by omega) ?_
  rw [eqv_row okm okn]
  exact k
theorem g_neRow (s : S K C H Φ mt) (h1 : (x, m.row) ∈ Φ) (h2 : (y, n.row) ∈ Φ) (okm : m.Ok) (okn : n.Ok) (k : Q (.bl (!kE m n)) H) : rNeD K x y H Q := by
  obtain ⟨d, z, l1, h3⟩ := row_ly okm
  obtain ⟨e, z', l2, h4⟩ := row_ly okn
  refine g_neD s (.k (.f h1)) (.k (.f h2)) l1 l2 (by omega) (by omega) ?_
  rw [eqv_row okm okn]
  exact k
/-- a mark held against anything -/
def eqMW (m : MK) : W → Bool
  | .m n => kE m n
  | _ => false
def spEqS (K : PySem.W.Frag) (C : Addr) : Sp := fun vs H Q _ => ∃ x y m w Φ mt, vs = [.ref x, y] ∧ (.ref x, .m m) ∈ Φ ∧ KnM Φ mt y w ∧ w.isq = false ∧ S K C H Φ mt ∧ ∀ H', S K C H' Φ mt → Q (.bl (eqMW m w)) H'
theorem kdv_of (r : Rep K C H y w) (hq : w.isq = false) : KdV C H y := by
  cases r with
  | i n => exact .inl ⟨_, .int n⟩
  | b c => exact .inl ⟨_, .bl c⟩
  | n => exact .inl ⟨_, .non⟩
  | s t => exact .inl ⟨_, .str t⟩
  | l h _ => exact .inl ⟨_, .lst h⟩
  | t h _ => exact .inl ⟨_, .tup h⟩
  | m h _ => obtain ⟨dx, pa, ma, h1, _⟩ := h; exact .inr ⟨_, _, _, rfl, h1⟩
  | q _ => cases hq
theorem g_eqW (s : S K C H Φ mt) (h : (.ref a, .m m) ∈ Φ) (h2 : KnM Φ mt y w) (hq : w.isq = false) (k : ∀ H', S K C H' Φ mt → Q (.bl (eqMW m w)) H') : rEqW C (spEqS K C) E (.ref a) y H Q := by
  obtain ⟨dx, fs, h1⟩ := s.insM h
  exact ⟨a, dx, fs, rfl, h1, kdv_of (s.repM h2) hq, a, y, m, w, Φ, mt, rfl, h, h2, hq, s, fun H' s' => ⟨⟨_, rfl⟩, k H' s'⟩⟩
theorem g_neW (s : S K C H Φ mt) (h : (.ref a, .m m) ∈ Φ) (h2 : KnM Φ mt y w) (hq : w.isq = false) (k : ∀ H', S K C H' Φ mt → Q (.bl (!eqMW m w)) H') : rNeW C (spEqS K C) E (.ref a) y H Q := by
  obtain ⟨dx, fs, h1⟩ := s.insM h
  exact ⟨a, dx, fs, rfl, h1, kdv_of (s.repM h2) hq, a, y, m, w, Φ, mt, rfl, h, h2, hq, s, fun H' s' => ⟨_, rfl, k H' s'⟩⟩
theorem KdT.tyx {T : String} (k : KdT H y T) : TyX K H y (.type T) := by
  cases k with
  | non => exact .base .non
  | bl k => exact .base (.bl k)
  | int i => exact .base (.int i)
  | str t => exact .base (.str t)
  | lst e => exact .base (.lst e)
  | tup e => exact .base (.tup e)
  | dK e => exact .base (.dK e)
theorem KdT.notC {T : String} (k : KdT H y T) (ki : ((PySem.W.clsIn K C).isSome && PySem.W.typeIn K (.ref C) == some (.type "type")) = true) : PySem.W.kitOne K (.type T) (.ref C) = some false := by
  unfold PySem.W.kitOne PySem.W.kitCls
  rw [if_neg (by simp)]
  show (if _ then _ else _) = _
  rw [if_pos ki]
  exact k.sub
end
section
variable {P : Program} {w : World} {K : PySem.W.Frag} {mg : Str → Option Value} {base : Heap} {Z : Adr} {C : Addr}
theorem ok_Mark_eq (T : Txt K mg Z) : FnOk P w K mg base CX0 1 Z.a_Mark_eq Z.d_Mark_eq ["self", "other"] (spEqS K Z.C_Mark) := by
  refine T.F_Mark_eq.ok sc_Mark_eq (fun vs H Q E h => ?_) (fun cdv A outer s H vs Q E hr h => ?_)
  · obtain ⟨_, _, _, _, _, _, rfl, _⟩ := h; rfl
  · obtain ⟨x, y, m, w, Φ, mt, rfl, hx, hy, hq, s, kk⟩ := h
    refine ⟨_, (pss_one (ps_ret (pe_and (pe_callB (isiK K) (by rfl) T.n_isinstance (by decide +kernel) (pa_cons (pv 1) (pa_cons (pe_glob (v := .ref Z.C_Mark) rfl T.g_Mark rfl) pa_nil))) (pe_one (pe_cmpR (eqDK K hr.units) (fldK K (pv 0) rfl) (fldK K (pv 1) rfl) (nomark _)))))), ?_⟩
    have no : ∀ {T1 : String}, KdT H y T1 → eqMW m w = false → tRet (tAndV (tCB (rIsi K) (tCons (tVar 1) (tCons (tC (.ref Z.C_Mark)) tNil))) (tOp (rEqD K) (tFld K (tVar 0) "_parts") (tFld K (tVar 1) "_parts"))) { nx := fun _ H' => Q .non H', rt := Q } [some (.ref x), some y] H := fun k e =>
      ⟨_, rfl, _, _, _, _, false, rfl, .own Z.C_Mark, k.tyx, k.notC T.ki_Mark, false, rfl, iteF (by have := kk H s; rw [e] at this; exact this)⟩
    have r := s.repM hy
    cases hw : w with
    | m n =>
      subst hw
      obtain ⟨⟨dx, pa, ma, h1, h2, h3⟩, okm⟩ := s.mark hx
      cases r with
      | m hn okn =>
        obtain ⟨dy, pb, mb, g1, g2, g3⟩ := hn
        refine ⟨_, rfl, _, _, _, _, true, rfl, .own Z.C_Mark, .base (.ins g1 T.cl_Mark T.t1_Mark T.t2_Mark T.t3_Mark T.t4_Mark), kit_self, true, rfl, iteT ?_⟩
        refine ⟨_, rfl, x, Z.C_Mark, dx, _, _, rfl, h1, T.cl_Mark, T.na_Mark_parts, by kernel_rfl, _, rfl, _, Z.C_Mark, dy, _, _, rfl, g1, T.cl_Mark, T.na_Mark_parts, by kernel_rfl, m.data, n.data, dp_data h2 h3, dp_data g2 g3, shaped_ok okm, shaped_ok okn, ?_⟩
        rw [eqv_d okm okn]
        exact kk H s
    | q _ => rw [hw] at hq; cases hq
    | i _ => subst hw; cases r; exact no (.int _) rfl
    | b _ => subst hw; cases r; exact no (.bl _) rfl
    | n => subst hw; cases r; exact no .non rfl
    | s _ => subst hw; cases r; exact no (.str _) rfl
    | l _ => subst hw; cases r with | l h _ => exact no (.lst h) rfl
    | t _ => subst hw; cases r with | t h _ => exact no (.tup h) rfl
end
local macro_rules | `(tactic| kt_at_get) => `(tactic| with_reducible first
  | (apply g_fldText; (focus (assumption)); (focus (tb_rel)); (focus (assumption)); (focus (assumption)))
  | (apply g_fldParts; (focus (assumption)); (focus (tb_rel)); (focus (assumption)); (focus (assumption)); intro _ _)
  | (apply g_meth0; (focus (assumption)); (focus (tb_rel)); (focus (decide +kernel)); (focus (decide +kernel)); intro _ _; try dsimp only)
  | (apply g_methT; (focus (assumption)); (focus (tb_rel)); (focus (decide +kernel)); (focus (decide +kernel)); intro _ _ _; try dsimp only)
  | ((show MethW _ _ _ _ _ _ _ _ _ _); apply g_methN; (focus (assumption)); (focus (tb_rel)); (focus (decide +kernel)); (focus (decide +kernel)))
  | (apply g_strOwn; (focus (assumption)); (focus (tb_rel)); (focus (exact ⟨_, rfl⟩)); intro _ _; try dsimp only)
  | (apply g_reprOwn; (focus (assumption)); (focus (tb_rel)); (focus (exact ⟨_, rfl⟩)); intro _ _; try dsimp only)
  | (apply g_lenOwn; (focus (assumption)); (focus (tb_rel)); (focus (exact rfl)); (focus (kcf_m)); intro _ _; try dsimp only)
  | ((show rEqD _ _ _ _ _); apply g_eqRow; (focus (assumption)); (focus (tb_rel)); (focus (tb_rel)); (focus (assumption)); (focus (assumption)))
  | ((show rNeD _ _ _ _ _); apply g_neRow; (focus (assumption)); (focus (tb_rel)); (focus (tb_rel)); (focus (assumption)); (focus (assumption)))
  | (apply g_eqW; (focus (assumption)); (focus (tb_rel)); (focus (first | (apply KnM.k; kt_at_in) | (apply KnM.c; tb_rel))); (focus (with_unfolding_all exact rfl)); intro _ _; try simp only [eqMW, MK.row, kE_self])
  | (apply g_neW; (focus (assumption)); (focus (tb_rel)); (focus (first | (apply KnM.k; kt_at_in) | (apply KnM.c; tb_rel))); (focus (with_unfolding_all exact rfl)); intro _ _; try simp only [eqMW, MK.row, kE_self]))
section
variable {P : Program} {w : World} {K : PySem.W.Frag} {mg : Str → Option Value} {base : Heap} {Z : Adr} {C : Addr}
theorem ok_Mark_letters (T : Txt K mg Z) : FnOk P w K mg base CX0 1 Z.a_Mark_letters Z.d_Mark_letters ["self"] (spGet K Z.C_Mark (fun m => .str m.lt)) := by
  refine T.F_Mark_letters.ok sc_Mark_letters (fun vs H Q E h => ?_) (fun cdv A outer s H vs Q E hr h => ?_)
  · obtain ⟨_, _, _, _, rfl, _⟩ := h; rfl
  · obtain ⟨x, m, Φ, mt, rfl, hx, s, kk⟩ := h
    refine ⟨_, (pss_one (ps_ret (pe_ix (ixT K) (fldK K (pv 0) rfl) pe_int (fun _ _ => rfl)))), ?_⟩
    have hc := T.cl_Mark
    have hn1 := T.na_Mark_parts
    have hn2 := T.na_Mark_text
    kxt_pos
    kopn_word
    exact kk _ (by kt_ors)
theorem ok_Mark_number (T : Txt K mg Z) : FnOk P w K mg base CX0 1 Z.a_Mark_number Z.d_Mark_number ["self"] (spGet K Z.C_Mark (fun m => .int m.num)) := by
  refine T.F_Mark_number.ok sc_Mark_number (fun vs H Q E h => ?_) (fun cdv A outer s H vs Q E hr h => ?_)
  · obtain ⟨_, _, _, _, rfl, _⟩ := h; rfl
  · obtain ⟨x, m, Φ, mt, rfl, hx, s, kk⟩ := h
    refine ⟨_, (pss_one (ps_ret (pe_ix (ixT K) (fldK K (pv 0) rfl) pe_int (fun _ _ => rfl)))), ?_⟩
    have hc := T.cl_Mark
    have hn1 := T.na_Mark_parts
    have hn2 := T.na_Mark_text
    kxt_pos
    kopn_word
    exact kk _ (by kt_ors)
theorem ok_Mark_points (T : Txt K mg Z) : FnOk P w K mg base CX0 1 Z.a_Mark_points Z.d_Mark_points ["self"] (spGet K Z.C_Mark (fun m => .str m.pts)) := by
  refine T.F_Mark_points.ok sc_Mark_points (fun vs H Q E h => ?_) (fun cdv A outer s H vs Q E hr h => ?_)
  · obtain ⟨_, _, _, _, rfl, _⟩ := h; rfl
  · obtain ⟨x, m, Φ, mt, rfl, hx, s, kk⟩ := h
    refine ⟨_, (pss_one (ps_ret (pe_ix (ixT K) (fldK K (pv 0) rfl) pe_int (fun _ _ => rfl)))), ?_⟩
    have hc := T.cl_Mark
    have hn1 := T.na_Mark_parts
    have hn2 := T.na_Mark_text
    kxt_pos
    kopn_word
    exact kk _ (by kt_ors)
theorem ok_Mark_makers (T : Txt K mg Z) : FnOk P w K mg base CX0 1 Z.a_Mark_makers Z.d_Mark_makers ["self"] (spGetT K Z.C_Mark (fun m => m.mks.map W.s)) := by
  refine T.F_Mark_makers.ok sc_Mark_makers (fun vs H Q E h => ?_) (fun cdv A outer s H vs Q E hr h => ?_)
  · obtain ⟨_, _, _, _, rfl, _⟩ := h; rfl
  · obtain ⟨x, m, Φ, mt, rfl, hx, s, kk⟩ := h
    refine ⟨_, (pss_one (ps_ret (pe_ix (ixT K) (fldK K (pv 0) rfl) pe_int (fun _ _ => rfl)))), ?_⟩
    have hc := T.cl_Mark
    have hn1 := T.na_Mark_parts
    have hn2 := T.na_Mark_text
    kxt_pos
    kopn_word
    exact kk _ _ (by kt_ors)
theorem ok_Mark_year (T : Txt K mg Z) : FnOk P w K mg base CX0 1 Z.a_Mark_year Z.d_Mark_year ["self"] (spGet K Z.C_Mark (fun m => oi m.yr)) := by
  refine T.F_Mark_year.ok sc_Mark_year (fun vs H Q E h => ?_) (fun cdv A outer s H vs Q E hr h => ?_)
  · obtain ⟨_, _, _, _, rfl, _⟩ := h; rfl
  · obtain ⟨x, m, Φ, mt, rfl, hx, s, kk⟩ := h
    refine ⟨_, (pss_one (ps_ret (pe_ix (ixT K) (fldK K (pv 0) rfl) pe_int (fun _ _ => rfl)))), ?_⟩
    have hc := T.cl_Mark
    have hn1 := T.na_Mark_parts
    have hn2 := T.na_Mark_text
    kxt_pos
    kopn_word
    exact kk _ (by kt_ors)
theorem ok_Mark_parts (T : Txt K mg Z) : FnOk P w K mg base CX0 1 Z.a_Mark_parts Z.d_Mark_parts ["self"] (spGetT K Z.C_Mark (fun m => [.s m.lt, .i m.num, .s m.pts, .t (m.mks.map W.s), W.o m.yr, W.o m.cp])) := by
  refine T.F_Mark_parts.ok sc_Mark_parts (fun vs H Q E h => ?_) (fun cdv A outer s H vs Q E hr h => ?_)
  · obtain ⟨_, _, _, _, rfl, _⟩ := h; rfl
  · obtain ⟨x, m, Φ, mt, rfl, hx, s, kk⟩ := h
    refine ⟨_, (pss_one (ps_ret (fldK K (pv 0) rfl))), ?_⟩
    have hc := T.cl_Mark
    have hn1 := T.na_Mark_parts
    have hn2 := T.na_Mark_text
    kxt_pos
    kopn_word
    exact kk _ _ (by kt_ors)
theorem ok_Mark_str (T : Txt K mg Z) : FnOk P w K mg base CX0 1 Z.a_Mark_str Z.d_Mark_str ["self"] (spGet K Z.C_Mark (fun m => .str m.text)) := by
  refine T.F_Mark_str.ok sc_Mark_str (fun vs H Q E h => ?_) (fun cdv A outer s H vs Q E hr h => ?_)
  · obtain ⟨_, _, _, _, rfl, _⟩ := h; rfl
  · obtain ⟨x, m, Φ, mt, rfl, hx, s, kk⟩ := h
    refine ⟨_, (pss_one (ps_ret (pe_callTy (call_strS) (by rfl) T.n_str (by decide +kernel) (pa_cons (fldK K (pv 0) rfl) pa_nil)))), ?_⟩
    have hc := T.cl_Mark
    have hn1 := T.na_Mark_parts
    have hn2 := T.na_Mark_text
    have hz : m.text.length ≤ 50000 := text_len (s.mark hx).2
    kxt_pos
    kopn_word
    exact kk _ (by kt_ors)
theorem ok_Mark_repr (T : Txt K mg Z) : FnOk P w K mg base CX0 1 Z.a_Mark_repr Z.d_Mark_repr ["self"] (spGet K Z.C_Mark (fun m => .str (("<" : Str) ++ m.text ++ (">" : Str)))) := by
  refine T.F_Mark_repr.ok sc_Mark_repr (fun vs H Q E h => ?_) (fun cdv A outer s H vs Q E hr h => ?_)
  · obtain ⟨_, _, _, _, rfl, _⟩ := h; rfl
  · obtain ⟨x, m, Φ, mt, rfl, hx, s, kk⟩ := h
    refine ⟨_, (pss_one (ps_ret (pe_joinedq (.cons pe_str (.cons (pe_fmt (fldK K (pv 0) rfl)) (.cons pe_str .nil)))))), ?_⟩
    have hc := T.cl_Mark
    have hn1 := T.na_Mark_parts
    have hn2 := T.na_Mark_text
    have hz : m.text.length ≤ 50000 := text_len (s.mark hx).2
    kxt_pos
    kopn_word
    exact kk _ (by kt_ors)
theorem ok_Mark_len (T : Txt K mg Z) : FnOk P w K mg base CX0 1 Z.a_Mark_len Z.d_Mark_len ["self"] (spGet K Z.C_Mark (fun m => .int (m.text.length : Int))) := by
  refine T.F_Mark_len.ok sc_Mark_len (fun vs H Q E h => ?_) (fun cdv A outer s H vs Q E hr h => ?_)
  · obtain ⟨_, _, _, _, rfl, _⟩ := h; rfl
  · obtain ⟨x, m, Φ, mt, rfl, hx, s, kk⟩ := h
    refine ⟨_, (pss_one (ps_ret (pe_callB (call_lenS) (by rfl) T.n_len (by decide +kernel) (pa_cons (fldK K (pv 0) rfl) pa_nil)))), ?_⟩
    have hc := T.cl_Mark
    have hn1 := T.na_Mark_parts
    have hn2 := T.na_Mark_text
    have hz : m.text.length ≤ 50000 := text_len (s.mark hx).2
    kxt_pos
    kopn_word
    exact kk _ (by kt_ors)
end

/-! ### which mark is ahead, keys -/
def spAheadS (K : PySem.W.Frag) (C : Addr) : Sp := fun vs H Q E => ∃ x y m n Φ mt, vs = [.ref x, .ref y] ∧ (.ref x, .m m) ∈ Φ ∧ (.ref y, .m n) ∈ Φ ∧ S K C H Φ mt ∧ ∀ H', S K C H' Φ mt → Q (.bl (PySem.W.dataLt m.kdata n.kdata)) H'
abbrev MK.krow (m : MK) : W := .t [.s m.lt, .i m.num, .s m.pts, .t (m.mks.map W.s), .i (m.yr.getD 0), .i (m.cp.getD 0)]
def spKeyS (K : PySem.W.Frag) (C : Addr) : Sp := fun vs H Q _ => ∃ x m Φ mt, vs = [.ref x] ∧ (.ref x, .m m) ∈ Φ ∧ S K C H Φ mt ∧ ∀ p H', S K C H' ((.ref p, m.krow) :: Φ) mt → Q (.ref p) H'
section
variable {K : PySem.W.Frag} {C : Addr} {σ : L2.St} {H : Hp} {Φ : List (V × W)} {mt : List (Addr × (HO → Prop))} {Q : VK} {a b : Addr} {E : XK} {m n : MK} {x y : V} {ta tb : TE}
theorem use_ahe (s : S K C H Φ mt) (h : (.ref a, .m m) ∈ Φ) (h2 : (.ref b, .m n) ∈ Φ) (q : ∀ H', S K C H' Φ mt → Q (.bl (PySem.W.dataLt m.kdata n.kdata)) H') : spAheadS K C [.ref a, .ref b] H Q E := ⟨a, b, m, n, Φ, mt, rfl, h, h2, s, q⟩
theorem use_key (s : S K C H Φ mt) (h : (.ref a, .m m) ∈ Φ) (q : ∀ p H', S K C H' ((.ref p, m.krow) :: Φ) mt → Q (.ref p) H') : spKeyS K C [.ref a] H Q E := ⟨a, m, Φ, mt, rfl, h, s, q⟩
def OrW (K : PySem.W.Frag) (tb : TE) (σ : L2.St) (Q : VK) (x : V) (H2 : Hp) : Prop := ∃ b, TruV K x H2 b ∧ if b = true then Q x H2 else tb σ H2 Q
theorem g_orT (h : ta σ H fun x H2 => OrW K tb σ Q x H2) : tOrT K ta tb σ H Q := h
instance : St1 (tOrT K ta tb σ H Q) (ta σ H fun x H2 => OrW K tb σ Q x H2) := ⟨g_orT⟩
/-- a number or none, or 0 -/
theorem g_orO {o : Option Int} (h : ∀ i, o = some i → i ≠ 0) (k : Q (.int (o.getD 0)) H) : OrW K (tC (.int 0)) σ Q (oi o) H := by
  cases o with
  | none => exact ⟨false, rfl, k⟩
  | some i => exact ⟨true, by show true = (i != 0); have := h i rfl; simp [this], k⟩
theorem kshaped_ok {m : MK} (ok : m.Ok) : SeqAt.shaped m.kdata = true := by
  unfold SeqAt.shaped
  rw [Bool.and_eq_true]
  refine ⟨?_, decide_eq_true ?_⟩
  · unfold MK.kdata
    have h1 := strOk_of (letters_in ok.l) abc_ok
    have h2 := points_str ok.p
    have h3 := lay_strs m.mks fun s hs => maker_str (ok.ks s hs).1
    simp only [PyData.canLay0, PyData.canLayAll0, h1, h2, h3, Bool.true_and]
  · exact Nat.le_trans (kdepth m) (by decide)
theorem rep_krow {H : Hp} (m : MK) {p : Addr} (r : Rep K C H (.ref p) m.krow) : Dp K H (.ref p) m.kdata := by
  have := rep_dp r (by unfold MK.krow; simp only [W.plain, W.plains, plains_strs, Bool.and_self])
  unfold MK.krow at this
  unfold MK.kdata
  simpa only [W.data, W.datas, datas_strs] using this
theorem g_ltK (s : S K C H Φ mt) (h : (.ref a, m.krow) ∈ Φ) (h2 : (.ref b, n.krow) ∈ Φ) (k : Q (.bl (PySem.W.dataLt m.kdata n.kdata)) H) : rLtD K (.ref a) (.ref b) H Q :=
  ⟨m.kdata, n.kdata, rep_krow m (s.rep (.f h)), rep_krow n (s.rep (.f h2)), kalike m n, (fun z => by unfold MK.kdata at z; cases z), kdepth m, k⟩
theorem g_eqK (s : S K C H Φ mt) (h : (.ref a, m.krow) ∈ Φ) (h2 : (.ref b, n.krow) ∈ Φ) (okm : m.Ok) (okn : n.Ok) (k : Q (.bl (kE m n)) H) : rEqD K (.ref a) (.ref b) H Q :=
  ⟨m.kdata, n.kdata, rep_krow m (s.rep (.f h)), rep_krow n (s.rep (.f h2)), kshaped_ok okm, kshaped_ok okn, by rw [eqv_k]; exact k⟩
theorem g_neK (s : S K C H Φ mt) (h : (.ref a, m.krow) ∈ Φ) (h2 : (.ref b, n.krow) ∈ Φ) (okm : m.Ok) (okn : n.Ok) (k : Q (.bl (!kE m n)) H) : rNeD K (.ref a) (.ref b) H Q :=
  ⟨m.kdata, n.kdata, rep_krow m (s.rep (.f h)), rep_krow n (s.rep (.f h2)), kshaped_ok okm, kshaped_ok okn, by rw [eqv_k]; exact k⟩
/-- isinstance of a tuple, a list, with a kind -/
theorem g_isiT {T : String} {r : Bool} {ws : List W} (s : S K C H Φ mt) (h : (.ref a, .t ws) ∈ Φ) (e : PySem.W.kitOne K (.type "tuple") (.type T) = some r) (k : Q (.bl r) H) : rIsi K [.ref a, .ty T] H Q := by
  cases s.rep (.f h) with
  | t hq _ => exact ⟨_, _, _, _, r, rfl, .ty _, .base (.tup hq), e, k⟩
end
local macro_rules | `(tactic| kt_at_get) => `(tactic| with_reducible first
  | refine st_go ?_
  | ((show OrW _ _ _ _ _ _); apply g_orO; (focus (assumption)))
  | ((show rLtD _ _ _ _ _); apply g_ltK; (focus (assumption)); (focus (tb_rel)); (focus (tb_rel)))
  | ((show rEqD _ _ _ _ _); apply g_eqK; (focus (assumption)); (focus (tb_rel)); (focus (tb_rel)); (focus (assumption)); (focus (assumption)))
  | ((show rNeD _ _ _ _ _); apply g_neK; (focus (assumption)); (focus (tb_rel)); (focus (tb_rel)); (focus (assumption)); (focus (assumption)))
  | ((show rIsi _ _ _ _); apply g_isiT; (focus (assumption)); (focus (tb_rel)); (focus (exact kit_ty (r := true) (by decide +kernel)))))
section
variable {P : Program} {w : World} {K : PySem.W.Frag} {mg : Str → Option Value} {base : Heap} {Z : Adr} {C : Addr}
theorem ok_Mark_key (T : Txt K mg Z) : FnOk P w K mg base CX0 1 Z.a_Mark_key Z.d_Mark_key ["self"] (spKeyS K Z.C_Mark) := by
  refine T.F_Mark_key.ok sc_Mark_key (fun vs H Q E h => ?_) (fun cdv A outer s H vs Q E hr h => ?_)
  · obtain ⟨_, _, _, _, rfl, _⟩ := h; rfl
  · obtain ⟨x, m, Φ, mt, rfl, hx, s, kk⟩ := h
    refine ⟨_, (pss_cons (ps_asg (fldK K (pv 0) rfl) (pg_tup rfl (pgs_cons (pg_name (i := 1) sc_Mark_key.nd rfl (.inl rfl)) (pgs_cons (pg_name (i := 2) sc_Mark_key.nd rfl (.inl rfl)) (pgs_cons (pg_name (i := 3) sc_Mark_key.nd rfl (.inl rfl)) (pgs_cons (pg_name (i := 4) sc_Mark_key.nd rfl (.inl rfl)) (pgs_cons (pg_name (i := 5) sc_Mark_key.nd rfl (.inl rfl)) (pgs_cons (pg_name (i := 6) sc_Mark_key.nd rfl (.inl rfl)) pgs_nil))))))))
      (pss_one (ps_ret (pe_tup (pa_cons (pv 1) (pa_cons (pv 2) (pa_cons (pv 3) (pa_cons (pv 4) (pa_cons (pe_orT (pv 5) (pe_one pe_int)) (pa_cons (pe_orT (pv 6) (pe_one pe_int)) pa_nil)))))))))), ?_⟩
    have hc := T.cl_Mark
    have hn1 := T.na_Mark_parts
    have hn2 := T.na_Mark_text
    have ok := (s.mark hx).2
    have hy : ∀ i, m.yr = some i → i ≠ 0 := fun i h => by have := ok.y i h; omega
    have hcp : ∀ i, m.cp = some i → i ≠ 0 := fun i h => by have := (ok.c i h).1; omega
    kxt_pos
    kopn_word
    exact kk _ _ (by kt_ors)
end
local macro_rules | `(tactic| kt_len) => `(tactic| with_reducible first
  | (apply use_key; (focus (assumption)); (focus (tb_rel)); intro _ _ _))
section
variable {P : Program} {w : World} {K : PySem.W.Frag} {mg : Str → Option Value} {base : Heap} {Z : Adr} {C : Addr}
theorem ok_Mark_ahead (T : Txt K mg Z) : FnOk P w K mg base CX0 2 Z.a_Mark_ahead Z.d_Mark_ahead ["self", "other"] (spAheadS K Z.C_Mark) := by
  refine T.F_Mark_ahead.ok sc_Mark_ahead (fun vs H Q E h => ?_) (fun cdv A outer s H vs Q E hr h => ?_)
  · obtain ⟨_, _, _, _, _, _, rfl, _⟩ := h; rfl
  · obtain ⟨x, y, m, n, Φ, mt, rfl, hx, hy, s, kk⟩ := h
    refine ⟨_, (pss_one (ps_ret (pe_cmpR (op_ltD K hr.units) (pe_meth0 (pv 0) T.cl_Mark T.m_Mark_key (ok_Mark_key T) (hr.mono (by decide)) T.b_Mark_key .nil pass0) (pe_meth0 (pv 1) T.cl_Mark T.m_Mark_key (ok_Mark_key T) (hr.mono (by decide)) T.b_Mark_key .nil pass0) (nomark _)))), ?_⟩
    kxt_pos
    kopn_word
    exact kk _ (by kt_ors)
end

/-! ### draws of the pool -/
def spTakeS (K : PySem.W.Frag) (C : Addr) : Sp := fun vs H Q _ => ∃ (b : Addr) (k : Int) (Φ : List (V × W)) (mt : List (Addr × (HO → Prop))), vs = [.ref b, .int k] ∧ 0 < k ∧ k < 1606938044258990275541962092341162602522202993782792835301376 ∧ (b, IsBox) ∈ mt ∧ S K C H Φ mt ∧ ∀ (r : Int) H', 0 ≤ r → r < k → S K C H' Φ mt → Q (.int r) H'
def spPoolS (K : PySem.W.Frag) (C : Addr) : Sp := fun vs H Q _ => ∃ (c : Int) (Φ : List (V × W)) (mt : List (Addr × (HO → Prop))), vs = [.int c] ∧ S K C H Φ mt ∧ ∀ p H', S K C H' Φ ((p, IsBox) :: mt) → Q (.ref p) H'
section
variable {K : PySem.W.Frag} {C : Addr} {σ : L2.St} {H : Hp} {Φ : List (V × W)} {mt : List (Addr × (HO → Prop))} {Q : VK} {b : Addr} {k : Int} {E : XK}
theorem use_take (s : S K C H Φ mt) (hb : (b, IsBox) ∈ mt) (h0 : 0 < k) (h1 : k < 1606938044258990275541962092341162602522202993782792835301376) (q : ∀ (r : Int) H', 0 ≤ r → r < k → S K C H' Φ mt → Q (.int r) H') : spTakeS K C [.ref b, .int k] H Q E := ⟨b, k, Φ, mt, rfl, h0, h1, hb, s, q⟩
theorem use_pool {c : Int} (s : S K C H Φ mt) (q : ∀ p H', S K C H' Φ ((p, IsBox) :: mt) → Q (.ref p) H') : spPoolS K C [.int c] H Q E := ⟨c, Φ, mt, rfl, s, q⟩
end
section
variable {P : Program} {w : World} {K : PySem.W.Frag} {mg : Str → Option Value} {base : Heap} {Z : Adr} {C : Addr}
theorem ok_l_take (T : Txt K mg Z) : FnOk P w K mg base CX0 1 Z.a_l_take Z.d_l_take ["_law_pool_here", "_law_size"] (spTakeS K Z.C_Mark) := by
  refine T.F_l_take.ok sc_l_take (fun vs H Q E h => ?_) (fun cdv A outer s H vs Q E hr h => ?_)
  · obtain ⟨_, _, _, _, rfl, _⟩ := h; rfl
  · obtain ⟨b, k, Φ, mt, rfl, h0, hl, hb, s, kk⟩ := h
    refine ⟨_, (pss_cons (ps_set (i := 2) sc_l_take.nd rfl (.inl rfl) (pe_op op_modN (pe_ix (ixL K) (pv 0) pe_int (fun _ _ => rfl)) (pv 1)))
      (pss_cons (ps_asg (pe_op op_fdivW (pe_ix (ixL K) (pv 0) pe_int (fun _ _ => rfl)) (pv 1)) (pg_sub (pv 0) pe_int set_list))
      (pss_one (ps_ret (pv 2))))), ?_⟩
    obtain ⟨nt, s, back⟩ := s.front hb
    obtain ⟨_, ⟨a, rfl⟩, s⟩ := s.sharp
    have hk : k.natAbs.log2 < 9000 := log_small (by omega) hl
    have hk0 : k ≠ 0 := by omega
    kxt_pos
    kopn_word
    rename_i H2 s2
    exact kk _ _ (Int.fmod_nonneg_of_pos _ h0) (Int.fmod_lt_of_pos _ h0) (back _ _ (s2.blur ⟨_, rfl⟩))
theorem ok_l_pool (T : Txt K mg Z) : FnOk P w K mg base CX0 1 Z.a_l_pool Z.d_l_pool ["_law_cell"] (spPoolS K Z.C_Mark) := by
  refine T.F_l_pool.ok sc_l_pool (fun vs H Q E h => ?_) (fun cdv A outer s H vs Q E hr h => ?_)
  · obtain ⟨_, _, _, rfl, _⟩ := h; rfl
  · obtain ⟨c, Φ, mt, rfl, s, kk⟩ := h
    refine ⟨_, (pss_cons (ps_if (pt_cmpR op_ge (pv 0) (pe_op op_pow pe_int pe_int) (nomark _)) (pss_one (ps_ret (peM (pe_lst (pa_cons (pv 0) pa_nil))))) pss_nil)
      (pss_cons (ps_set (i := 1) sc_l_pool.nd rfl (.inl rfl) pe_int)
      (pss_cons (ps_for PassesOwn.never rfl (pi_range1 rfl T.n_range (pa_cons pe_int pa_nil)) (pg_name (i := 2) sc_l_pool.nd rfl (.inl rfl)) (pss_cons (ps_set (i := 3) sc_l_pool.nd rfl (.inl rfl) (pe_op op_mod (pe_op op_pow (pe_op op_add (pe_op op_add (pe_op op_mul (pe_op op_mod (pv 0) pe_int) pe_int) (pe_op op_mul pe_int (pv 2))) pe_int) pe_int) pe_int))
      (pss_one (ps_set (i := 1) sc_l_pool.nd rfl (.inl rfl) (pe_op op_add (pe_op op_mul (pv 1) pe_int) (pe_op op_mod (pe_op op_pow (pe_op op_add (pe_op op_mul (pv 3) pe_int) (pv 2)) pe_int) pe_int))))))
      (pss_one (ps_ret (peM (pe_lst (pa_cons (pv 1) pa_nil)))))))), ?_⟩
    kxt_pos
    kopn_word
    · rename_i p H1 s1
      exact kk _ _ (s1.blur ⟨_, rfl⟩)
    · refine g_forR (fun i σ' H' => ∃ (x : Int) (v2 v3 : Option V), σ' = [some (.int c), some (.int x), v2, v3] ∧ S K Z.C_Mark H' Φ mt) ⟨_, _, _, rfl, by assumption⟩ (fun i σ' H' hi g => ?_) (fun σ' H' g => ?_)
      · obtain ⟨x, v2, v3, rfl, s1⟩ := g
        have hi : i < 9 := hi
        kopn_word
        exact ⟨_, _, _, rfl, by kt_ors⟩
      · obtain ⟨x, v2, v3, rfl, s1⟩ := g
        kopn_word
        rename_i p H1 s2
        exact kk _ _ (s2.blur ⟨_, rfl⟩)
end
def spFigP (K : PySem.W.Frag) (C : Addr) : Sp := fun vs H Q _ => ∃ (b : Addr) (k : Int) (Φ : List (V × W)) (mt : List (Addr × (HO → Prop))), vs = [.ref b, .int k] ∧ 0 < k ∧ k ≤ 1000 ∧ (b, IsBox) ∈ mt ∧ S K C H Φ mt ∧ ∀ (t : Str) H', endedOk t = true → (t.length : Int) ≤ k → S K C H' Φ mt → Q (.str t) H'
def spMakP (K : PySem.W.Frag) (C : Addr) : Sp := fun vs H Q _ => ∃ (b : Addr) (k : Int) (Φ : List (V × W)) (mt : List (Addr × (HO → Prop))), vs = [.ref b, .int k] ∧ 0 < k ∧ k ≤ 1000 ∧ (b, IsBox) ∈ mt ∧ S K C H Φ mt ∧ ∀ (t : Str) H', makerOk t = true → (t.length : Int) ≤ k + 1 → S K C H' Φ mt → Q (.str t) H'
section
variable {K : PySem.W.Frag} {C : Addr} {σ : L2.St} {H : Hp} {Φ : List (V × W)} {mt : List (Addr × (HO → Prop))} {Q : VK} {b : Addr} {k : Int} {E : XK}
theorem use_figP (s : S K C H Φ mt) (hb : (b, IsBox) ∈ mt) (h0 : 0 < k) (h1 : k ≤ 1000) (q : ∀ (t : Str) H', endedOk t = true → (t.length : Int) ≤ k → S K C H' Φ mt → Q (.str t) H') : spFigP K C [.ref b, .int k] H Q E := ⟨b, k, Φ, mt, rfl, h0, h1, hb, s, q⟩
theorem use_makP (s : S K C H Φ mt) (hb : (b, IsBox) ∈ mt) (h0 : 0 < k) (h1 : k ≤ 1000) (q : ∀ (t : Str) H', makerOk t = true → (t.length : Int) ≤ k + 1 → S K C H' Φ mt → Q (.str t) H') : spMakP K C [.ref b, .int k] H Q E := ⟨b, k, Φ, mt, rfl, h0, h1, hb, s, q⟩
end
local macro_rules | `(tactic| kt_len) => `(tactic| with_reducible first
  | (apply use_take; (focus (assumption)); (focus (tb_rel)); (focus (kcf_m)); (focus (kcf_m)); intro _ _ _ _ _)
  | (apply use_figP; (focus (assumption)); (focus (tb_rel)); (focus (kcf_m)); (focus (kcf_m)); intro _ _ _ _ _))
section
variable {P : Program} {w : World} {K : PySem.W.Frag} {mg : Str → Option Value} {base : Heap} {Z : Adr} {C : Addr}
theorem ok_l_figures (T : Txt K mg Z) : FnOk P w K mg base CX0 2 Z.a_l_figures Z.d_l_figures ["_law_pool_here", "_law_most"] (spFigP K Z.C_Mark) := by
  refine T.F_l_figures.ok sc_l_figures (fun vs H Q E h => ?_) (fun cdv A outer s H vs Q E hr h => ?_)
  · obtain ⟨_, _, _, _, rfl, _⟩ := h; rfl
  · obtain ⟨b, k, Φ, mt, rfl, h0, hl, hb, s, kk⟩ := h
    refine ⟨_, (pss_cons (ps_set (i := 2) sc_l_figures.nd rfl (.inl rfl) pe_str)
      (pss_cons (ps_for PassesOwn.never rfl (pi_range1 rfl T.n_range (pa_cons (pe_call (ok_l_take T) (hr.mono (by decide)) rfl T.g_l_take T.F_l_take.kp T.b_l_take .nil pass0 (pa_cons (pv 0) (pa_cons (pv 1) pa_nil))) pa_nil)) (pg_name (i := 3) sc_l_figures.nd rfl (.inl rfl)) (pss_one (ps_set (i := 2) sc_l_figures.nd rfl (.inl rfl) (pe_op op_addS (pv 2) (pe_ix ix_str pe_str (pe_call (ok_l_take T) (hr.mono (by decide)) rfl T.g_l_take T.F_l_take.kp T.b_l_take .nil pass0 (pa_cons (pv 0) (pa_cons pe_int pa_nil))) (fun _ _ => rfl))))))
      (pss_one (ps_ret (pe_op op_addS (pv 2) (pe_ix ix_str pe_str (pe_call (ok_l_take T) (hr.mono (by decide)) rfl T.g_l_take T.F_l_take.kp T.b_l_take .nil pass0 (pa_cons (pv 0) (pa_cons pe_int pa_nil))) (fun _ _ => rfl))))))), ?_⟩
    kxt_pos
    kopn_word
    rename_i r H1 r0 r1 s1
    refine g_forR (fun i σ' H' => ∃ (t : Str) (v : Option V), σ' = [some (.ref b), some (.int k), some (.str t), v] ∧ FigS t ∧ t.length = i ∧ S K Z.C_Mark H' Φ mt) ⟨_, _, rfl, fig_nil, by decide +kernel, s1⟩ (fun i σ' H' hi g => ?_) (fun σ' H' g => ?_)
    · obtain ⟨t, v, rfl, hf, ht, s2⟩ := g
      have hi : i < 1000 := by omega
      kopn_word
      rename_i c hc hcm
      exact ⟨_, _, rfl, fig_app hf (fig_one hcm), by rw [len_app, len_one, ht], by kt_ors⟩
    · obtain ⟨t, v, rfl, hf, ht, s2⟩ := g
      have hz : t.length ≤ 1000 := by omega
      kopn_word
      rename_i c hc hcm
      exact kk _ _ (fig_endOk hf (fig_of9 hcm).1 (fig_of9 hcm).2) (by rw [len_app, len_one, ht]; omega) (by kt_ors)
theorem ok_l_maker (T : Txt K mg Z) : FnOk P w K mg base CX0 3 Z.a_l_maker Z.d_l_maker ["_law_pool_here", "_law_most"] (spMakP K Z.C_Mark) := by
  refine T.F_l_maker.ok sc_l_maker (fun vs H Q E h => ?_) (fun cdv A outer s H vs Q E hr h => ?_)
  · obtain ⟨_, _, _, _, rfl, _⟩ := h; rfl
  · obtain ⟨b, k, Φ, mt, rfl, h0, hl, hb, s, kk⟩ := h
    refine ⟨_, (pss_cons (ps_set (i := 2) sc_l_maker.nd rfl (.inl rfl) (pe_ix ix_str pe_str (pe_call (ok_l_take T) (hr.mono (by decide)) rfl T.g_l_take T.F_l_take.kp T.b_l_take .nil pass0 (pa_cons (pv 0) (pa_cons pe_int pa_nil))) (fun _ _ => rfl)))
      (pss_cons (ps_if (pt_cmpR op_eq (pe_call (ok_l_take T) (hr.mono (by decide)) rfl T.g_l_take T.F_l_take.kp T.b_l_take .nil pass0 (pa_cons (pv 0) (pa_cons pe_int pa_nil))) pe_int (nomark _)) (pss_one (ps_set (i := 2) sc_l_maker.nd rfl (.inl rfl) (pe_ix ix_str pe_str (pe_call (ok_l_take T) (hr.mono (by decide)) rfl T.g_l_take T.F_l_take.kp T.b_l_take .nil pass0 (pa_cons (pv 0) (pa_cons pe_int pa_nil))) (fun _ _ => rfl)))) pss_nil)
      (pss_one (ps_ret (pe_op op_addS (pv 2) (pe_call (ok_l_figures T) (hr.mono (by decide)) rfl T.g_l_figures T.F_l_figures.kp T.b_l_figures .nil pass0 (pa_cons (pv 0) (pa_cons (pv 1) pa_nil)))))))), ?_⟩
    have abcd : ∀ c ∈ sg (Str.ofString "abcd"), c ∈ sg sABC := by decide +kernel
    kxt_pos
    kopn_word
    · exact kk _ _ (maker_ok (abcd _ (by assumption)) (by assumption)) (by rw [len_app, len_one]; omega) (by kt_ors)
    · exact kk _ _ (maker_ok (by assumption) (by assumption)) (by rw [len_app, len_one]; omega) (by kt_ors)
end

def MK.Small (m : MK) : Prop := m.pts.length ≤ 50 ∧ ∀ s ∈ m.mks, s.length ≤ 50
/-! ### the pool's parts -/
def spParS (K : PySem.W.Frag) (C : Addr) : Sp := fun vs H Q _ => ∃ (b : Addr) (Φ : List (V × W)) (mt : List (Addr × (HO → Prop))), vs = [.ref b] ∧ (b, IsBox) ∈ mt ∧ S K C H Φ mt ∧ ∀ p ma (m : MK) H', m.Ok → m.Small → S K C H' ((.ref ma, .l (m.mks.map W.s)) :: Φ) ((p, Eq (.lst [.str m.lt, .int m.num, .str m.pts, .ref ma, oi m.yr, oi m.cp])) :: mt) → Q (.ref p) H'
section
variable {K : PySem.W.Frag} {C : Addr} {σ : L2.St} {H : Hp} {Φ : List (V × W)} {mt : List (Addr × (HO → Prop))} {Q : VK} {b : Addr} {E : XK}
theorem S.fixRow {p ma : Addr} {lt pts : Str} {num : Int} {yr cp : Option Int} {ks : List Str} (s : S K C H ((.ref ma, .l (ks.map W.s)) :: Φ) ((p, Eq (.lst [.str lt, .int num, .str pts, .ref ma, oi yr, oi cp])) :: mt)) : S K C H ((.ref p, MK.row ⟨lt, num, pts, ks, yr, cp⟩) :: Φ) mt :=
  (s.fixL .hd (.cons (.s _) (.cons (.i _) (.cons (.s _) (.cons (.f List.mem_cons_self) (.cons (.o _) (.cons (.o _) .nil))))))).to (fun z hz => by
    rcases List.mem_cons.mp hz with rfl | hz
    · exact List.mem_cons_self
    · exact List.mem_cons_of_mem _ (List.mem_cons_of_mem _ hz)) (List.Sublist.refl _)
theorem use_par (s : S K C H Φ mt) (hb : (b, IsBox) ∈ mt) (q : ∀ p (m : MK) H', m.Ok → m.Small → S K C H' ((.ref p, m.row) :: Φ) mt → Q (.ref p) H') : spParS K C [.ref b] H Q E := ⟨b, Φ, mt, rfl, hb, s, fun p _ m H' ok sm s' => q p m H' ok sm s'.fixRow⟩
theorem use_parM (s : S K C H Φ mt) (hb : (b, IsBox) ∈ mt) (q : ∀ p ma (m : MK) H', m.Ok → m.Small → S K C H' ((.ref ma, .l (m.mks.map W.s)) :: Φ) ((p, Eq (.lst [.str m.lt, .int m.num, .str m.pts, .ref ma, oi m.yr, oi m.cp])) :: mt) → Q (.ref p) H') : spParS K C [.ref b] H Q E := ⟨b, Φ, mt, rfl, hb, s, q⟩
end
local macro_rules | `(tactic| kt_len) => `(tactic| with_reducible first
  | (apply use_take; (focus (assumption)); (focus (tb_rel)); (focus (kcf_m)); (focus (kcf_m)); intro _ _ _ _ _)
  | (apply use_figP; (focus (assumption)); (focus (tb_rel)); (focus (kcf_m)); (focus (kcf_m)); intro _ _ _ _ _)
  | (apply use_makP; (focus (assumption)); (focus (tb_rel)); (focus (kcf_m)); (focus (kcf_m)); intro _ _ _ _ _))
section
variable {P : Program} {w : World} {K : PySem.W.Frag} {mg : Str → Option Value} {base : Heap} {Z : Adr} {C : Addr}
theorem ok_l_parts (T : Txt K mg Z) : FnOk P w K mg base CX0 4 Z.a_l_parts Z.d_l_parts ["_law_pool_here"] (spParS K Z.C_Mark) := by
  refine T.F_l_parts.ok sc_l_parts (fun vs H Q E h => ?_) (fun cdv A outer s H vs Q E hr h => ?_)
  · obtain ⟨_, _, _, rfl, _⟩ := h; rfl
  · obtain ⟨b, Φ, mt, rfl, hb, s, kk⟩ := h
    refine ⟨_, (pss_cons (ps_set (i := 1) sc_l_parts.nd rfl (.inl rfl) (pe_ix (ixL K) (pe_lst (pa_cons pe_int (pa_cons pe_int (pa_cons pe_int (pa_cons pe_int (pa_cons pe_int (pa_cons pe_int (pa_cons pe_int (pa_cons pe_int pa_nil))))))))) (pe_call (ok_l_take T) (hr.mono (by decide)) rfl T.g_l_take T.F_l_take.kp T.b_l_take .nil pass0 (pa_cons (pv 0) (pa_cons pe_int pa_nil))) (fun _ _ => rfl)))
      (pss_cons (ps_set (i := 2) sc_l_parts.nd rfl (.inl rfl) pe_str)
      (pss_cons (ps_for PassesOwn.never rfl (pi_range1 rfl T.n_range (pa_cons (pe_op op_add pe_int (pe_call (ok_l_take T) (hr.mono (by decide)) rfl T.g_l_take T.F_l_take.kp T.b_l_take .nil pass0 (pa_cons (pv 0) (pa_cons pe_int pa_nil)))) pa_nil)) (pg_name (i := 3) sc_l_parts.nd rfl (.inl rfl)) (pss_one (ps_set (i := 2) sc_l_parts.nd rfl (.inl rfl) (pe_op op_addS (pv 2) (pe_ix ix_str pe_str (pe_call (ok_l_take T) (hr.mono (by decide)) rfl T.g_l_take T.F_l_take.kp T.b_l_take .nil pass0 (pa_cons (pv 0) (pa_cons pe_int pa_nil))) (fun _ _ => rfl))))))
      (pss_cons (ps_set (i := 4) sc_l_parts.nd rfl (.inl rfl) (pe_op op_add pe_int (pe_call (ok_l_take T) (hr.mono (by decide)) rfl T.g_l_take T.F_l_take.kp T.b_l_take .nil pass0 (pa_cons (pv 0) (pa_cons (pe_ix (ixL K) (pe_lst (pa_cons pe_int (pa_cons pe_int (pa_cons pe_int (pa_cons pe_int pa_nil))))) (pe_call (ok_l_take T) (hr.mono (by decide)) rfl T.g_l_take T.F_l_take.kp T.b_l_take .nil pass0 (pa_cons (pv 0) (pa_cons pe_int pa_nil))) (fun _ _ => rfl)) pa_nil)))))
      (pss_cons (ps_set (i := 5) sc_l_parts.nd rfl (.inl rfl) pe_str)
      (pss_cut (ps_if (pt_cmpR op_eq (pe_call (ok_l_take T) (hr.mono (by decide)) rfl T.g_l_take T.F_l_take.kp T.b_l_take .nil pass0 (pa_cons (pv 0) (pa_cons pe_int pa_nil))) pe_int (nomark _)) (pss_one (ps_set (i := 5) sc_l_parts.nd rfl (.inl rfl) (pe_call (ok_l_figures T) (hr.mono (by decide)) rfl T.g_l_figures T.F_l_figures.kp T.b_l_figures .nil pass0 (pa_cons (pv 0) (pa_cons (pv 1) pa_nil))))) pss_nil)
      (pss_cons (ps_set (i := 6) sc_l_parts.nd rfl (.inl rfl) (peM (pe_lst pa_nil)))
      (pss_cons (ps_for PassesOwn.never rfl (pi_range1 rfl T.n_range (pa_cons (pe_call (ok_l_take T) (hr.mono (by decide)) rfl T.g_l_take T.F_l_take.kp T.b_l_take .nil pass0 (pa_cons (pv 0) (pa_cons pe_int pa_nil))) pa_nil)) (pg_name (i := 3) sc_l_parts.nd rfl (.inl rfl)) (pss_one (ps_expr (bmK K PySem.F.plainAttrs_list PySem.F.slot_list_append PySem.F.type_list_append mt_append (pv 6) (pa_cons (pe_call (ok_l_maker T) (hr.mono (by decide)) rfl T.g_l_maker T.F_l_maker.kp T.b_l_maker .nil pass0 (pa_cons (pv 0) (pa_cons (pv 1) pa_nil))) pa_nil)))))
      (pss_cons (ps_set (i := 7) sc_l_parts.nd rfl (.inl rfl) pe_non)
      (pss_cut (ps_if (pt_cmpR op_eq (pe_call (ok_l_take T) (hr.mono (by decide)) rfl T.g_l_take T.F_l_take.kp T.b_l_take .nil pass0 (pa_cons (pv 0) (pa_cons pe_int pa_nil))) pe_int (nomark _)) (pss_one (ps_set (i := 7) sc_l_parts.nd rfl (.inl rfl) (pe_op op_add pe_int (pe_call (ok_l_take T) (hr.mono (by decide)) rfl T.g_l_take T.F_l_take.kp T.b_l_take .nil pass0 (pa_cons (pv 0) (pa_cons pe_int pa_nil)))))) pss_nil)
      (pss_cons (ps_set (i := 8) sc_l_parts.nd rfl (.inl rfl) pe_non)
      (pss_cut (ps_if (pt_cmpR op_eq (pe_call (ok_l_take T) (hr.mono (by decide)) rfl T.g_l_take T.F_l_take.kp T.b_l_take .nil pass0 (pa_cons (pv 0) (pa_cons pe_int pa_nil))) pe_int (nomark _)) (pss_one (ps_set (i := 8) sc_l_parts.nd rfl (.inl rfl) (pe_op op_add pe_int (pe_call (ok_l_take T) (hr.mono (by decide)) rfl T.g_l_take T.F_l_take.kp T.b_l_take .nil pass0 (pa_cons (pv 0) (pa_cons (pe_ix (ixL K) (pe_lst (pa_cons pe_int (pa_cons pe_int (pa_cons pe_int (pa_cons (pe_op op_pow pe_int pe_int) pa_nil))))) (pe_call (ok_l_take T) (hr.mono (by decide)) rfl T.g_l_take T.F_l_take.kp T.b_l_take .nil pass0 (pa_cons (pv 0) (pa_cons pe_int pa_nil))) (fun _ _ => rfl)) pa_nil)))))) pss_nil)
      (pss_one (ps_ret (peM (pe_lst (pa_cons (pv 2) (pa_cons (pv 4) (pa_cons (pv 5) (pa_cons (pv 6) (pa_cons (pv 7) (pa_cons (pv 8) pa_nil)))))))))))))))))))))), ?_⟩
    kxt_pos
    kopn_word
    rename_i p0 H0 sp0 r0 H1 r00 r01 s1 most hmost r2 H2 r20 r21 s2
    have hm : 2 ≤ most ∧ most ≤ 40 := by omega
    have s3 : S K Z.C_Mark H2 Φ mt := by kt_ors
    clear s1 s2 sp0 s hmost
    refine g_forR (fun i σ' H' => ∃ (t : Str) (v : Option V), σ' = [some (.ref b), some (.int most), some (.str t), v, none, none, none, none, none] ∧ (∀ d ∈ sg t, d ∈ sg sABC) ∧ t.length = i ∧ S K Z.C_Mark H' Φ mt) ⟨_, _, rfl, (fun d hd => by rw [show sg (Str.ofString "") = [] by decide +kernel] at hd; cases hd), by decide +kernel, s3⟩ (fun i σ' H' hi g => ?_) (fun σ' H' g => ?_)
    · obtain ⟨t, v, rfl, hf, ht, s4⟩ := g
      have hi : i < 10 := by omega
      kopn_word
      rename_i c hc hcm
      refine ⟨_, _, rfl, fun d hd => ?_, by rw [len_app, len_one, ht], by kt_ors⟩
      rw [sg_app] at hd
      rcases List.mem_append.mp hd with h | h
      · exact hf d h
      · have : d = c := by simpa [sg] using h
        rw [this]; exact hcm
    · obtain ⟨lt, v, rfl, hf, hl, s4⟩ := g
      have hlt : lettersOk lt 3 = true := by
        unfold lettersOk
        rw [decide_eq_true (by omega), decide_eq_true (by omega), allIn_iff.mpr hf]
        rfl
      kopn_word
      rename_i p1 H3 s5 r3 H4 r30 r31 s6 x hx r4 H5 r40 r41 s7
      have hnum : 1 ≤ 1 + r4 ∧ 1 + r4 ≤ 9999 := by omega
      generalize 1 + r4 = num at hnum ⊢
      have s8 : S K Z.C_Mark H5 Φ mt := by kt_ors
      clear s5 s6 s7 s4 hx
      refine ⟨fun σ' H' => ∃ t : Str, σ' = [some (.ref b), some (.int most), some (.str lt), v, some (.int num), some (.str t), none, none, none] ∧ pointsOk t = true ∧ t.length ≤ 50 ∧ S K Z.C_Mark H' Φ mt, ?_, ?_⟩
      · kopn_word
        · refine ⟨_, rfl, ?_, by omega, by kt_ors⟩
          unfold pointsOk
          rw [show endedOk _ = true by assumption, Bool.or_true]
        · exact ⟨_, rfl, by decide +kernel, by decide +kernel, by kt_ors⟩
      rintro σ6 H6 ⟨pts, rfl, hp0, hpl, s9⟩
      kopn_word
      rename_i ha H7 s10 r5 H8 r50 r51 s11
      refine g_forR (fun i σ' H' => ∃ (ks : List Str) (v : Option V), σ' = [some (.ref b), some (.int most), some (.str lt), v, some (.int num), some (.str pts), some (.ref ha), none, none] ∧ ks.length = i ∧ (∀ s ∈ ks, makerOk s = true ∧ s.length ≤ 50) ∧ S K Z.C_Mark H' Φ ((ha, Eq (.lst (ks.map V.str))) :: mt)) ⟨[], _, rfl, rfl, (fun s hs => by cases hs), s11⟩ (fun i σ' H' hi g => ?_) (fun σ' H' g => ?_)
      · obtain ⟨ks, v, rfl, hkl, hks, s12⟩ := g
        have hi : i < 10 := by omega
        kopn_word
        rename_i t H9 h1 h2 s13 H10 s14
        refine ⟨ks ++ [t], _, rfl, by rw [List.length_append, hkl]; rfl, fun s hs => ?_, s14⟩
        rcases List.mem_append.mp hs with h | h
        · exact hks s h
        · rw [List.mem_singleton.mp h]; exact ⟨h1, by omega⟩
      · obtain ⟨ks, v, rfl, hkl, hks, s12⟩ := g
        have hk3 : ks.length ≤ 3 := by omega
        kopn_word
        refine ⟨fun σ' H' => ∃ yr : Option Int, σ' = [some (.ref b), some (.int most), some (.str lt), v, some (.int num), some (.str pts), some (.ref ha), some (oi yr), none] ∧ (∀ i, yr = some i → 1000 ≤ i ∧ i ≤ 2999) ∧ S K Z.C_Mark H' Φ ((ha, Eq (.lst (ks.map V.str))) :: mt), ?_, ?_⟩
        · kopn_word
          · rename_i r6 H9 r60 r61 s13
            exact ⟨some (1000 + r6), rfl, (fun i h => by cases h; omega), by kt_ors⟩
          · exact ⟨none, rfl, (fun i h => nomatch h), by kt_ors⟩
        rintro σ7 H9 ⟨yr, rfl, hyr, s13⟩
        kopn_word
        refine ⟨fun σ' H' => ∃ cp : Option Int, σ' = [some (.ref b), some (.int most), some (.str lt), v, some (.int num), some (.str pts), some (.ref ha), some (oi yr), some (oi cp)] ∧ (∀ i, cp = some i → 2 ≤ i ∧ i < 1000000000000000000000000000000) ∧ S K Z.C_Mark H' Φ ((ha, Eq (.lst (ks.map V.str))) :: mt), ?_, ?_⟩
        · kopn_word
          · rename_i r7 H11 r70 r71 s15 _ p9 H12 s16 r9 H13 r90 r91 s17 x hx
            rw [show (10 : Int) ^ Int.toNat 29 = 100000000000000000000000000000 by decide] at hx
            refine use_take s17 (by tb_rel) (by omega) (by omega) fun r8 H14 r80 r81 s18 => ?_
            kopn_word
            exact ⟨some (2 + r8), rfl, (fun i h => by cases h; omega), by kt_ors⟩
          · exact ⟨none, rfl, (fun i h => nomatch h), by kt_ors⟩
        rintro σ8 H10 ⟨cp, rfl, hcp, s14⟩
        kopn_word
        rename_i p H11 s15
        refine kk p ha ⟨lt, num, pts, ks, yr, cp⟩ H11 ⟨hlt, hnum, hp0, show pts.length ≤ 1000 by omega, hk3, fun s h => ⟨(hks s h).1, by have := (hks s h).2; omega⟩, hyr, fun i h => ⟨(hcp i h).1, by have := hcp i h; exact log_s (by omega) (by omega)⟩⟩ ⟨hpl, fun s h => (hks s h).2⟩ ?_
        exact s15.fixL (.tl .hd) (.is ks V.str W.s fun x _ => .s x)
end

/-! ### a mark near another one -/
class LenLe (t : Str) (n : outParam Nat) : Prop where
  h : t.length ≤ n
theorem cut_le (t : Str) (lo hi : Option Int) : (cutS t lo hi).length ≤ t.length := by
  rw [← sg_len]
  show (List.toArray _).toList.length ≤ _
  have hl : t.cps.toList.length = t.length := Array.length_toList
  have h1 : ∀ (l : List Nat) (i j : Nat), ((l.drop i).take j).length ≤ l.length := fun l i j => by rw [List.length_take, List.length_drop]; omega
  have := h1 t.cps.toList (HT.sIx t.length 0 lo) (HT.sIx t.length t.length hi - HT.sIx t.length 0 lo)
  rw [hl] at this
  exact this
instance {t : Str} {n : Nat} {lo hi : Option Int} [q : LenLe t n] : LenLe (cutS t lo hi) n := ⟨Nat.le_trans (cut_le t lo hi) q.h⟩
instance {a b : Str} {n m : Nat} [p : LenLe a n] [q : LenLe b m] : LenLe (a ++ b) (n + m) := ⟨by rw [len_app]; have := p.h; have := q.h; omega⟩
instance {c : Nat} : LenLe (⟨#[c]⟩ : Str) 1 := ⟨Nat.le_refl 1⟩
local macro_rules | `(tactic| kcf_m) => `(tactic| first | (apply Nat.le_trans (Nat.add_le_add LenLe.h LenLe.h); decide) | (apply Nat.le_trans LenLe.h; decide))

theorem fig_cutS {w : Str} (h : FigS w) (lo hi : Option Int) : FigS (cutS w lo hi) := fun c hc => h c (by
  have : ∀ (l : List Nat) (i j : Nat), c ∈ (l.drop i).take j → c ∈ l := fun l i j h => List.mem_of_mem_drop (List.mem_of_mem_take h)
  exact this _ _ _ (show c ∈ (List.toArray _).toList from hc))
theorem cut_leN (t : Str) (lo hi : Option Int) : (cutS t lo hi).length ≤ t.length := by
  rw [← sg_len]
  show (List.toArray _).toList.length ≤ _
  have hl : t.cps.toList.length = t.length := Array.length_toList
  have h1 : ∀ (l : List Nat) (i j : Nat), ((l.drop i).take j).length ≤ l.length := fun l i j => by rw [List.length_take, List.length_drop]; omega
  have := h1 t.cps.toList (HT.sIx t.length 0 lo) (HT.sIx t.length t.length hi - HT.sIx t.length 0 lo)
  rw [hl] at this
  exact this
def spNwP (K : PySem.W.Frag) (C : Addr) : Sp := fun vs H Q _ => ∃ (t : Str) (b : Addr) (Φ : List (V × W)) (mt : List (Addr × (HO → Prop))), vs = [.str t, .ref b] ∧ FigS t ∧ t.length ≤ 50 ∧ (b, IsBox) ∈ mt ∧ S K C H Φ mt ∧ ∀ (u : Str) H', pointsOk u = true → u.length ≤ max t.length 40 → S K C H' Φ mt → Q (.str u) H'
def spNyP (K : PySem.W.Frag) (C : Addr) : Sp := fun vs H Q _ => ∃ (y : Option Int) (b : Addr) (Φ : List (V × W)) (mt : List (Addr × (HO → Prop))), vs = [oi y, .ref b] ∧ (∀ i, y = some i → 1000 ≤ i ∧ i ≤ 2999) ∧ (b, IsBox) ∈ mt ∧ S K C H Φ mt ∧ ∀ (z : Option Int) H', (∀ i, z = some i → 1000 ≤ i ∧ i ≤ 2999) → S K C H' Φ mt → Q (oi z) H'
def spNcP (K : PySem.W.Frag) (C : Addr) : Sp := fun vs H Q _ => ∃ (y : Option Int) (b : Addr) (Φ : List (V × W)) (mt : List (Addr × (HO → Prop))), vs = [oi y, .ref b] ∧ (∀ i, y = some i → 2 ≤ i ∧ i.natAbs.log2 < 1920) ∧ (b, IsBox) ∈ mt ∧ S K C H Φ mt ∧ ∀ (z : Option Int) H', (∀ i, z = some i → 2 ≤ i ∧ i.natAbs.log2 < 1920) → S K C H' Φ mt → Q (oi z) H'
section
variable {K : PySem.W.Frag} {C : Addr} {σ : L2.St} {H : Hp} {Φ : List (V × W)} {mt : List (Addr × (HO → Prop))} {Q : VK} {b : Addr} {E : XK} {t : Str} {y : Option Int}
theorem use_nw (s : S K C H Φ mt) (hb : (b, IsBox) ∈ mt) (hf : FigS t) (hz : t.length ≤ 50) (q : ∀ (u : Str) H', pointsOk u = true → u.length ≤ max t.length 40 → S K C H' Φ mt → Q (.str u) H') : spNwP K C [.str t, .ref b] H Q E := ⟨t, b, Φ, mt, rfl, hf, hz, hb, s, q⟩
end
local macro_rules | `(tactic| kt_len) => `(tactic| with_reducible first
  | (apply use_take; (focus (assumption)); (focus (tb_rel)); (focus (kcf_m)); (focus (kcf_m)); intro _ _ _ _ _))
section
variable {P : Program} {w : World} {K : PySem.W.Frag} {mg : Str → Option Value} {base : Heap} {Z : Adr} {C : Addr}
theorem ok_l_near_word (T : Txt K mg Z) : FnOk P w K mg base CX0 2 Z.a_l_near_word Z.d_l_near_word ["_law_word", "_law_pool_here"] (spNwP K Z.C_Mark) := by
  refine T.F_l_near_word.ok sc_l_near_word (fun vs H Q E h => ?_) (fun cdv A outer s H vs Q E hr h => ?_)
  · obtain ⟨_, _, _, _, rfl, _⟩ := h; rfl
  · obtain ⟨t, b, Φ, mt, rfl, hf, hz, hb, s, kk⟩ := h
    refine ⟨_, (pss_cons (ps_set (i := 2) sc_l_near_word.nd rfl (.inl rfl) (pe_call (ok_l_take T) (hr.mono (by decide)) rfl T.g_l_take T.F_l_take.kp T.b_l_take .nil pass0 (pa_cons (pv 1) (pa_cons pe_int pa_nil))))
      (pss_cons (ps_set (i := 3) sc_l_near_word.nd rfl (.inl rfl) (pe_slice sl_str (pv 0) po_none (po_some (pe_call (ok_l_take T) (hr.mono (by decide)) rfl T.g_l_take T.F_l_take.kp T.b_l_take .nil pass0 (pa_cons (pv 1) (pa_cons (pe_op op_add (pe_callB (call_lenS) (by rfl) T.n_len (by decide +kernel) (pa_cons (pv 0) pa_nil)) pe_int) pa_nil))))))
      (pss_cons (ps_if (PW.pt (pw_and (pt_cmpR op_eq (pv 2) pe_int (nomark _)) (pw_and1 (pt_cmpR op_lt (pe_callB (call_lenS) (by rfl) T.n_len (by decide +kernel) (pa_cons (pv 3) pa_nil)) pe_int (nomark _))))) (pss_one (ps_set (i := 3) sc_l_near_word.nd rfl (.inl rfl) (pe_op op_addS (pv 3) (pe_ix ix_str pe_str (pe_call (ok_l_take T) (hr.mono (by decide)) rfl T.g_l_take T.F_l_take.kp T.b_l_take .nil pass0 (pa_cons (pv 1) (pa_cons pe_int pa_nil))) (fun _ _ => rfl))))) pss_nil)
      (pss_one (ps_ret (bmK K PySem.F.plainAttrs_str PySem.F.slot_str_rstrip PySem.F.type_str_rstrip mt_rstripChars (pv 3) (pa_cons pe_str pa_nil))))))), ?_⟩
    have hcl : ∀ lo hi, (cutS t lo hi).length ≤ 50 := fun lo hi => Nat.le_trans (cut_leN _ _ _) hz
    have hcf : ∀ lo hi, FigS (cutS t lo hi) := fun lo hi => fig_cutS hf lo hi
    have i0 : LenLe t 50 := ⟨hz⟩
    kxt_pos
    kopn_word
    · rename_i r1 H1 _ _ s1 r2 H2 _ _ s2 _ hlt r3 H3 _ _ s3 c hc hcm
      have hz2 : (cutS t none (some r2) ++ one c).length ≤ 40 := by rw [len_app, len_one]; omega
      obtain ⟨g1, g2⟩ := strip_ok (fig_app (hcf none (some r2)) (fig_one hcm))
      refine ⟨rfl, ?_⟩
      kopn_word
      refine ⟨_, _, rfl, rfl, sz_of (by omega), ?_⟩
      exact kk _ _ g1 (Nat.le_trans (Nat.le_trans g2 hz2) (Nat.le_max_right _ _)) (by kt_ors)
    all_goals
      refine ⟨rfl, ?_⟩
      kopn_word
      refine ⟨_, _, rfl, rfl, sz_of (Nat.le_trans (hcl _ _) (by decide)), ?_⟩
      exact kk _ _ (strip_ok (hcf _ _)).1 (Nat.le_trans (Nat.le_trans (strip_ok (hcf _ _)).2 (cut_leN _ _ _)) (Nat.le_max_left _ _)) (by kt_ors)
theorem ok_l_near_year (T : Txt K mg Z) : FnOk P w K mg base CX0 2 Z.a_l_near_year Z.d_l_near_year ["_law_age", "_law_pool_here"] (spNyP K Z.C_Mark) := by
  refine T.F_l_near_year.ok sc_l_near_year (fun vs H Q E h => ?_) (fun cdv A outer s H vs Q E hr h => ?_)
  · obtain ⟨_, _, _, _, rfl, _⟩ := h; rfl
  · obtain ⟨y, b, Φ, mt, rfl, hy, hb, s, kk⟩ := h
    refine ⟨_, (pss_cons (ps_set (i := 2) sc_l_near_year.nd rfl (.inl rfl) (pe_call (ok_l_take T) (hr.mono (by decide)) rfl T.g_l_take T.F_l_take.kp T.b_l_take .nil pass0 (pa_cons (pv 1) (pa_cons pe_int pa_nil))))
      (pss_cons (ps_if (pt_cmpR op_eq (pv 2) pe_int (nomark _)) (pss_one (ps_ret pe_non)) pss_nil)
      (pss_cons (ps_if (PW.pt (pw_or (pt_cmpR op_eq (pv 2) pe_int (nomark _)) (pw_or1 (pt_cmpR op_isNq (pv 0) pe_non (nomark _))))) (pss_one (ps_ret (pe_op op_add pe_int (pe_call (ok_l_take T) (hr.mono (by decide)) rfl T.g_l_take T.F_l_take.kp T.b_l_take .nil pass0 (pa_cons (pv 1) (pa_cons pe_int pa_nil)))))) pss_nil)
      (pss_one (ps_ret (pe_op op_add (pe_op op_mul (pe_op op_fdiv (pv 0) pe_int) pe_int) (pe_call (ok_l_take T) (hr.mono (by decide)) rfl T.g_l_take T.F_l_take.kp T.b_l_take .nil pass0 (pa_cons (pv 1) (pa_cons pe_int pa_nil))))))))), ?_⟩
    kxt_pos
    cases y with
    | none =>
      show tSeq _ _ _ [some .non, some (.ref b), none] H
      kopn_word
      all_goals first
        | (refine kk none _ (fun i h => nomatch h) (by kt_ors); done)
        | exact kk (some _) _ (fun i h => by cases h; omega) (by kt_ors)
    | some i =>
      have hi := hy i rfl
      show tSeq _ _ _ [some (.int i), some (.ref b), none] H
      kopn_word
      all_goals first
        | (refine kk none _ (fun i h => nomatch h) (by kt_ors); done)
        | exact kk (some _) _ (fun i h => by cases h; omega) (by kt_ors)
theorem cut_toP (t : Str) {i : Int} (h0 : 0 ≤ i) : ((cutS t none (some i)).length : Int) ≤ i := by
  obtain ⟨j, rfl⟩ : ∃ j : Nat, i = (j : Int) := ⟨i.toNat, by omega⟩
  have := len_cut t j
  omega
/-- a number of some figures of a text and one more -/
theorem cut_num {t : Str} (hf : FigS t) {r : Int} {c : Nat} (hr : 0 ≤ r ∧ r < 29) (hc : c ∈ sg sFIG) : ∃ v : Nat, PySem.intText? (cutS t none (some (1 + r)) ++ one c) = some (v : Int) ∧ (cutS t none (some (1 + r)) ++ one c).length ≤ 640 ∧ v < 10 ^ 31 := by
  have h1 := cut_toP t (i := 1 + r) (by omega)
  have hf2 := fig_app (fig_cutS hf none (some (1 + r))) (fig_one hc)
  have hl : (cutS t none (some (1 + r)) ++ one c).length ≤ 31 := by rw [len_app, len_one]; omega
  have hv := digitsVal_lt _ _ rfl (fun x hx => fig_dig.mp (hf2 x hx))
  refine ⟨_, intText_fig hf2 (by rw [sg_app]; simp) (Nat.le_trans hl (by decide)), Nat.le_trans hl (by decide), Nat.lt_of_lt_of_le hv (Nat.pow_le_pow_right (by decide) (by rw [sg_len]; exact hl))⟩
theorem max_ok {v : Nat} (h : v < 10 ^ 31) : 2 ≤ (if (v : Int) > 2 then (v : Int) else 2) ∧ (if (v : Int) > 2 then (v : Int) else 2).natAbs.log2 < 1920 := by
  have h1 : (if (v : Int) > 2 then (v : Int) else 2).natAbs < 2 ^ 110 := by split <;> omega
  exact ⟨by split <;> omega, Nat.lt_of_lt_of_le (PySem.Flt.log2_lt_of (by decide) h1) (by decide)⟩
theorem ok_l_near_copy (T : Txt K mg Z) : FnOk P w K mg base CX0 2 Z.a_l_near_copy Z.d_l_near_copy ["_law_twin", "_law_pool_here"] (spNcP K Z.C_Mark) := by
  refine T.F_l_near_copy.ok sc_l_near_copy (fun vs H Q E h => ?_) (fun cdv A outer s H vs Q E hr h => ?_)
  · obtain ⟨_, _, _, _, rfl, _⟩ := h; rfl
  · obtain ⟨y, b, Φ, mt, rfl, hy, hb, s, kk⟩ := h
    refine ⟨_, (pss_cons (ps_if (pt_cmpR op_eq (pe_call (ok_l_take T) (hr.mono (by decide)) rfl T.g_l_take T.F_l_take.kp T.b_l_take .nil pass0 (pa_cons (pv 1) (pa_cons pe_int pa_nil))) pe_int (nomark _)) (pss_one (ps_ret pe_non)) pss_nil)
      (pss_cons (ps_set (i := 2) sc_l_near_copy.nd rfl (.inl rfl) (pe_callTy (call_strI) (by rfl) T.n_str (by decide +kernel) (pa_cons (pe_ifExp (pt_cmpR op_isNq (pv 0) pe_non (nomark _)) pe_int (pv 0)) pa_nil)))
      (pss_one (ps_ret (pe_callB (call_maxq rfl) (by rfl) T.n_max (by decide +kernel) (pa_cons pe_int (pa_cons (pe_callTy (call_intS) (by rfl) T.n_int (by decide +kernel) (pa_cons (pe_op op_addS (pe_slice sl_str (pv 2) po_none (po_some (pe_op op_add pe_int (pe_call (ok_l_take T) (hr.mono (by decide)) rfl T.g_l_take T.F_l_take.kp T.b_l_take .nil pass0 (pa_cons (pv 1) (pa_cons pe_int pa_nil)))))) (pe_ix ix_str pe_str (pe_call (ok_l_take T) (hr.mono (by decide)) rfl T.g_l_take T.F_l_take.kp T.b_l_take .nil pass0 (pa_cons (pv 1) (pa_cons pe_int pa_nil))) (fun _ _ => rfl))) pa_nil)) pa_nil))))))), ?_⟩
    kxt_pos
    cases y with
    | none =>
      show tSeq _ _ _ [some .non, some (.ref b), none] H
      kopn_word
      · exact kk none _ (fun i h => nomatch h) (by kt_ors)
      · rename_i hs r1 H1 hr0 hr1 s1 r3 H3 _ _ s3 c hc hcm
        obtain ⟨v, e1, e2, e3⟩ := cut_num (t := Str.ofString (toString (2 : Int))) (num_fig (by omega)) ⟨hr0, hr1⟩ hcm
        have e4 := e2
        rw [len_app] at e4
        refine ⟨_, _, rfl, rfl, sz_of (by omega), ?_⟩
        kopn_word
        refine ⟨_, v, rfl, e1, e2, ?_⟩
        kopn_word
        exact kk (some _) _ (fun i h => by cases h; exact max_ok e3) (by kt_ors)
    | some i =>
      obtain ⟨hi, hl⟩ := hy i rfl
      show tSeq _ _ _ [some (.int i), some (.ref b), none] H
      kopn_word
      · exact kk none _ (fun i h => nomatch h) (by kt_ors)
      · rename_i hs r1 H1 hr0 hr1 s1 r3 H3 _ _ s3 c hc hcm
        obtain ⟨v, e1, e2, e3⟩ := cut_num (t := Str.ofString (toString (i : Int))) (num_fig (by omega)) ⟨hr0, hr1⟩ hcm
        have e4 := e2
        rw [len_app] at e4
        refine ⟨_, _, rfl, rfl, sz_of (by omega), ?_⟩
        kopn_word
        refine ⟨_, v, rfl, e1, e2, ?_⟩
        kopn_word
        exact kk (some _) _ (fun i h => by cases h; exact max_ok e3) (by kt_ors)
end
def KsOk (ks : List Str) : Prop := ks.length ≤ 3 ∧ ∀ s ∈ ks, makerOk s = true ∧ s.length ≤ 50
def spNmP (K : PySem.W.Frag) (C : Addr) : Sp := fun vs H Q _ => ∃ (a b : Addr) (ks : List Str) (Φ : List (V × W)) (mt : List (Addr × (HO → Prop))), vs = [.ref a, .ref b] ∧ (.ref a, .l (ks.map W.s)) ∈ Φ ∧ KsOk ks ∧ (b, IsBox) ∈ mt ∧ S K C H Φ mt ∧ ∀ p js H', KsOk js → S K C H' ((.ref p, .l (js.map W.s)) :: Φ) mt → Q (.ref p) H'
def OrP (K : PySem.W.Frag) (tb : TE) (σ : L2.St) (Q : VK) (x : V) (H2 : Hp) : Prop := ∃ b, TruV K x H2 b ∧ if b = true then Q x H2 else tb σ H2 Q
instance {K : PySem.W.Frag} {σ : L2.St} {H : Hp} {Q : VK} {ta tb : TE} : St1 (tOrT K ta tb σ H Q) (ta σ H fun x H1 => OrP K tb σ Q x H1) := ⟨fun h => h⟩
theorem g_orS {K : PySem.W.Frag} {σ : L2.St} {H : Hp} {Q : VK} {x y : Str} (hz : x.length ≤ 100000) (h1 : x.length = 0 → Q (.str y) H) (h2 : 0 < x.length → Q (.str x) H) : OrP K (tC (.str y)) σ Q (.str x) H := by
  by_cases h : x.length = 0
  · exact ⟨false, ⟨sz_of hz, by rw [h]; rfl⟩, h1 h⟩
  · exact ⟨true, ⟨sz_of hz, by simp; exact fun z => h z⟩, h2 (by omega)⟩
local macro_rules | `(tactic| kt_len) => `(tactic| with_reducible first
  | (apply use_take; (focus (assumption)); (focus (tb_rel)); (focus (kcf_m)); (focus (kcf_m)); intro _ _ _ _ _)
  | (apply use_nw; (focus (assumption)); (focus (tb_rel)); (focus (assumption)); (focus (assumption)); intro _ _ _ _ _)
  | (apply use_makP; (focus (assumption)); (focus (tb_rel)); (focus (kcf_m)); (focus (kcf_m)); intro _ _ _ _ _))
section
variable {P : Program} {w : World} {K : PySem.W.Frag} {mg : Str → Option Value} {base : Heap} {Z : Adr} {C : Addr}
theorem ok_l_near_makers (T : Txt K mg Z) : FnOk P w K mg base CX0 4 Z.a_l_near_makers Z.d_l_near_makers ["_law_hands", "_law_pool_here"] (spNmP K Z.C_Mark) := by
  refine T.F_l_near_makers.ok sc_l_near_makers (fun vs H Q E h => ?_) (fun cdv A outer s H vs Q E hr h => ?_)
  · obtain ⟨_, _, _, _, _, rfl, _⟩ := h; rfl
  · obtain ⟨a, b, ks, Φ, mt, rfl, ha, hk, hb, s, kk⟩ := h
    refine ⟨_, (pss_cons (ps_set (i := 2) sc_l_near_makers.nd rfl (.inl rfl) (pe_call (ok_l_take T) (hr.mono (by decide)) rfl T.g_l_take T.F_l_take.kp T.b_l_take .nil pass0 (pa_cons (pv 1) (pa_cons pe_int pa_nil))))
      (pss_cons (ps_set (i := 3) sc_l_near_makers.nd rfl (.inl rfl) (pe_slice (slL K) (pv 0) po_none (po_some (pe_call (ok_l_take T) (hr.mono (by decide)) rfl T.g_l_take T.F_l_take.kp T.b_l_take .nil pass0 (pa_cons (pv 1) (pa_cons pe_int pa_nil))))))
      (pss_cons (ps_if (pt_cmpR op_eq (pv 2) pe_int (nomark _)) (pss_one (ps_ret (pv 3))) pss_nil)
      (pss_cons (ps_if (pt_cmpR op_lt (pe_callB (lenQ K) (by rfl) T.n_len (by decide +kernel) (pa_cons (pv 3) pa_nil)) (pe_callB (lenQ K) (by rfl) T.n_len (by decide +kernel) (pa_cons (pv 0) pa_nil)) (nomark _)) (pss_cons (ps_set (i := 4) sc_l_near_makers.nd rfl (.inl rfl) (pe_ix (ixL K) (pv 0) (pe_callB (lenQ K) (by rfl) T.n_len (by decide +kernel) (pa_cons (pv 3) pa_nil)) (fun _ _ => rfl)))
      (pss_one (ps_ret (pe_op op_cat (pv 3) (pe_lst (pa_cons (pe_op op_addS (pe_ix ix_str (pv 4) pe_int (fun _ _ => rfl)) (pe_orT (pe_call (ok_l_near_word T) (hr.mono (by decide)) rfl T.g_l_near_word T.F_l_near_word.kp T.b_l_near_word .nil pass0 (pa_cons (pe_slice sl_str (pv 4) (po_some pe_int) po_none) (pa_cons (pv 1) pa_nil))) (pe_one pe_str))) pa_nil)))))) pss_nil)
      (pss_cons (ps_if (pt_cmpR op_lt (pe_callB (lenQ K) (by rfl) T.n_len (by decide +kernel) (pa_cons (pv 3) pa_nil)) pe_int (nomark _)) (pss_one (ps_ret (pe_op op_cat (pv 3) (pe_lst (pa_cons (pe_call (ok_l_maker T) (hr.mono (by decide)) rfl T.g_l_maker T.F_l_maker.kp T.b_l_maker .nil pass0 (pa_cons (pv 1) (pa_cons pe_int pa_nil))) pa_nil))))) pss_nil)
      (pss_one (ps_ret (pv 3)))))))), ?_⟩
    have hk1 := hk.1
    kxt_pos
    kopn_word
    rename_i way H1 w0 w1 s1 r H2 r0 r1 s2
    obtain ⟨n, rfl⟩ : ∃ n : Nat, r = (n : Int) := ⟨r.toNat, by omega⟩
    have hkt : KsOk (ks.take n) := ⟨by rw [List.length_take]; omega, fun s hs => hk.2 s (List.mem_of_mem_take hs)⟩
    have hkl : (ks.take n).length = min n ks.length := List.length_take
    kopn_word
    · exact kk _ (ks.take n) _ hkt (by kt_ors)
    · rename_i p3 H3 s3 _ hlt
      rw [List.length_map] at hlt ⊢
      rw [List.length_map] at hlt
      refine g_ixLS s3 (by tb_rel) (by omega) (by omega) fun y _ hy => ?_
      obtain ⟨hy1, hy2⟩ := hk.2 y hy
      obtain ⟨g1, c, g2, g3⟩ := maker_tail hy1
      have i0 : LenLe y 50 := ⟨hy2⟩
      have hy0 : 0 < y.length := by rw [← sg_len]; exact (List.getElem?_eq_some_iff.mp g2).1
      have hyf : FigS (cutS y (some 1) none) := ended_fig g1
      have hyl : (cutS y (some 1) none).length ≤ 49 := by
        rw [← sg_len, sg_cutFrom1, List.length_drop, sg_len]; omega
      have hyl5 : (cutS y (some 1) none).length ≤ 50 := by omega
      kopn_word
      rename_i c' hc' hcm u H5 hu1 hu2 s5
      have hcc : c' = c := by
        have := atI_nat g2
        have e : atI (sg y) ((0 : Nat) : Int) = some c' := hc'
        rw [this] at e
        exact (Option.some.inj e).symm
      subst hcc
      have fin : ∀ (x : Str) H', endedOk x = true → x.length ≤ 49 → S K Z.C_Mark H' ((V.ref p3, W.l (List.map W.s (List.take n ks))) :: Φ) mt → KsOk (ks.take n ++ [one c' ++ x]) := fun x H' h1 h2 _ => ⟨by rw [List.length_append, List.length_singleton]; omega, fun s hs => by
        rcases List.mem_append.mp hs with h | h
        · exact hkt.2 s h
        · rw [List.mem_singleton.mp h]; exact ⟨maker_ok g3 h1, by rw [len_app, len_one]; omega⟩⟩
      refine g_orS (by omega) (fun h0 => ?_) (fun h1 => ?_)
      · kopn_word
        refine ⟨_, _, rfl, rfl, sz_of (show (one c').length + (Str.ofString "1").length ≤ 100000 by rw [len_one]; decide +kernel), ?_⟩
        kopn_word
        exact kk _ (ks.take n ++ [one c' ++ Str.ofString "1"]) _ (fin (Str.ofString "1") _ (by decide +kernel) (by decide +kernel) s5) (by kt_ors)
      · have hu3 : u.length ≤ 49 := by omega
        have hue : endedOk u = true := points_ended hu1 (fun z => by rw [z] at h1; exact absurd h1 (by decide +kernel))
        kopn_word
        exact kk _ _ _ (fin _ _ hue hu3 s5) (by kt_ors)
    · rename_i p3 H3 s3 _ _ hlt t H4 h1 h2 s4 p4 H5 s5 p5 H6 s6
      exact kk _ (ks.take n ++ [t]) _ ⟨by rw [List.length_append, List.length_singleton]; rw [List.length_map] at hlt; omega, fun s hs => by
        rcases List.mem_append.mp hs with h | h
        · exact hkt.2 s h
        · rw [List.mem_singleton.mp h]; exact ⟨h1, by omega⟩⟩ (by kt_ors)
    · exact kk _ (ks.take n) _ hkt (by kt_ors)
end
theorem lead (n : Nat) : 1 ≤ n → ∃ c cs, (Nat.toDigits 10 n).map Char.toNat = c :: cs ∧ 49 ≤ c ∧ c ≤ 57 := by
  induction n using Nat.strongRecOn with
  | ind n ih =>
    intro h
    by_cases hn : n < 10
    · rw [Nat.toDigits_of_lt_base hn]
      have : ∀ k : Nat, k < 10 → 1 ≤ k → 49 ≤ (Nat.digitChar k).toNat ∧ (Nat.digitChar k).toNat ≤ 57 := by decide
      exact ⟨_, [], rfl, this n hn h⟩
    · rw [Nat.toDigits_of_base_le (by decide) (by omega), List.map_append]
      obtain ⟨c, cs, e, h1⟩ := ih (n / 10) (by omega) (by omega)
      rw [e]
      exact ⟨c, cs ++ _, rfl, h1⟩
theorem num_lead {i : Int} (h : 1 ≤ i) : ∃ c cs, sg (toString i : String) = c :: cs ∧ 49 ≤ c := by
  obtain ⟨m, rfl⟩ : ∃ m : Nat, i = (m : Int) := ⟨i.toNat, by omega⟩
  obtain ⟨c, cs, e, h1, _⟩ := lead m (by omega)
  exact ⟨c, cs, (PySem.W.KIN.signs_num m).trans e, h1⟩
theorem S.re {K : PySem.W.Frag} {C : Addr} {H : Hp} {Φ : List (V × W)} {mt : List (Addr × (HO → Prop))} {v : V} {w w' : W} (s : S K C H Φ mt) (h : (v, w) ∈ Φ) (e : w = w') : S K C H ((v, w') :: Φ) mt := by
  subst e
  exact s.to (fun z hz => by
    rcases List.mem_cons.mp hz with rfl | hz
    · exact h
    · exact hz) (List.Sublist.refl _)
def mix (m n : MK) (j : Nat) : MK := ⟨if 0 < j then m.lt else n.lt, if 1 < j then m.num else n.num, if 2 < j then m.pts else n.pts, if 3 < j then m.mks else n.mks, if 4 < j then m.yr else n.yr, if 5 < j then m.cp else n.cp⟩
theorem mix_ok {m n : MK} (a : m.Ok) (b : n.Ok) (j : Nat) : (mix m n j).Ok := by
  constructor
  · show lettersOk (mix m n j).lt 3 = true
    unfold mix; dsimp only; split
    · exact a.l
    · exact b.l
  · show 1 ≤ (mix m n j).num ∧ (mix m n j).num ≤ 9999
    unfold mix; dsimp only; split
    · exact a.n
    · exact b.n
  · show pointsOk (mix m n j).pts = true
    unfold mix; dsimp only; split
    · exact a.p
    · exact b.p
  · show (mix m n j).pts.length ≤ 1000
    unfold mix; dsimp only; split
    · exact a.pz
    · exact b.pz
  · show (mix m n j).mks.length ≤ 3
    unfold mix; dsimp only; split
    · exact a.k
    · exact b.k
  · show ∀ s ∈ (mix m n j).mks, _
    unfold mix; dsimp only; split
    · exact a.ks
    · exact b.ks
  · show ∀ s, (mix m n j).yr = some s → _
    unfold mix; dsimp only; split
    · exact a.y
    · exact b.y
  · show ∀ s, (mix m n j).cp = some s → _
    unfold mix; dsimp only; split
    · exact a.c
    · exact b.c
theorem mix_row (m n : MK) {j : Nat} (hj : j < 7) : W.l (([.s m.lt, .i m.num, .s m.pts, .l (m.mks.map W.s), W.o m.yr, W.o m.cp] : List W).take j ++ ([.s n.lt, .i n.num, .s n.pts, .l (n.mks.map W.s), W.o n.yr, W.o n.cp] : List W).drop j) = (mix m n j).row := by
  have : j = 0 ∨ j = 1 ∨ j = 2 ∨ j = 3 ∨ j = 4 ∨ j = 5 ∨ j = 6 := by omega
  rcases this with rfl | rfl | rfl | rfl | rfl | rfl | rfl <;> rfl
theorem mix_small {m n : MK} (a : m.Small) (b : n.Small) (j : Nat) : (mix m n j).Small := by
  constructor
  · show (mix m n j).pts.length ≤ 50
    unfold mix; dsimp only; split
    · exact a.1
    · exact b.1
  · show ∀ s ∈ (mix m n j).mks, _
    unfold mix; dsimp only; split
    · exact a.2
    · exact b.2

def spNeP (K : PySem.W.Frag) (C : Addr) : Sp := fun vs H Q _ => ∃ (p b : Addr) (k : Nat) (m : MK) (Φ : List (V × W)) (mt : List (Addr × (HO → Prop))), vs = [.ref p, .int (k : Int), .ref b] ∧ k < 6 ∧ (.ref p, m.row) ∈ Φ ∧ m.Ok ∧ m.Small ∧ (b, IsBox) ∈ mt ∧ S K C H Φ mt ∧ ∀ q (m' : MK) H', m'.Ok → m'.Small → S K C H' ((.ref q, m'.row) :: Φ) mt → Q (.ref q) H'
section
variable {K : PySem.W.Frag} {C : Addr} {σ : L2.St} {H : Hp} {Φ : List (V × W)} {mt : List (Addr × (HO → Prop))} {Q : VK} {a b p : Addr} {E : XK} {ks : List Str} {y : Option Int} {m : MK}
theorem use_nm (s : S K C H Φ mt) (ha : (.ref a, .l (ks.map W.s)) ∈ Φ) (hb : (b, IsBox) ∈ mt) (hk : KsOk ks) (q : ∀ p js H', KsOk js → S K C H' ((.ref p, .l (js.map W.s)) :: Φ) mt → Q (.ref p) H') : spNmP K C [.ref a, .ref b] H Q E := ⟨a, b, ks, Φ, mt, rfl, ha, hk, hb, s, q⟩
theorem use_ny (s : S K C H Φ mt) (hb : (b, IsBox) ∈ mt) (hy : ∀ i, y = some i → 1000 ≤ i ∧ i ≤ 2999) (q : ∀ (z : Option Int) H', (∀ i, z = some i → 1000 ≤ i ∧ i ≤ 2999) → S K C H' Φ mt → Q (oi z) H') : spNyP K C [oi y, .ref b] H Q E := ⟨y, b, Φ, mt, rfl, hy, hb, s, q⟩
theorem use_nc (s : S K C H Φ mt) (hb : (b, IsBox) ∈ mt) (hy : ∀ i, y = some i → 2 ≤ i ∧ i.natAbs.log2 < 1920) (q : ∀ (z : Option Int) H', (∀ i, z = some i → 2 ≤ i ∧ i.natAbs.log2 < 1920) → S K C H' Φ mt → Q (oi z) H') : spNcP K C [oi y, .ref b] H Q E := ⟨y, b, Φ, mt, rfl, hy, hb, s, q⟩
theorem use_ne (s : S K C H Φ mt) {k : Nat} (hp : (.ref p, m.row) ∈ Φ) (hb : (b, IsBox) ∈ mt) (hk : k < 6) (ok : m.Ok) (sm : m.Small) (q : ∀ q (m' : MK) H', m'.Ok → m'.Small → S K C H' ((.ref q, m'.row) :: Φ) mt → Q (.ref q) H') : spNeP K C [.ref p, .int (k : Int), .ref b] H Q E := ⟨p, b, k, m, Φ, mt, rfl, hk, hp, ok, sm, hb, s, q⟩
end
local macro_rules | `(tactic| kt_len) => `(tactic| with_reducible first
  | (apply use_nm; (focus (assumption)); (focus (tb_rel)); (focus (tb_rel)); (focus (assumption)); intro _ _ _ _ _)
  | (apply use_ny; (focus (assumption)); (focus (tb_rel)); (focus (assumption)); intro _ _ _ _)
  | (apply use_nc; (focus (assumption)); (focus (tb_rel)); (focus (assumption)); intro _ _ _ _))
section
variable {P : Program} {w : World} {K : PySem.W.Frag} {mg : Str → Option Value} {base : Heap} {Z : Adr} {C : Addr}
theorem ok_l_near (T : Txt K mg Z) : FnOk P w K mg base CX0 5 Z.a_l_near Z.d_l_near ["_law_parts_here", "_law_at", "_law_pool_here"] (spNeP K Z.C_Mark) := by
  refine T.F_l_near.ok sc_l_near (fun vs H Q E h => ?_) (fun cdv A outer s H vs Q E hr h => ?_)
  · obtain ⟨_, _, _, _, _, _, rfl, _⟩ := h; rfl
  · obtain ⟨p, b, k, m, Φ, mt, rfl, hk, hp, ok, sm, hb, s, kk⟩ := h
    refine ⟨_, (pss_cons (ps_set (i := 3) sc_l_near.nd rfl (.inl rfl) (pe_call (ok_l_take T) (hr.mono (by decide)) rfl T.g_l_take T.F_l_take.kp T.b_l_take .nil pass0 (pa_cons (pv 2) (pa_cons pe_int pa_nil))))
      (pss_cons (ps_set (i := 4) sc_l_near.nd rfl (.inl rfl) (peM (pe_lst (pa_cons (pe_ix (ixL K) (pv 0) pe_int (fun _ _ => rfl)) (pa_cons (pe_ix (ixL K) (pv 0) pe_int (fun _ _ => rfl)) (pa_cons (pe_ix (ixL K) (pv 0) pe_int (fun _ _ => rfl)) (pa_cons (pe_callTy (listK K) (by rfl) T.n_list (by decide +kernel) (pa_cons (pe_ix (ixL K) (pv 0) pe_int (fun _ _ => rfl)) pa_nil)) (pa_cons (pe_ix (ixL K) (pv 0) pe_int (fun _ _ => rfl)) (pa_cons (pe_ix (ixL K) (pv 0) pe_int (fun _ _ => rfl)) pa_nil)))))))))
      (pss_cut (ps_if (pt_cmpR op_eq (pv 1) pe_int (nomark _)) (pss_one (ps_asg (pe_op op_addS (pe_slice sl_str (pe_ix (ixL K) (pv 0) pe_int (fun _ _ => rfl)) po_none (po_some (pe_call (ok_l_take T) (hr.mono (by decide)) rfl T.g_l_take T.F_l_take.kp T.b_l_take .nil pass0 (pa_cons (pv 2) (pa_cons pe_int pa_nil))))) (pe_ix ix_str pe_str (pe_call (ok_l_take T) (hr.mono (by decide)) rfl T.g_l_take T.F_l_take.kp T.b_l_take .nil pass0 (pa_cons (pv 2) (pa_cons pe_int pa_nil))) (fun _ _ => rfl))) (pg_sub (pv 4) pe_int set_list))) pss_nil)
      (pss_cut (ps_if (pt_cmpR op_eq (pv 1) pe_int (nomark _)) (pss_one (ps_asg (pe_callTy (call_intS) (by rfl) T.n_int (by decide +kernel) (pa_cons (pe_slice sl_str (pe_op op_addS (pe_slice sl_str (pe_callTy (call_strI) (by rfl) T.n_str (by decide +kernel) (pa_cons (pe_ix (ixL K) (pv 0) pe_int (fun _ _ => rfl)) pa_nil)) po_none (po_some (pe_op op_add pe_int (pe_call (ok_l_take T) (hr.mono (by decide)) rfl T.g_l_take T.F_l_take.kp T.b_l_take .nil pass0 (pa_cons (pv 2) (pa_cons pe_int pa_nil)))))) (pe_ix ix_str pe_str (pe_call (ok_l_take T) (hr.mono (by decide)) rfl T.g_l_take T.F_l_take.kp T.b_l_take .nil pass0 (pa_cons (pv 2) (pa_cons pe_int pa_nil))) (fun _ _ => rfl))) po_none (po_some pe_int)) pa_nil)) (pg_sub (pv 4) pe_int set_list))) pss_nil)
      (pss_cut (ps_if (pt_cmpR op_eq (pv 1) pe_int (nomark _)) (pss_one (ps_asg (pe_call (ok_l_near_word T) (hr.mono (by decide)) rfl T.g_l_near_word T.F_l_near_word.kp T.b_l_near_word .nil pass0 (pa_cons (pe_ix (ixL K) (pv 0) pe_int (fun _ _ => rfl)) (pa_cons (pv 2) pa_nil))) (pg_sub (pv 4) pe_int set_list))) pss_nil)
      (pss_cut (ps_if (pt_cmpR op_eq (pv 1) pe_int (nomark _)) (pss_one (ps_asg (pe_call (ok_l_near_makers T) (hr.mono (by decide)) rfl T.g_l_near_makers T.F_l_near_makers.kp T.b_l_near_makers .nil pass0 (pa_cons (pe_ix (ixL K) (pv 0) pe_int (fun _ _ => rfl)) (pa_cons (pv 2) pa_nil))) (pg_sub (pv 4) pe_int set_list))) pss_nil)
      (pss_cut (ps_if (pt_cmpR op_eq (pv 1) pe_int (nomark _)) (pss_one (ps_asg (pe_call (ok_l_near_year T) (hr.mono (by decide)) rfl T.g_l_near_year T.F_l_near_year.kp T.b_l_near_year .nil pass0 (pa_cons (pe_ix (ixL K) (pv 0) pe_int (fun _ _ => rfl)) (pa_cons (pv 2) pa_nil))) (pg_sub (pv 4) pe_int set_list))) pss_nil)
      (pss_cut (ps_if (pt_cmpR op_eq (pv 1) pe_int (nomark _)) (pss_one (ps_asg (pe_call (ok_l_near_copy T) (hr.mono (by decide)) rfl T.g_l_near_copy T.F_l_near_copy.kp T.b_l_near_copy .nil pass0 (pa_cons (pe_ix (ixL K) (pv 0) pe_int (fun _ _ => rfl)) (pa_cons (pv 2) pa_nil))) (pg_sub (pv 4) pe_int set_list))) pss_nil)
      (pss_cut (ps_if (pt_cmpR op_eq (pv 3) pe_int (nomark _)) (pss_one (ps_ret (pe_op op_cat (pe_slice (slL K) (pv 4) po_none (po_some (pe_op op_add (pv 1) pe_int))) (pe_slice (slL K) (pe_call (ok_l_parts T) (hr.mono (by decide)) rfl T.g_l_parts T.F_l_parts.kp T.b_l_parts .nil pass0 (pa_cons (pv 2) pa_nil)) (po_some (pe_op op_add (pv 1) pe_int)) po_none)))) pss_nil)
      (pss_one (ps_ret (pv 4)))))))))))), ?_⟩
    have hp' := hp
    unfold MK.row at hp
    have hks : KsOk m.mks := ⟨ok.k, fun s h => ⟨(ok.ks s h).1, sm.2 s h⟩⟩
    have hpf : FigS m.pts := points_fig ok.p
    have hpz : m.pts.length ≤ 50 := sm.1
    have hyr := ok.y
    have hcp := ok.c
    have hll : (m.lt.length : Int) ≤ 3 := letters_len ok.l
    have hlg : m.num.natAbs.log2 < 1920 := log2_small ⟨by have := ok.n; omega, ok.n.2⟩
    kxt_pos
    kopn_word
    rename_i tl H1 tl0 tl1 s1 q1 s2 q2 H2 s3 row H3 s4
    have s5 : S K Z.C_Mark H3 ((V.ref q2, W.l (List.map W.s m.mks)) :: Φ) ((row, Eq (HO.lst [V.str m.lt, V.int m.num, V.str m.pts, V.ref q2, oi m.yr, oi m.cp])) :: mt) := by kt_ors
    clear s1 s2 s3 s4 s
    refine ⟨fun σ' H' => ∃ (q2 : Addr) (n : MK), σ' = [some (.ref p), some (.int (k : Int)), some (.ref b), some (.int tl), some (.ref row)] ∧ n.Ok ∧ n.Small ∧ S K Z.C_Mark H' ((.ref q2, .l (n.mks.map W.s)) :: Φ) ((row, Eq (.lst [.str n.lt, .int n.num, .str n.pts, .ref q2, oi n.yr, oi n.cp])) :: mt), ?_, ?_⟩
    · kopn_word
      · rename_i r H4 r0 r1 s6 r2 H5 r20 r21 s7 c hc hcm
        have hcl := cut_toP m.lt r0
        refine ⟨_, _, rfl, rfl, sz_of (by rw [len_one]; omega), ?_⟩
        kopn_word
        rename_i H6 s8
        obtain ⟨n, rfl⟩ : ∃ n : Nat, r = (n : Int) := ⟨r.toNat, by omega⟩
        exact ⟨q2, { m with lt := cutS m.lt none (some (n : Int)) ++ one c }, rfl, ⟨lets_app (by omega) (lets_cut ok.l n) hcm, ok.n, ok.p, ok.pz, ok.k, ok.ks, ok.y, ok.c⟩, sm, s8⟩
      · exact ⟨q2, m, rfl, ok, sm, by kt_ors⟩
    clear s5
    rintro σ5 H5 ⟨q2, n, rfl, ok2, sm2, s5⟩
    kopn_word
    refine ⟨fun σ' H' => ∃ (q2 : Addr) (n : MK), σ' = [some (.ref p), some (.int (k : Int)), some (.ref b), some (.int tl), some (.ref row)] ∧ n.Ok ∧ n.Small ∧ S K Z.C_Mark H' ((.ref q2, .l (n.mks.map W.s)) :: Φ) ((row, Eq (.lst [.str n.lt, .int n.num, .str n.pts, .ref q2, oi n.yr, oi n.cp])) :: mt), ?_, ?_⟩
    · kopn_word
      · rename_i hlen r H4 r0 r1 s6 r2 H15 r20 r21 s7 c hc hcm
        have hcn := cut_toP (Str.ofString (toString m.num)) (i := 1 + r) (by omega)
        refine ⟨_, _, rfl, rfl, sz_of (by rw [len_one]; omega), ?_⟩
        have hf := fig_app (fig_cutS (num_fig (i := m.num) (by have := ok.n; omega)) none (some (1 + r))) (fig_one hcm)
        have hd : ∃ d ds, sg (cutS (Str.ofString (toString m.num)) none (some (1 + r)) ++ one c) = d :: ds ∧ 49 ≤ d := by
          obtain ⟨d, ds, e, h9⟩ := num_lead ok.n.1
          obtain ⟨j, hj⟩ : ∃ j : Nat, 1 + r = ((j + 1 : Nat) : Int) := ⟨r.toNat, by omega⟩
          rw [hj]
          refine ⟨d, ds.take j ++ [c], ?_, h9⟩
          rw [sg_app, sg_cutTo, e]
          rfl
        have hl : (cutS (Str.ofString (toString m.num)) none (some (1 + r)) ++ one c).length ≤ 31 := by rw [len_app, len_one]; omega
        generalize cutS (Str.ofString (toString m.num)) none (some (1 + r)) ++ one c = t at hf hd hl
        have hf4 := fig_cut hf 4
        have hl4 := len_cut t 4
        obtain ⟨d, ds, hd, h9⟩ := hd
        have hd4 : sg (cutS t none (some ((4 : Nat) : Int))) = d :: ds.take 3 := by rw [sg_cutTo, hd]; rfl
        have hv := digitsVal_lt _ _ rfl (fun x hx => fig_dig.mp (hf4 x hx))
        have hv2 : PySem.NumText.digitsVal (sg (cutS t none (some ((4 : Nat) : Int)))) < 10 ^ 4 := Nat.lt_of_lt_of_le hv (Nat.pow_le_pow_right (by decide) (by rw [sg_len]; exact hl4))
        have hv3 : 0 < PySem.NumText.digitsVal (sg (cutS t none (some ((4 : Nat) : Int)))) := by rw [hd4]; exact PySem.NumText.digitsVal_pos h9
        have hit := intText_fig hf4 (by rw [hd4]; simp) (by omega)
        clear hv
        have i9 : LenLe t 31 := ⟨hl⟩
        kopn_word
        refine ⟨_, _, rfl, hit, Nat.le_trans hl4 (by decide), ?_⟩
        generalize PySem.NumText.digitsVal (sg (cutS t none (some ((4 : Nat) : Int)))) = dv at hit hv2 hv3 ⊢
        kopn_word
        rename_i H16 s8
        exact ⟨q2, { n with num := (dv : Int) }, rfl, ⟨ok2.l, ⟨show (1 : Int) ≤ (dv : Int) by omega, show (dv : Int) ≤ 9999 by omega⟩, ok2.p, ok2.pz, ok2.k, ok2.ks, ok2.y, ok2.c⟩, sm2, s8⟩
      · exact ⟨q2, n, rfl, ok2, sm2, by kt_ors⟩
    clear s5
    rintro σ6 H6 ⟨q2, n, rfl, ok2, sm2, s5⟩
    kopn_word
    refine ⟨fun σ' H' => ∃ (q2 : Addr) (n : MK), σ' = [some (.ref p), some (.int (k : Int)), some (.ref b), some (.int tl), some (.ref row)] ∧ n.Ok ∧ n.Small ∧ S K Z.C_Mark H' ((.ref q2, .l (n.mks.map W.s)) :: Φ) ((row, Eq (.lst [.str n.lt, .int n.num, .str n.pts, .ref q2, oi n.yr, oi n.cp])) :: mt), ?_, ?_⟩
    · kopn_word
      · rename_i u H15 hu1 hu2 s6 H16 s7
        exact ⟨q2, { n with pts := u }, rfl, ⟨ok2.l, ok2.n, hu1, show u.length ≤ 1000 by omega, ok2.k, ok2.ks, ok2.y, ok2.c⟩, ⟨show u.length ≤ 50 by omega, sm2.2⟩, s7⟩
      · exact ⟨q2, n, rfl, ok2, sm2, by kt_ors⟩
    clear s5
    rintro σ7 H7 ⟨q2, n, rfl, ok2, sm2, s5⟩
    kopn_word
    refine ⟨fun σ' H' => ∃ (q2 : Addr) (n : MK), σ' = [some (.ref p), some (.int (k : Int)), some (.ref b), some (.int tl), some (.ref row)] ∧ n.Ok ∧ n.Small ∧ S K Z.C_Mark H' ((.ref q2, .l (n.mks.map W.s)) :: Φ) ((row, Eq (.lst [.str n.lt, .int n.num, .str n.pts, .ref q2, oi n.yr, oi n.cp])) :: mt), ?_, ?_⟩
    · kopn_word
      · rename_i q3 s6 q4 js H15 hjs s7 H16 s8
        exact ⟨q4, { n with mks := js }, rfl, ⟨ok2.l, ok2.n, ok2.p, ok2.pz, hjs.1, fun s h => ⟨(hjs.2 s h).1, by have := (hjs.2 s h).2; omega⟩, ok2.y, ok2.c⟩, ⟨sm2.1, fun s h => (hjs.2 s h).2⟩, by kt_ors⟩
      · exact ⟨q2, n, rfl, ok2, sm2, by kt_ors⟩
    clear s5
    rintro σ8 H8 ⟨q2, n, rfl, ok2, sm2, s5⟩
    kopn_word
    refine ⟨fun σ' H' => ∃ (q2 : Addr) (n : MK), σ' = [some (.ref p), some (.int (k : Int)), some (.ref b), some (.int tl), some (.ref row)] ∧ n.Ok ∧ n.Small ∧ S K Z.C_Mark H' ((.ref q2, .l (n.mks.map W.s)) :: Φ) ((row, Eq (.lst [.str n.lt, .int n.num, .str n.pts, .ref q2, oi n.yr, oi n.cp])) :: mt), ?_, ?_⟩
    · kopn_word
      · rename_i z H15 hz s6 H16 s7
        exact ⟨q2, { n with yr := z }, rfl, ⟨ok2.l, ok2.n, ok2.p, ok2.pz, ok2.k, ok2.ks, hz, ok2.c⟩, sm2, s7⟩
      · exact ⟨q2, n, rfl, ok2, sm2, by kt_ors⟩
    clear s5
    rintro σ9 H9 ⟨q2, n, rfl, ok2, sm2, s5⟩
    kopn_word
    refine ⟨fun σ' H' => ∃ (q2 : Addr) (n : MK), σ' = [some (.ref p), some (.int (k : Int)), some (.ref b), some (.int tl), some (.ref row)] ∧ n.Ok ∧ n.Small ∧ S K Z.C_Mark H' ((.ref q2, .l (n.mks.map W.s)) :: Φ) ((row, Eq (.lst [.str n.lt, .int n.num, .str n.pts, .ref q2, oi n.yr, oi n.cp])) :: mt), ?_, ?_⟩
    · kopn_word
      · rename_i z H15 hz s6 H16 s7
        exact ⟨q2, { n with cp := z }, rfl, ⟨ok2.l, ok2.n, ok2.p, ok2.pz, ok2.k, ok2.ks, ok2.y, hz⟩, sm2, s7⟩
      · exact ⟨q2, n, rfl, ok2, sm2, by kt_ors⟩
    clear s5
    rintro σ10 H10 ⟨q2, n, rfl, ok2, sm2, s5⟩
    have s6 : S K Z.C_Mark H10 ((.ref row, n.row) :: Φ) mt := s5.fixRow
    clear s5
    refine ⟨fun σ' H' => σ' = [some (.ref p), some (.int (k : Int)), some (.ref b), some (.int tl), some (.ref row)] ∧ S K Z.C_Mark H' ((.ref row, n.row) :: Φ) mt, ?_, ?_⟩
    · kopn_word
      · show rSlL K (V.ref row) none (some ((k + 1 : Nat) : Int)) _ _
        unfold MK.row at s6
        refine g_slTo s6 List.mem_cons_self inferInstance inferInstance fun r3 H11 s7 => ?_
        kopn_word
        refine use_par s7 (by tb_rel) fun p4 m4 H12 ok4 sm4 s8 => ?_
        unfold MK.row at s8
        kopn_word
        show rSlL K (V.ref p4) (some ((k + 1 : Nat) : Int)) none _ _
        refine g_slFrom s8 List.mem_cons_self inferInstance inferInstance fun r5 H13 s9 => ?_
        refine g_cat s9 (List.mem_cons_of_mem _ (List.mem_cons_of_mem _ List.mem_cons_self)) List.mem_cons_self (by rw [List.length_cons, List.length_take, List.length_drop]; simp only [List.length_cons, List.length_nil]; omega) inferInstance fun po H14 s11 => ?_
        have s10 := s11.re List.mem_cons_self (mix_row n m4 (j := k + 1) (by omega))
        exact kk _ (mix n m4 (k + 1)) _ (mix_ok ok2 ok4 _) (mix_small sm2 sm4 _) (by kt_ors)
      · exact ⟨rfl, by kt_ors⟩
    rintro σ11 H11 ⟨rfl, s7⟩
    kopn_word
    exact kk _ n _ ok2 sm2 (by kt_ors)
end

/-! ### a mark's text, and the mark -/
theorem sg_e : sg ("" : Str) = [] := by decide +kernel
theorem sg_e2 : sg Str.empty = [] := rfl
theorem head_sg (m : MK) : sg m.head = sg m.lt ++ (sg (toString m.num : String) ++ if m.pts = ("" : Str) then [] else 46 :: sg m.pts) := by
  unfold MK.head
  by_cases h : m.pts = ("" : Str)
  · rw [if_pos h, if_pos h]
    simp only [List.foldl_cons, List.foldl_nil, sg_app, sg_e2, List.nil_append, List.append_nil]
  · rw [if_neg h, if_neg h]
    simp only [List.foldl_cons, List.foldl_nil, sg_app, sg_e2, List.nil_append, List.append_assoc]
    rfl
theorem join_blank : ∀ (w : Str) (ws : List Str), sg (Str.join " " (w :: ws)) = sg w ++ (ws.map fun x => 32 :: sg x).flatten
  | w, [] => by
    show sg w = _
    simp
  | w, x :: ws => by
    show sg (w ++ " " ++ Str.join " " (x :: ws)) = _
    rw [sg_app, sg_app, join_blank x ws, show sg (" " : Str) = [32] by decide +kernel]
    simp
def yrL : Option Int → List Str
  | none => []
  | some y => [((toString y : String) : Str)]
def cpL : Option Int → List Str
  | none => []
  | some c => [([("c." : Str), ((toString c : String) : Str)]).foldl (· ++ ·) Str.empty]
theorem words_eq (m : MK) : m.words = m.head :: (m.mks ++ yrL m.yr ++ cpL m.cp) := by
  unfold MK.words
  obtain ⟨lt, num, pts, mks, yr, cp⟩ := m
  cases yr <;> cases cp <;> rfl
theorem text_sg (m : MK) : sg m.text = sg m.head ++ ((m.mks ++ yrL m.yr ++ cpL m.cp).map fun x => 32 :: sg x).flatten := by
  unfold MK.text Txt.join
  rw [StrLaws.glued_eq_join, words_eq]
  exact join_blank _ _

/-- a text, and behind it each word with a blank ahead -/
def bl (ws : List Str) : List Nat := (ws.map fun x => 32 :: sg x).flatten
theorem bl_snoc (ws : List Str) (x : Str) : bl (ws ++ [x]) = bl ws ++ 32 :: sg x := by unfold bl; simp
theorem bl_len : ∀ {ws : List Str} {n : Nat}, (∀ s ∈ ws, s.length ≤ n) → (bl ws).length ≤ ws.length * (n + 1)
  | [], _, _ => by simp [bl]
  | x :: ws, n, h => by
    have h1 := h x List.mem_cons_self
    have h2 := bl_len (ws := ws) fun s hs => h s (List.mem_cons_of_mem _ hs)
    unfold bl at h2 ⊢
    rw [List.map_cons, List.flatten_cons, List.length_append, List.length_cons, List.length_cons, sg_len, Nat.add_mul]
    omega
def spTxtS (K : PySem.W.Frag) (C : Addr) : Sp := fun vs H Q _ => ∃ (p : Addr) (m : MK) (Φ : List (V × W)) (mt : List (Addr × (HO → Prop))), vs = [.ref p] ∧ (.ref p, m.row) ∈ Φ ∧ m.Ok ∧ S K C H Φ mt ∧ ∀ H', S K C H' Φ mt → Q (.str m.text) H'
def spMrkS (K : PySem.W.Frag) (C : Addr) : Sp := fun vs H Q _ => ∃ p m Φ mt, vs = [.ref p] ∧ (.ref p, m.row) ∈ Φ ∧ m.Ok ∧ S K C H Φ mt ∧ ∀ x H', S K C H' ((.ref x, .m m) :: Φ) mt → Q (.ref x) H'
section
variable {K : PySem.W.Frag} {C : Addr} {σ : L2.St} {H : Hp} {Φ : List (V × W)} {mt : List (Addr × (HO → Prop))} {Q : VK} {b p q x : Addr} {E : XK} {m n : MK}
theorem use_mrk (s : S K C H Φ mt) (h : (.ref p, m.row) ∈ Φ) (ok : m.Ok) (k : ∀ x H', S K C H' ((.ref x, .m m) :: Φ) mt → Q (.ref x) H') : spMrkS K C [.ref p] H Q E := ⟨p, m, Φ, mt, rfl, h, ok, s, k⟩
theorem use_txt (s : S K C H Φ mt) (h : (.ref p, m.row) ∈ Φ) (ok : m.Ok) (k : ∀ H', S K C H' Φ mt → Q (.str m.text) H') : spTxtS K C [.ref p] H Q E := ⟨p, m, Φ, mt, rfl, h, ok, s, k⟩
end
section
variable {P : Program} {w : World} {K : PySem.W.Frag} {mg : Str → Option Value} {base : Heap} {Z : Adr} {C : Addr}
theorem ok_l_mark (T : Txt K mg Z) : FnOk P w K mg base CX0 8 Z.a_l_mark Z.d_l_mark ["_law_parts_here"] (spMrkS K Z.C_Mark) := by
  refine T.F_l_mark.ok sc_l_mark (fun vs H Q E h => ?_) (fun cdv A outer s H vs Q E hr h => ?_)
  · obtain ⟨_, _, _, _, rfl, _⟩ := h; rfl
  · obtain ⟨p, m, Φ, mt, rfl, hp, ok, s, kk⟩ := h
    refine ⟨_, (pss_one (ps_ret (pe_makeN T.M_Mark (ok_Mark_init T) (hr.mono (by decide)) rfl T.g_Mark T.b_Mark_init_k3_points_makers_year_copy.choose_spec pass0 (pa_cons (pe_ix (ixL K) (pv 0) pe_int (fun _ _ => rfl)) (pa_cons (pe_ix (ixL K) (pv 0) pe_int (fun _ _ => rfl)) pa_nil)) (pk_cons (pe_ix (ixL K) (pv 0) pe_int (fun _ _ => rfl)) (pk_cons (pe_callTy (listK K) (by rfl) T.n_list (by decide +kernel) (pa_cons (pe_ix (ixL K) (pv 0) pe_int (fun _ _ => rfl)) pa_nil)) (pk_cons (pe_ix (ixL K) (pv 0) pe_int (fun _ _ => rfl)) (pk_cons (pe_ix (ixL K) (pv 0) pe_int (fun _ _ => rfl)) pk_nil))))))), ?_⟩
    obtain ⟨lt, num, pts, mks, yr, cp⟩ := m
    change (V.ref p, W.l [.s lt, .i num, .s pts, .l (mks.map W.s), W.o yr, W.o cp]) ∈ Φ at hp
    have hk : mks.length ≤ 3 := ok.k
    kxt_pos
    kopn_word
    exact kk _ _ (by kt_ors)
end

/-! ### sorted of a tuple -/
section
open PySem PySem.W PySem.Calls PyProof.Rows
variable {prog : Program} {w : World} {A : Around} {E : Value → Shared → Prop} {s : Shared}
theorem collect_tup {l : Addr} {vs : List Value} {Q : List Value → Shared → Prop} (hl : s.heap.IsTuple l vs.toArray) (hsz : vs.length ≤ sizeLine)
    (h : Q vs { s with heap := (s.heap.push (seqObj "list" #[] 0)).update s.heap.objs.size (Obj.mapSeq (· ++ vs.toArray)) }) :
    wpAny (model prog w) A (collect (.ref l)) Q E s := by
  obtain ⟨o, ho, hc, n, hd⟩ := id hl
  have hn : (s.heap.push (seqObj "list" #[] 0)).get? s.heap.objs.size = some (seqObj "list" #[] 0) := Heap.get?_push_size _ rfl
  have ho' : (s.heap.push (seqObj "list" #[] 0)).get? l = some o := Heap.get?_push_of_some _ ho
  unfold collect
  refine wpAny_bind (wpAny_runValue (codeAny_builtin entry_proto_collect' ?_))
  show wpAny _ _ (do again (.builtin "list.__iadd__" ⟨[← newList [], .ref l], []⟩)) _ _ s
  refine wpAny_bind (wpAny_newList (wpAny_pure ⟨Code.quiet_builtin _ (by decide +kernel), codeAny_builtin entry_list_iadd' ?_⟩))
  show wpAny _ _ (Builtin.List.listExtendWith (.ref s.heap.objs.size) (.ref l) (.ref s.heap.objs.size)) _ _ { s with heap := s.heap.push (seqObj "list" #[] 0) }
  unfold Builtin.List.listExtendWith
  refine wpAny_bind (wpAny_typeOf (T := "tuple") ⟨o, ho', hc⟩ ?_)
  rw [if_pos (by rw [show (Value.type "tuple" == Value.type "tuple") = true from by rfl]; simp)]
  refine wpAny_bind (listItems_at ho' hd ?_)
  refine wpAny_bind (listItems_at hn rfl ?_)
  rw [if_neg (by simp)]
  refine wpAny_bind (listUpdate_at hn rfl ?_ (Nat.zero_le _) (by show (#[] ++ vs.toArray).size ≤ sizeLine + 1; simp only [Array.size_append, List.size_toArray, List.length_nil]; omega))
  refine wpAny_pure ?_
  show wpAny (model prog w) A (do
      let o ← load s.heap.objs.size
      match o.data with
      | .seq xs _ => pure xs.toList
      | _ => unsupported "internal:collect") Q E { s with heap := (s.heap.push (seqObj "list" #[] 0)).update s.heap.objs.size (Obj.mapSeq (· ++ vs.toArray)) }
  refine wpAny_bind (wpAny_load (get?_update_seq hn _) ?_)
  show wpAny _ _ (pure ((#[] : Array Value) ++ vs.toArray).toList) Q E _
  rw [show ((#[] : Array Value) ++ vs.toArray).toList = vs by simp]
  exact wpAny_pure h
def Coll (prog : Program) (w : World) (l : Addr) (vs : List Value) (s : Shared) : Prop := ∀ (A : Around) (Q : List Value → Shared → Prop) (E : Value → Shared → Prop), Q vs { s with heap := (s.heap.push (seqObj "list" #[] 0)).update s.heap.objs.size (Obj.mapSeq (· ++ vs.toArray)) } → wpAny (model prog w) A (collect (.ref l)) Q E s
theorem coll_list {l : Addr} {vs : List Value} (hl : s.heap.IsList l vs.toArray) (hz : vs.length ≤ sizeLine) : Coll prog w l vs s := fun _ _ _ h => collect_list hl h hz
theorem coll_tup {l : Addr} {vs : List Value} (hl : s.heap.IsTuple l vs.toArray) (hz : vs.length ≤ sizeLine) : Coll prog w l vs s := fun _ _ _ h => collect_tup hl hz h
theorem sorted_of_coll {l : Addr} {vs : List Value} {kw : List (Str × Value)} {Q : Value → Shared → Prop} (hl : Coll prog w l vs s) (hL : vs.length ≤ sizeLine) (ha1 : argsOk "sorted" ⟨[.ref l], kw⟩) (ha2 : ∀ x, argsOk "list.sort" ⟨[.ref x], kw⟩)
    (body : ∀ E' : Value → Shared → Prop, wpAny (model prog w) A.in1.in1 (Builtin.«list.sort» ⟨[.ref (s.heap.objs.size + 1)], kw⟩) (fun f s' => f = .done (.ret .none) ∧ Q (.ref (s.heap.objs.size + 1)) s') E' { s with heap := copyHeap s.heap vs }) :
    wpAny (model prog w) A (call (.builtin "sorted") [.ref l] kw) Q E s := by
  refine call_function_entry_kw kind_sorted plain_sorted entry_sorted ha1 ?_
  unfold Builtin.«sorted»
  refine wpAny_bind (m := checkCount "sorted" 1 1 _) (wpAny_pure ?_)
  refine wpAny_bind (hl _ _ _ ?_)
  refine wpAny_bind (wpAny_newList ?_ hL)
  have hsz : ((s.heap.push (seqObj "list" #[] 0)).update s.heap.objs.size (Obj.mapSeq (· ++ vs.toArray))).objs.size = s.heap.objs.size + 1 := by
    rw [Heap.size_update, size_push']
  show wpAny _ _ _ _ _ { s with heap := copyHeap s.heap vs }
  rw [hsz]
  refine wpAny_bind (wpAny_holding (wpAny_call_entry_kw slot_list_sort ⟨_, copyHeap_at s.heap vs, rfl⟩ entry_list_sort ?body (ha2 _)))
  case body =>
    show wpAny (model prog w) A.in1.in1 (Builtin.«list.sort» ⟨[.ref (s.heap.objs.size + 1)], kw⟩) _ _ _
    refine wpAny_mono (body _) (fun f s' hf => ?_) fun _ _ e => e
    obtain ⟨rfl, hq⟩ := hf
    exact ⟨_, rfl, wpAny_pure ⟨_, rfl, hq⟩⟩
end

/-! ### sorted(xs, key=f), f's calls told over a predicate of the state -/
section
open PySem PySem.W PySem.Calls PyProof.Rows
variable {prog : Program} {w : World} {A : Around} {E : Value → Shared → Prop} {s : Shared} {a kS : Addr} {b : Bool} {vs : List Value} {e e1 : Nat} {P : PySem.Fin → Shared → Prop} {kz : List PyData}
def gone (h : Heap) (x : Addr) : Heap := h.update x fun o => { o with data := .freed }
theorem gone_at {h : Heap} {x : Addr} : (gone h x).get? x = none := by
  cases e : (gone h x).get? x with
  | none => rfl
  | some o =>
    exfalso
    obtain ⟨h1, h2⟩ := Heap.get?_some_iff.mp e
    unfold gone at h1
    rw [Heap.objs_update_self] at h1
    cases q : h.objs[x]? with
    | none => rw [q] at h1; cases h1
    | some o2 =>
      rw [q] at h1
      obtain rfl := Option.some.inj h1
      cases h2
theorem gone_ne {h : Heap} {x y : Addr} (n : y ≠ x) : (gone h x).get? y = h.get? y := (Heap.SameBut.update h x _).2 y n
/-- what of the state is told while the keys are made: the keys so far, in all states that differ in the two lists alone -/
structure KeyJ (kz : List PyData) (a kS : Addr) (J : List Value → Shared → Prop) : Prop where
  keys : ∀ ks s, J ks s → EachIs (fun v k => ∃ as, Reads s.heap v k as) ks (kz.take ks.length)
  kept : ∀ ks s h' tk, J ks s → (∀ b o, b ≠ kS → b ≠ a → s.heap.get? b = some o → h'.get? b = some o) → J ks { s with heap := h', toks := tk }
theorem keyJ_rest {f : Value} {J : List Value → Shared → Prop} (hJ : KeyJ kz a kS J) (h0 : J [] s) (nk : s.heap.get? kS = some (seqObj "list" #[] 0)) (na : s.heap.get? a = some (seqObj "list" #[] e1)) (hka : kS ≠ a)
    (hlen : kz.length = vs.length) (hZ : vs.length ≤ sizeLine) (hal : AllAlike kz) (hsk : Sortable kz) (hu : ∀ d, d ∈ kz → A.units + d.depth < cLine)
    (turn : ∀ (i : Nat) (v : Value) (k : PyData) (ks : List Value) (kA : Array Value) (e : Nat) (s1 : Shared), vs[i]? = some v → kz[i]? = some k → ks.length = i → J ks s1 → s1.heap.get? kS = some (seqObj "list" kA e) → s1.heap.get? a = some (seqObj "list" #[] e1) →
      wpAny (model prog w) A (call f [v]) (fun u s2 => J (ks ++ [u]) s2 ∧ s2.heap.get? kS = some (seqObj "list" kA e) ∧ s2.heap.get? a = some (seqObj "list" #[] e1)) (fun _ _ => False) s1)
    (h : ∀ s' ks out c, J ks s' → s'.heap.get? a = some (seqObj "list" (List.toArray out) c) → KeyedOut b kz vs out → P (.done (.ret .none)) s') :
    wpAny (model prog w) A (ksk_rest a f b vs.toArray e1 (.ref kS)) P E s := by
  unfold ksk_rest
  refine wpAny_bind (wpAny_rule ?_)
  first
    | rw [List.forIn_toArray]
    | (rw [← Array.forIn_toList]; simp only [List.toList_toArray])
  refine wpAny_bind (ksk_fold (fun i s' => ∃ kA e, J kA.toList s' ∧ kA.size = i ∧ s'.heap.get? kS = some (seqObj "list" kA e) ∧ s'.heap.get? a = some (seqObj "list" #[] e1)) vs 0 s ⟨#[], 0, h0, rfl, nk, na⟩ ?step ?done)
  case step =>
    rintro j x s' hx ⟨kA, e, hj, hz, nk', na'⟩
    simp only [Nat.zero_add] at hz ⊢
    have hjl : j < vs.length := (List.getElem?_eq_some_iff.mp hx).1
    obtain ⟨k, hkj⟩ : ∃ k, kz[j]? = some k := ⟨_, List.getElem?_eq_getElem (by omega)⟩
    refine wpAny_bind (wpAny_attempt (wpAny_mono (turn j x k kA.toList kA e s' hx hkj (by rw [Array.length_toList]; exact hz) hj nk' na') (fun v s2 he => ?_) fun _ _ hF => hF.elim))
    obtain ⟨hj2, nk2, na2⟩ := he
    try dsimp only
    have s1 := Heap.SameBut.update s2.heap kS (Obj.mapSeq (·.push v))
    obtain ⟨c2, hc2⟩ : ∃ c2, (s2.heap.update kS (Obj.mapSeq (·.push v))).get? kS = some (seqObj "list" (kA.push v) c2) := ⟨_, get?_update_seq nk2 (·.push v)⟩
    refine wpAny_bind (listUpdate_at nk2 rfl ?_ (by omega) (Nat.le_trans (Nat.le_of_eq (Array.size_push ..)) (by omega)))
    refine wpAny_pure ⟨rfl, kA.push v, c2, ?_, by rw [Array.size_push, hz], hc2, (s1.2 a hka.symm).trans na2⟩
    rw [show (kA.push v).toList = kA.toList ++ [v] by simp]
    exact hJ.kept _ s2 _ s2.toks hj2 fun b o n1 _ e => (s1.2 b n1).trans e
  case done =>
    rintro s' ⟨kA, e, hj, hz, nk', na'⟩
    have hk := hJ.keys _ _ hj
    have hk' : EachIs (fun v k => ∃ as, Reads s'.heap v k as) kA.toList kz := by
      rw [Array.length_toList, hz, List.take_of_length_le (by omega)] at hk
      exact hk
    try dsimp only
    refine wpAny_bind (listItems_at nk' rfl ?_)
    refine keyH_end (κ := dataKind s'.heap kz) (h₁ := gone s'.heap kS) (fun b o n e => ?_) gone_at nk' na' hka (SortsAt.data hk' hal hsk hu) (by omega) hZ fun h3 tk3 c k3 n3 => h _ kA.toList _ c (hJ.kept _ s' _ _ hj fun b o n1 n2 e => k3 b o n2 (by rw [gone_ne n1]; exact e)) n3 ⟨s'.heap, kA.toList, hal, rfl, hk'⟩
    by_cases n2 : b = kS
    · rw [n2, gone_at] at e; cases e
    · rw [gone_ne n2] at e; exact e
theorem keyJ_tree {f : Value} {n : Nat} {J : List Value → Shared → Prop} (hJ : KeyJ kz a (s.heap.objs.size + 1) J) (h0 : J [] s) (ho : s.heap.get? a = some (seqObj "list" vs.toArray n)) (hlen : kz.length = vs.length) (hZ : vs.length ≤ sizeLine) (hal : AllAlike kz) (hsk : Sortable kz) (hu : ∀ d, d ∈ kz → A.units + d.depth < cLine)
    (turn : ∀ (i : Nat) (v : Value) (k : PyData) (ks : List Value) (kA : Array Value) (e e1 : Nat) (s1 : Shared), vs[i]? = some v → kz[i]? = some k → ks.length = i → J ks s1 → s1.heap.get? (s.heap.objs.size + 1) = some (seqObj "list" kA e) → s1.heap.get? a = some (seqObj "list" #[] e1) →
      wpAny (model prog w) A (call f [v]) (fun u s2 => J (ks ++ [u]) s2 ∧ s2.heap.get? (s.heap.objs.size + 1) = some (seqObj "list" kA e) ∧ s2.heap.get? a = some (seqObj "list" #[] e1)) (fun _ _ => False) s1)
    (h : ∀ s' ks out c, J ks s' → s'.heap.get? a = some (seqObj "list" (List.toArray out) c) → KeyedOut b kz vs out → P (.done (.ret .none)) s') :
    wpAny (model prog w) A (ksk_tree a f b) P E s := by
  have ha : a < s.heap.objs.size := Heap.lt_size ho
  obtain ⟨e1, ho1⟩ : ∃ e1, (s.heap.update a (Obj.mapSeq fun _ => (#[] : Array Value))).get? a = some (seqObj "list" #[] e1) := ⟨_, get?_update_seq ho fun _ => #[]⟩
  have hkS : ((s.heap.update a (Obj.mapSeq fun _ => (#[] : Array Value))).push (seqObj "tuple" vs.toArray 0)).objs.size = s.heap.objs.size + 1 := by rw [size_push', Heap.size_update]
  unfold ksk_tree
  refine wpAny_bind (listItems_at ho rfl ?_)
  refine wpAny_bind (listUpdate_at ho rfl ?_ (by rw [List.size_toArray]; exact hZ) (Nat.zero_le _))
  refine wpAny_bind (seqEpoch_at ho1 rfl ?_)
  refine wpAny_bind (wpAny_newTuple ?_ (by show vs.length ≤ _; exact hZ))
  refine wpAny_bind (wpAny_newList ?_ (Nat.zero_le _))
  refine wpAny_holding ?_
  rw [hkS]
  have hl : (((s.heap.update a (Obj.mapSeq fun _ => (#[] : Array Value))).push (seqObj "tuple" vs.toArray 0)).push (seqObj "list" #[] 0)).get? (s.heap.objs.size + 1) = some (seqObj "list" #[] 0) := by
    rw [← hkS]
    exact Heap.get?_push_size _ rfl
  exact keyJ_rest (J := J) hJ (hJ.kept [] s _ s.toks h0 fun b o _ n2 e => sortingHeap_old n2 e) hl (Heap.get?_push_of_some _ (Heap.get?_push_of_some _ ho1)) (Nat.ne_of_gt (Nat.lt_succ_of_lt ha)) hlen hZ hal hsk hu
    (fun i v k ks kA e s1 h1 h2 h3 h4 h5 h6 => turn i v k ks kA e e1 s1 h1 h2 h3 h4 h5 h6) h
/-- sorted(xs, key=f[, reverse=b]) -/
theorem sorted_keyJ {l : Addr} {f : Value} {kw : List (Str × Value)} {Q : Value → Shared → Prop} {J : List Value → Shared → Prop} (hJ : KeyJ kz (s.heap.objs.size + 1) (s.heap.objs.size + 3) J) (h0 : J [] s) (hl : Coll prog w l vs s) (hlen : kz.length = vs.length) (hZ : vs.length ≤ sizeLine) (hal : AllAlike kz) (hsk : Sortable kz)
    (hu : ∀ d, d ∈ kz → A.units + 2 + d.depth < cLine) (ha1 : argsOk "sorted" ⟨[.ref l], kw⟩) (ha2 : ∀ x, argsOk "list.sort" ⟨[.ref x], kw⟩) (ht : ∀ x, Builtin.«list.sort» ⟨[.ref x], kw⟩ = ksk_tree x f b)
    (turn : ∀ (i : Nat) (v : Value) (k : PyData) (ks : List Value) (kA : Array Value) (e e1 : Nat) (s1 : Shared), vs[i]? = some v → kz[i]? = some k → ks.length = i → J ks s1 → s1.heap.get? (s.heap.objs.size + 3) = some (seqObj "list" kA e) → s1.heap.get? (s.heap.objs.size + 1) = some (seqObj "list" #[] e1) →
      wpAny (model prog w) A.in1.in1 (call f [v]) (fun u s2 => J (ks ++ [u]) s2 ∧ s2.heap.get? (s.heap.objs.size + 3) = some (seqObj "list" kA e) ∧ s2.heap.get? (s.heap.objs.size + 1) = some (seqObj "list" #[] e1)) (fun _ _ => False) s1)
    (h : ∀ s' ks out c, J ks s' → s'.heap.get? (s.heap.objs.size + 1) = some (seqObj "list" (List.toArray out) c) → KeyedOut b kz vs out → Q (.ref (s.heap.objs.size + 1)) s') :
    wpAny (model prog w) A (call (.builtin "sorted") [.ref l] kw) Q E s := by
  have hsz : (copyHeap s.heap vs).objs.size = s.heap.objs.size + 2 := by
    first
      | exact copyHeap_size ..
      | (unfold copyHeap; simp [size_push', Heap.size_update])
      | simp [copyHeap]
  refine sorted_of_coll hl hZ ha1 ha2 fun E' => ?_
  rw [ht]
  refine keyJ_tree (J := J) (s := { s with heap := copyHeap s.heap vs }) (a := s.heap.objs.size + 1) (P := fun f s' => f = .done (.ret .none) ∧ Q (.ref (s.heap.objs.size + 1)) s') (by rw [show ({ s with heap := copyHeap s.heap vs } : Shared).heap.objs.size + 1 = s.heap.objs.size + 3 by show (copyHeap s.heap vs).objs.size + 1 = _; rw [hsz]]; exact hJ) (hJ.kept [] s _ s.toks h0 fun b o _ n2 e => copyHeap_old e) (copyHeap_at s.heap vs) hlen hZ hal hsk hu ?_ fun s' ks out c h1 h2 h3 => ⟨rfl, h s' ks out c h1 h2 h3⟩
  intro i v k ks kA e e1 s1 h1 h2 h3 h4 h5 h6
  rw [show ({ s with heap := copyHeap s.heap vs } : Shared).heap.objs.size + 1 = s.heap.objs.size + 3 by show (copyHeap s.heap vs).objs.size + 1 = _; rw [hsz]] at h5 ⊢
  exact turn i v k ks kA e e1 s1 h1 h2 h3 h4 h5 h6
end

/-! ### the rule: sorted(e, key=f), f a def -/
section
open PyProof.Rows
variable {X : Cx} {pins : List (Addr × Obj)} {σ : L2.St} {H : Hp} {s : Shared}
def rSortK (K : PySem.W.Frag) (fa : Addr) (sp : Sp) (b : Bool) (zs0 : List V) (E : XK) : List V → List V → Hp → VK → Prop := fun vs zs H Q => ∃ (a : Addr) (xs : List V) (kz : List PyData) (R : List V → Hp → Prop), vs = [.ref a] ∧ zs = .ref fa :: zs0 ∧ (SqL K H a xs ∨ SqT K H a xs) ∧ kz.length = xs.length ∧ PySem.W.AllAlike kz ∧ PySem.W.Sortable kz ∧ (∀ d ∈ kz, d.depth ≤ 60) ∧ R [] H ∧
  (∀ ks H1, R ks H1 → ∀ x, xs[ks.length]? = some x → ∀ (Q1 : VK), (∀ y H2, R (ks ++ [y]) H2 → Q1 y H2) → sp [x] H1 Q1 E) ∧
  (∀ ks H1, R ks H1 → DpAll K H1 ks (kz.take ks.length)) ∧
  (∀ ks H1 p, R ks H1 → H1 p = none → Q (.ref p) (upd H1 p (.lst (((xs.zip kz).mergeSort (PySem.W.dataLe b Prod.snd)).map Prod.fst))))
theorem dp_each (I : Inv X pins σ H s) : ∀ {ks : List V} {us : List Value} {ds : List PyData}, DpAll X.K H ks ds → Vals ks us → PySem.W.EachIs (fun v k => ∃ as, Reads s.heap v k as) us ds := by
  intro ks us ds h r
  induction ks generalizing us ds with
  | nil =>
    cases h
    cases r
    exact .nil
  | cons v vs ih =>
    cases h with
    | cons h1 h2 =>
      cases r with
      | cons r1 r2 => exact .cons (Dp.reads I _ _ _ h1 r1) (ih h2 r2)
end
section
open PyProof.Rows
variable {X : Cx}
theorem zip_each {xs : List V} {us : List Value} {kz : List PyData} (rv : Vals xs us) (h : kz.length = xs.length) : PySem.W.EachIs (fun (v : Value) (p : V × PyData) => RelV p.1 v) us (xs.zip kz) := by
  induction rv generalizing kz with
  | nil => exact .nil
  | cons r rr ih =>
    cases kz with
    | nil => cases h
    | cons k kz => exact .cons r (ih (by simpa using h))
theorem each_vals : ∀ {us : List Value} {ps : List (V × PyData)}, PySem.W.EachIs (fun (v : Value) (p : V × PyData) => RelV p.1 v) us ps → Vals (ps.map Prod.fst) us
  | _, _, .nil => .nil
  | _, _, .cons h r => .cons h (each_vals r)
theorem sortK_run {fa : Addr} {fd : FuncData} {ps : List Str} {sp : Sp} {n : Nat} {b : Bool} {E : XK} {kw : List (Str × Value)} {pins : List (Addr × Obj)} {σ : L2.St} {H : Hp} {s : Shared} {Q : VK} {a : Addr} {xs : List V} {kz : List PyData} {R : List V → Hp → Prop}
    (F : FnOk X.prog X.w X.K X.mg X.base CX0 n fa fd ps sp) (hr : Room (n + 4) X.A) (hb : Binds X.K fd ps []) (I : Inv X pins σ H s)
    (ha1 : argsOk "sorted" ⟨[.ref a], kw⟩) (ha2 : ∀ x, argsOk "list.sort" ⟨[.ref x], kw⟩) (ht : ∀ x, Builtin.«list.sort» ⟨[.ref x], kw⟩ = ksk_tree x (.ref fa) b)
    (hs : SqL X.K H a xs ∨ SqT X.K H a xs) (hlen : kz.length = xs.length) (hal : PySem.W.AllAlike kz) (hsk : PySem.W.Sortable kz) (hd : ∀ d ∈ kz, d.depth ≤ 60) (hR : R [] H)
    (turn : ∀ ks H1, R ks H1 → ∀ x, xs[ks.length]? = some x → ∀ (Q1 : VK), (∀ y H2, R (ks ++ [y]) H2 → Q1 y H2) → sp [x] H1 Q1 E)
    (keys : ∀ ks H1, R ks H1 → DpAll X.K H1 ks (kz.take ks.length))
    (q : ∀ ks H1 p, R ks H1 → H1 p = none → Q (.ref p) (upd H1 p (.lst (((xs.zip kz).mergeSort (PySem.W.dataLe b Prod.snd)).map Prod.fst)))) :
    wpAny (model X.prog X.w) X.A (call (.builtin "sorted") [.ref a] kw) (EP X pins σ Q) X.xe s := by
  obtain ⟨its, rv, hl, hz⟩ : ∃ its : List Value, Vals xs its ∧ Coll X.prog X.w a its s ∧ xs.length ≤ sizeLine := by
    rcases hs with hs | hs
    · obtain ⟨its, rv, hl, hz⟩ := I.list hs
      exact ⟨its, rv, coll_list hl.isList (by have := rv.length; omega), hz⟩
    · obtain ⟨its, rv, hl, hz⟩ := I.tuple hs
      exact ⟨its, rv, coll_tup (show s.heap.IsTuple a its.toArray from hl) (by have := rv.length; omega), hz⟩
  have hlv := rv.length
  have hfree : ∀ {H' : Hp} {c : Addr}, s.heap.objs.size ≤ c → H' c = none → FpOk X pins H' c := fun h1 h2 => I.fpOk h1 h2
  have n1 : s.heap.objs.size ≤ s.heap.objs.size + 1 := Nat.le_succ _
  have n3 : s.heap.objs.size ≤ s.heap.objs.size + 3 := Nat.le_add_right _ _
  refine sorted_keyJ (J := fun us s' => ∃ ks H', R ks H' ∧ Vals ks us ∧ Inv X pins σ H' s' ∧ H' (s.heap.objs.size + 1) = none ∧ H' (s.heap.objs.size + 3) = none) (kz := kz) ⟨?_, ?_⟩ ⟨[], H, hR, .nil, I, I.hok.fresh n1, I.hok.fresh n3⟩ hl (by omega) (by omega) hal hsk (fun d h => by have := hd d h; have := hr.un; omega) ha1 ha2 ht ?_ ?_
  · rintro us s' ⟨ks, H', h1, h2, h3, _, _⟩
    have := keys ks H' h1
    have e : us.length = ks.length := h2.length.symm
    rw [e]
    exact dp_each h3 this h2
  · rintro us s' h' tk ⟨ks, H', h1, h2, h3, h4, h5⟩ hk
    refine ⟨ks, H', h1, h2, h3.turnedL (t' := tk) (ch := [s.heap.objs.size + 1, s.heap.objs.size + 3]) (fun b o hb e => hk b o (fun z => hb (by simp [z])) (fun z => hb (by simp [z])) e) (fun b hb => ?_), h4, h5⟩
    rcases List.mem_cons.mp hb with rfl | hb
    · exact hfree n1 h4
    · rw [List.mem_singleton.mp hb]; exact hfree n3 h5
  · rintro i v k us kA e e1 s1 hv hk hl2 ⟨ks, H1, h1, h2, h3, h4, h5⟩ g1 g2
    have hks : ks.length = i := h2.length.trans hl2
    have hxl : i < xs.length := by
      have := (List.getElem?_eq_some_iff.mp hv).1
      omega
    obtain ⟨x, hx⟩ : ∃ x, xs[i]? = some x := ⟨_, List.getElem?_eq_getElem hxl⟩
    obtain ⟨u, hu, rx⟩ := rv.get hx
    obtain rfl : v = u := Option.some.inj (hv.symm.trans hu)
    have nc1 : ∀ v, (seqObj "list" kA e).data ≠ .cell v := fun v z => by cases z
    have nc2 : ∀ v, (seqObj "list" #[] e1).data ≠ .cell v := fun v z => by cases z
    have f1 := hfree n1 h4
    have f3 := hfree n3 h5
    have I2 : Inv X ((s.heap.objs.size + 3, seqObj "list" kA e) :: (s.heap.objs.size + 1, seqObj "list" #[] e1) :: pins) σ H1 s1 := h3.pins_of fun p hp => by
      rcases List.mem_cons.mp hp with rfl | hp
      · exact ⟨g1, h5, f3.2.1, f3.2.2.1, nc1⟩
      · rcases List.mem_cons.mp hp with rfl | hp
        · exact ⟨g2, h4, f1.2.1, f1.2.2.1, nc2⟩
        · exact h3.pin p (List.mem_append_right _ hp)
    have hsp := turn ks H1 h1 x (by rw [hks]; exact hx) (fun y H2 => R (ks ++ [y]) H2) fun y H2 h => h
    have hl0 := F.len _ _ _ _ hsp
    have r2' : Vals [x] [v] := .cons rx .nil
    refine wpAny_call (codeAny_mono (F.run _ X.stack s1 H1 ⟨[v], []⟩ [v] [x] _ E (hr.mono (by omega) : Room (n + 2) X.A).in1.in1 I2.env0.in1.in1 (by
      have := hb s1 [v] I2.kIn (by simpa using hl0)
      simpa using this) r2' hsp) fun r s' hq => ?_)
    cases r with
    | error e => exact hq.elim
    | ok fl =>
      cases fl with
      | ret w =>
        obtain ⟨z, H', I', rz, hR'⟩ := I2.after hq
        have p3 := I'.pin (s.heap.objs.size + 3, seqObj "list" kA e) (List.mem_append_right _ List.mem_cons_self)
        have p1 := I'.pin (s.heap.objs.size + 1, seqObj "list" #[] e1) (List.mem_append_right _ (List.mem_cons_of_mem _ List.mem_cons_self))
        exact ⟨⟨ks ++ [z], H', hR', h2.append (.cons rz .nil), I'.pins_of fun p hp => I'.pin p (List.mem_append_right _ (List.mem_cons_of_mem _ (List.mem_cons_of_mem _ hp))), p1.2.1, p3.2.1⟩, p3.1, p1.1⟩
      | next => exact False.elim hq
      | brk => exact False.elim hq
      | cont => exact False.elim hq
  · rintro s' us out c ⟨ks, H', h1, h2, h3, h4, h5⟩ ho hko
    have f1 := hfree n1 h4
    have hbs : (xs.zip kz).map Prod.snd = kz := List.map_snd_zip (by omega)
    have each : PySem.W.EachIs (fun (v : Value) (p : V × PyData) => RelV p.1 v) its (xs.zip kz) := zip_each rv (by omega)
    have ho2 := PySem.W.keyedOut_each (R := fun (v : Value) (p : V × PyData) => RelV p.1 v) (k := Prod.snd) (bs := xs.zip kz) (by rw [hbs]; exact hko) each
    have hv2 := each_vals ho2
    have hlen2 : (((xs.zip kz).mergeSort (PySem.W.dataLe b Prod.snd)).map Prod.fst).length ≤ sizeLine := by
      rw [List.length_map, List.length_mergeSort, List.length_zip]
      omega
    exact ⟨.ref _, _, h3.take (t' := s'.toks) (it := s.heap.objs.size + 1) (o := .lst (((xs.zip kz).mergeSort (PySem.W.dataLe b Prod.snd)).map Prod.fst)) (fun _ _ _ e => e) f1 ⟨hlen2, out, c, hv2, ho⟩, rfl, q ks H' _ h1 h4⟩
end
section
open PyProof.Rows
variable {X : Cx} {fa : Addr} {fd : FuncData} {ps : List Str} {sp : Sp} {n : Nat} {E : XK}
theorem cr_sortK (F : FnOk X.prog X.w X.K X.mg X.base CX0 n fa fd ps sp) (hr : Room (n + 4) X.A) (hb : Binds X.K fd ps []) : CallRK X (.builtin "sorted") [Str.ofString "key"] (rSortK X.K fa sp false [] E) := by
  intro pins s σ H vs zs us ws Q I r rz h
  obtain ⟨a, xs, kz, R, rfl, rfl, hs, h1, h2, h3, h4, h5, h6, h7, h8⟩ := h
  obtain rfl := Vals.ref1 r
  obtain ⟨w1, rfl, e1⟩ := vals1 rz
  obtain rfl : w1 = Value.ref fa := e1
  exact sortK_run (kz := kz) (R := R) F hr hb I (ksk_s1 _ _) (fun _ => ksk_l1 _ _) (fun _ => ksk_t1 _ _) hs h1 h2 h3 h4 h5 h6 h7 h8
theorem cr_sortKR {b : Bool} (F : FnOk X.prog X.w X.K X.mg X.base CX0 n fa fd ps sp) (hr : Room (n + 4) X.A) (hb : Binds X.K fd ps []) : CallRK X (.builtin "sorted") [Str.ofString "key", Str.ofString "reverse"] (rSortK X.K fa sp b [.bl b] E) := by
  intro pins s σ H vs zs us ws Q I r rz h
  obtain ⟨a, xs, kz, R, rfl, rfl, hs, h1, h2, h3, h4, h5, h6, h7, h8⟩ := h
  obtain rfl := Vals.ref1 r
  obtain ⟨w1, w2, rfl, e1, e2⟩ := vals2 rz
  obtain rfl : w1 = Value.ref fa := e1
  obtain rfl : w2 = Value.bool b := e2
  exact sortK_run (kz := kz) (R := R) F hr hb I (ksk_s2 _ _ _) (fun _ => ksk_l2 _ _ _) (fun _ => ksk_t2 _ _ _) hs h1 h2 h3 h4 h5 h6 h7 h8
end

/-! ### sorted by a key, in the state's words -/
section
open PyProof.Rows
variable {X : Cx} {K : PySem.W.Frag}
def rIxU (K : PySem.W.Frag) : R2 := fun x y H Q => rIxL K x y H Q ∨ rIxT K x y H Q
theorem ixU (K : PySem.W.Frag) (hK : X.K = K := by rfl) : IxR X (rIxU K) := by
  subst hK
  intro value slice pins s σ H x y v u Q I rx ry h hs
  exact h.elim (fun h => ix_list value slice pins s σ H x y v u Q I rx ry h hs) (fun h => ix_tup value slice pins s σ H x y v u Q I rx ry h hs)
end
def mkLe (b : Bool) : MK → MK → Bool := PySem.W.dataLe b MK.kdata
def srt (b : Bool) (ms : List MK) : List MK := ms.mergeSort (mkLe b)
theorem srt_mem {b : Bool} {ms : List MK} {m : MK} : m ∈ srt b ms ↔ m ∈ ms := by unfold srt; exact List.mem_mergeSort
theorem srt_len {b : Bool} {ms : List MK} : (srt b ms).length = ms.length := by unfold srt; exact List.length_mergeSort ms
section
variable {K : PySem.W.Frag} {C : Addr} {H : Hp} {Φ Ψ : List (V × W)} {mt : List (Addr × (HO → Prop))} {a fa : Addr} {ms : List MK} {f : MK → W} {vs : List V}
theorem zip_at : ∀ {vs : List V} {ms : List MK} {j : Nat} {x : V} {m : MK}, vs[j]? = some x → ms[j]? = some m → (x, f m) ∈ vs.zip (ms.map f)
  | v :: vs, m :: ms, 0, x, n, h, h2 => by
    simp only [List.getElem?_cons_zero, Option.some.injEq] at h h2
    subst h h2
    exact List.mem_cons_self
  | v :: vs, m :: ms, j + 1, x, n, h, h2 => by
    simp only [List.getElem?_cons_succ] at h h2
    exact List.mem_cons_of_mem _ (zip_at h h2)
  | [], _, _, _, _, h, _ => by simp at h
  | _ :: _, [], _, _, _, _, h => by simp at h
theorem repl_keys : ∀ {ms : List MK} {ks : List V}, RepL K C H ks (ms.map MK.krow) → DpAll K H ks (ms.map MK.kdata)
  | [], ks, r => by cases r; exact .nil
  | m :: ms, ks, r => by
    cases r with
    | cons h r =>
      refine .cons ?_ (repl_keys r)
      obtain ⟨p, rfl⟩ := isRef_of (w := m.krow) isT h
      exact rep_krow m h
def Sq (w : W) (ws : List W) : Prop := w = .l ws ∨ w = .t ws
theorem S.openQ {w : W} {ws : List W} (s : S K C H Φ mt) (h : (.ref a, w) ∈ Φ) (q : Sq w ws) : ∃ vs, (SqL K H a vs ∨ SqT K H a vs) ∧ vs.length = ws.length ∧ S K C H (vs.zip ws ++ Φ) mt := by
  rcases q with rfl | rfl
  · obtain ⟨vs, h1, h2, h3⟩ := s.open h
    exact ⟨vs, .inl h1, h2, h3⟩
  · obtain ⟨vs, h1, h2, h3⟩ := s.openT h
    exact ⟨vs, .inr h1, h2, h3⟩
theorem g_sortK {sp : Sp} {b : Bool} {zs0 : List V} {E : XK} {Q : VK} {w : W} (s : S K C H Φ mt) (h : (.ref a, w) ∈ Φ) (hw : Sq w (ms.map f))
    (key : ∀ x m Ψ H1, m ∈ ms → (x, f m) ∈ Ψ → S K C H1 Ψ mt → ∀ Q1 : VK, (∀ p H2, S K C H2 ((.ref p, m.krow) :: Ψ) mt → Q1 (.ref p) H2) → sp [x] H1 Q1 E)
    (q : ∀ p us Ψ H', (∀ z ∈ Φ, z ∈ Ψ) → KnL Ψ us ((srt b ms).map f) → S K C H' Ψ ((p, Eq (.lst us)) :: mt) → Q (.ref p) H') : rSortK K fa sp b zs0 E [.ref a] (.ref fa :: zs0) H Q := by
  obtain ⟨vs, hs, hl, s1⟩ := s.openQ h hw
  rw [List.length_map] at hl
  refine ⟨a, vs, ms.map MK.kdata, fun ks H1 => ks.length ≤ ms.length ∧ ∃ Ψ, (∀ z ∈ vs.zip (ms.map f) ++ Φ, z ∈ Ψ) ∧ S K C H1 Ψ mt ∧ KnL Ψ ks ((ms.take ks.length).map MK.krow), rfl, rfl, hs, by rw [List.length_map, hl], ?_, ?_, ?_, ?_, ?_, ?_, ?_⟩
  · intro d hd d' hd'
    obtain ⟨m, _, rfl⟩ := List.mem_map.mp hd
    obtain ⟨n, _, rfl⟩ := List.mem_map.mp hd'
    exact kalike m n
  · refine .inl fun d hd => ?_
    obtain ⟨m, _, rfl⟩ := List.mem_map.mp hd
    exact ⟨_, _, rfl⟩
  · intro d hd
    obtain ⟨m, _, rfl⟩ := List.mem_map.mp hd
    exact kdepth m
  · exact ⟨Nat.zero_le _, _, fun z hz => hz, s1, .nil⟩
  · rintro ks H1 ⟨hk, Ψ, hsub, s2, kn⟩ x hx Q1 q1
    have hj : ks.length < ms.length := by
      have := (List.getElem?_eq_some_iff.mp hx).1
      omega
    refine key x ms[ks.length] Ψ H1 (List.getElem_mem hj) (hsub _ (List.mem_append_left _ (zip_at hx (List.getElem?_eq_getElem hj)))) s2 Q1 fun p H2 s3 => q1 (.ref p) H2 ⟨by rw [List.length_append]; exact hj, _, fun z hz => List.mem_cons_of_mem _ (hsub z hz), s3, ?_⟩
    rw [List.length_append, List.length_singleton, List.take_succ, List.getElem?_eq_getElem hj, List.map_append]
    exact .app (kn.mono fun z hz => List.mem_cons_of_mem _ hz) (.cons (.f List.mem_cons_self) .nil)
  · rintro ks H1 ⟨hk, Ψ, hsub, s2, kn⟩
    rw [← List.map_take]
    exact repl_keys (s2.repL kn)
  · rintro ks H1 p ⟨hk, Ψ, hsub, s2, kn⟩ hp
    have e2 : (vs.zip (ms.map MK.kdata)).mergeSort (PySem.W.dataLe b Prod.snd) = ((vs.zip ms).mergeSort (PySem.W.dataLe b fun z : V × MK => z.2.kdata)).map fun z => (z.1, z.2.kdata) := by
      have := PySem.W.sort_maps (r := PySem.W.dataLe b fun z : V × MK => z.2.kdata) (s := PySem.W.dataLe b Prod.snd) (fun z : V × MK => (z.1, z.2.kdata)) (l := vs.zip ms) (fun _ _ _ _ => rfl)
      rw [this, List.zip_map_right]
      rfl
    have e4 : srt b ms = ((vs.zip ms).mergeSort (PySem.W.dataLe b fun z : V × MK => z.2.kdata)).map Prod.snd := by
      have := PySem.W.sort_maps (r := PySem.W.dataLe b fun z : V × MK => z.2.kdata) (s := mkLe b) Prod.snd (l := vs.zip ms) (fun _ _ _ _ => rfl)
      rw [this, List.map_snd_zip (by omega)]
      rfl
    refine q p _ Ψ _ (fun z hz => hsub z (List.mem_append_right _ hz)) ?_ (s2.addM hp (Ex.new hp) upd_same rfl)
    rw [e2, e4, List.map_map, List.map_map]
    refine KnL.is _ _ _ fun z hz => .f (hsub _ (List.mem_append_left _ ?_))
    rw [List.mem_mergeSort] at hz
    rw [List.zip_map_right]
    exact List.mem_map.mpr ⟨z, hz, rfl⟩
/-- the same, a list that stays -/
theorem g_sortL {sp : Sp} {b : Bool} {zs0 : List V} {E : XK} {Q : VK} {w : W} (s : S K C H Φ mt) (h : (.ref a, w) ∈ Φ) (hw : Sq w (ms.map f))
    (key : ∀ x m Ψ H1, m ∈ ms → (x, f m) ∈ Ψ → S K C H1 Ψ mt → ∀ Q1 : VK, (∀ p H2, S K C H2 ((.ref p, m.krow) :: Ψ) mt → Q1 (.ref p) H2) → sp [x] H1 Q1 E)
    (q : ∀ p H', S K C H' ((.ref p, .l ((srt b ms).map f)) :: Φ) mt → Q (.ref p) H') : rSortK K fa sp b zs0 E [.ref a] (.ref fa :: zs0) H Q :=
  g_sortK s h hw key fun p us Ψ H' hsub kn s' => q p H' ((s'.fixL .hd kn).to (fun z hz => by
    rcases List.mem_cons.mp hz with rfl | hz
    · exact List.mem_cons_self
    · exact List.mem_cons_of_mem _ (hsub z hz)) (List.Sublist.refl _))
instance {r : List V → List V → Hp → VK → Prop} {t tk : TA} {σ : L2.St} {Q : VK} : St1 (tCKw r t tk σ H Q) (t σ H fun vs H1 => tk σ H1 fun zs H2 => r vs zs H2 Q) := ⟨fun h => h⟩
end
/-! ### the order of marks that are in a list: one list, whichever way -/
theorem kE_eq {m n : MK} (okm : m.Ok) (okn : n.Ok) (h : kE m n = true) : m = n := by
  have h1 := (kE_iff m n).mp h
  unfold kE at h
  simp only [Bool.and_eq_true, decide_eq_true_eq] at h
  obtain ⟨a1, a2, a3, a4, a5, a6⟩ := h
  obtain ⟨lt, num, pts, mks, yr, cp⟩ := m
  obtain ⟨lt', num', pts', mks', yr', cp'⟩ := n
  dsimp only at a1 a2 a3 a4 a5 a6
  have hy := okm.y
  have hy' := okn.y
  have hc := okm.c
  have hc' := okn.c
  dsimp only at hy hy' hc hc'
  have e5 : yr = yr' := by
    cases yr with
    | none =>
      cases yr' with
      | none => rfl
      | some j => have := hy' j rfl; simp at a5; omega
    | some i =>
      cases yr' with
      | none => have := hy i rfl; simp at a5; omega
      | some j => simp at a5; rw [a5]
  have e6 : cp = cp' := by
    cases cp with
    | none =>
      cases cp' with
      | none => rfl
      | some j => have := hc' j rfl; simp at a6; omega
    | some i =>
      cases cp' with
      | none => have := hc i rfl; simp at a6; omega
      | some j => simp at a6; rw [a6]
  subst a1 a2 a3 a4 e5 e6
  rfl
theorem rank_toks {b : Bool} {c m : MK} (h : PySem.W.sameRank (mkLe b) c m = true) : PySem.W.keyToks c.kdata = PySem.W.keyToks m.kdata := by
  have key : PyProof.Rows.lexLt itemOrd (PySem.W.keyToks c.kdata) (PySem.W.keyToks m.kdata) = false ∧ PyProof.Rows.lexLt itemOrd (PySem.W.keyToks m.kdata) (PySem.W.keyToks c.kdata) = false := by
    cases b with
    | false =>
      have h : ((!PyProof.Rows.lexLt itemOrd (PySem.W.keyToks m.kdata) (PySem.W.keyToks c.kdata)) && (!PyProof.Rows.lexLt itemOrd (PySem.W.keyToks c.kdata) (PySem.W.keyToks m.kdata))) = true := h
      rw [Bool.and_eq_true, Bool.not_eq_true', Bool.not_eq_true'] at h
      exact ⟨h.2, h.1⟩
    | true =>
      have h : ((!PyProof.Rows.lexLt itemOrd (PySem.W.keyToks c.kdata) (PySem.W.keyToks m.kdata)) && (!PyProof.Rows.lexLt itemOrd (PySem.W.keyToks m.kdata) (PySem.W.keyToks c.kdata))) = true := h
      rw [Bool.and_eq_true, Bool.not_eq_true', Bool.not_eq_true'] at h
      exact ⟨h.1, h.2⟩
  exact PyProof.Rows.lex_total _ _ key.1 key.2
theorem rev_same {α : Type} {l : List α} (h : ∀ x ∈ l, ∀ y ∈ l, x = y) : l.reverse = l := by
  cases l with
  | nil => rfl
  | cons x xs =>
    have : x :: xs = List.replicate (xs.length + 1) x := List.eq_replicate_iff.mpr ⟨rfl, fun y hy => h y hy x List.mem_cons_self⟩
    rw [this, List.reverse_replicate]
theorem srt_rev {ms : List MK} (ok : ∀ m ∈ ms, m.Ok) : srt true ms = (srt false ms).reverse := by
  have tF : PySem.W.TotalLe (mkLe false) := PySem.W.sortLe_total _ false _
  have tT : PySem.W.TotalLe (mkLe true) := PySem.W.sortLe_total _ true _
  refine (PySem.W.sort_unique (m := (srt false ms).reverse) tT ?_ fun c => ?_).symm
  · rw [List.pairwise_reverse]
    exact (PySem.W.sort_pairwise tF ms).imp fun h => h
  · have er : PySem.W.sameRank (mkLe true) = PySem.W.sameRank (mkLe false) := PySem.W.sameRank_rev _ _
    rw [er, List.filter_reverse]
    unfold srt
    rw [PySem.W.sort_stable tF]
    refine rev_same fun x hx y hy => ?_
    obtain ⟨x1, x2⟩ := List.mem_filter.mp hx
    obtain ⟨y1, y2⟩ := List.mem_filter.mp hy
    exact kE_eq (ok x x1) (ok y y1) (toks_inj ((rank_toks x2).symm.trans (rank_toks y2)))

/-! ### marks put in order; the first that is not behind the one ahead -/
def spIno (K : PySem.W.Frag) (C : Addr) : Sp := fun vs H Q _ => ∃ (a : Addr) (b : Bool) (w : W) (ms : List MK) (Φ : List (V × W)) (mt : List (Addr × (HO → Prop))), vs = [.ref a, .bl b] ∧ (.ref a, w) ∈ Φ ∧ Sq w (ms.map W.m) ∧ S K C H Φ mt ∧
  ∀ p us Ψ H', (∀ z ∈ Φ, z ∈ Ψ) → KnL Ψ us ((srt b ms).map W.m) → S K C H' Ψ ((p, Eq (.lst us)) :: mt) → Q (.ref p) H'
def fwI : List MK → Int → Option Int
  | m :: n :: r, k => if PySem.W.dataLt m.kdata n.kdata = true then fwI (n :: r) (k + 1) else some k
  | _, _ => none
def fw (ms : List MK) : Option Int := fwI ms 1
def spFw (K : PySem.W.Frag) (C : Addr) : Sp := fun vs H Q _ => ∃ (a : Addr) (w : W) (ms : List MK) (Φ : List (V × W)) (mt : List (Addr × (HO → Prop))), vs = [.ref a] ∧ (.ref a, w) ∈ Φ ∧ Sq w (ms.map W.m) ∧ ms.length ≤ 10000 ∧ S K C H Φ mt ∧ ∀ H', S K C H' Φ mt → Q (oi (fw ms)) H'
section
variable {K : PySem.W.Frag} {C : Addr} {H : Hp} {Φ : List (V × W)} {mt : List (Addr × (HO → Prop))} {Q : VK} {a p : Addr} {E : XK} {ms : List MK} {w : W} {b : Bool} {m n : MK}
theorem key_m {x : V} (s : S K C H Φ mt) (hx : (x, W.m m) ∈ Φ) (q : ∀ p H2, S K C H2 ((.ref p, m.krow) :: Φ) mt → Q (.ref p) H2) : spKeyS K C [x] H Q E := by
  obtain ⟨p, rfl⟩ := isRef_of isM (s.rep (.f hx))
  exact use_key s hx q
theorem use_ino (s : S K C H Φ mt) (h : (.ref a, w) ∈ Φ) (hw : Sq w (ms.map W.m)) (q : ∀ p H', S K C H' ((.ref p, .l ((srt b ms).map W.m)) :: Φ) mt → Q (.ref p) H') : spIno K C [.ref a, .bl b] H Q E :=
  ⟨a, b, w, ms, Φ, mt, rfl, h, hw, s, fun p us Ψ H' hsub kn s' => q p H' ((s'.fixL .hd kn).to (fun z hz => by
    rcases List.mem_cons.mp hz with rfl | hz
    · exact List.mem_cons_self
    · exact List.mem_cons_of_mem _ (hsub z hz)) (List.Sublist.refl _))⟩
theorem use_fw (s : S K C H Φ mt) (h : (.ref a, w) ∈ Φ) (hw : Sq w (ms.map W.m)) (hz : ms.length ≤ 10000) (q : ∀ H', S K C H' Φ mt → Q (oi (fw ms)) H') : spFw K C [.ref a] H Q E := ⟨a, w, ms, Φ, mt, rfl, h, hw, hz, s, q⟩
theorem g_lenQ' {ws : List W} (s : S K C H Φ mt) (h : (.ref a, w) ∈ Φ) (hw : Sq w ws) (k : Q (.int (ws.length : Int)) H) : rLenS K [.ref a] H Q := by
  rcases hw with rfl | rfl
  · exact g_lenL s h k
  · exact g_lenT s h k
theorem g_ixU {i : Int} {j : Nat} (s : S K C H Φ mt) (h : (.ref a, w) ∈ Φ) (hw : Sq w (ms.map W.m)) (hi : i = (j : Int)) (e : ms[j]? = some m) (k : ∀ q, S K C H ((.ref q, .m m) :: Φ) mt → Q (.ref q) H) : rIxU K (.ref a) (.int i) H Q := by
  subst hi
  have e' : atI (ms.map W.m) (j : Int) = some (.m m) := atI_nat (by rw [List.getElem?_map, e]; rfl)
  rcases hw with rfl | rfl
  · exact .inl (g_ixLr s h e' isM k)
  · exact .inr (g_ixTr s h e' isM k)
end
section
variable {P : Program} {w : World} {K : PySem.W.Frag} {mg : Str → Option Value} {base : Heap} {Z : Adr} {C : Addr}
theorem ok_key (T : Txt K mg Z) : FnOk P w K mg base CX0 2 Z.a_key Z.d_key ["mark"] (spKeyS K Z.C_Mark) := by
  refine T.F_key.ok sc_key (fun vs H Q E h => ?_) (fun cdv A outer s H vs Q E hr h => ?_)
  · obtain ⟨_, _, _, _, rfl, _⟩ := h; rfl
  · obtain ⟨x, m, Φ, mt, rfl, hx, s, kk⟩ := h
    refine ⟨_, (pss_one (ps_ret (pe_meth0 (pv 0) T.cl_Mark T.m_Mark_key (ok_Mark_key T) (hr.mono (by decide)) T.b_Mark_key .nil pass0))), ?_⟩
    kxt_pos
    kopn_word
    exact kk _ _ (by kt_ors)
theorem ok_in_order (T : Txt K mg Z) : FnOk P w K mg base CX0 8 Z.a_in_order Z.d_in_order ["marks", "falling"] (spIno K Z.C_Mark) := by
  refine T.F_in_order.ok sc_in_order (fun vs H Q E h => ?_) (fun cdv A outer s H vs Q E hr h => ?_)
  · obtain ⟨_, _, _, _, _, _, rfl, _⟩ := h; rfl
  · obtain ⟨a, b, w, ms, Φ, mt, rfl, hx, hw, s, kk⟩ := h
    refine ⟨_, (pss_cons (ps_if (pt_val (pv 1)) (pss_one (ps_ret (pe_callBK (cr_sortKR (E := E0) (b := true) (ok_key T) (hr.mono (by decide)) T.b_key) (by rfl) T.n_sorted (by decide +kernel) (pa_cons (pv 0) pa_nil) (pk_cons (pe_glob (v := .ref Z.a_key) rfl T.g_key rfl) (pk_cons pe_bl pk_nil))))) pss_nil)
      (pss_one (ps_ret (pe_callBK (cr_sortK (E := E0) (ok_key T) (hr.mono (by decide)) T.b_key) (by rfl) T.n_sorted (by decide +kernel) (pa_cons (pv 0) pa_nil) (pk_cons (pe_glob (v := .ref Z.a_key) rfl T.g_key rfl) pk_nil))))), ?_⟩
    kxt_pos
    cases b with
    | true =>
      kopn_word
      exact g_sortK s hx hw (fun x m Ψ H1 _ hx s1 Q1 q1 => key_m s1 hx q1) kk
    | false =>
      kopn_word
      exact g_sortK s hx hw (fun x m Ψ H1 _ hx s1 Q1 q1 => key_m s1 hx q1) kk
theorem ok_first_wrong (T : Txt K mg Z) : FnOk P w K mg base CX0 4 Z.a_first_wrong Z.d_first_wrong ["marks"] (spFw K Z.C_Mark) := by
  refine T.F_first_wrong.ok sc_first_wrong (fun vs H Q E h => ?_) (fun cdv A outer s H vs Q E hr h => ?_)
  · obtain ⟨_, _, _, _, _, rfl, _⟩ := h; rfl
  · obtain ⟨a, w, ms, Φ, mt, rfl, hx, hw, hz, s, kk⟩ := h
    refine ⟨_, (pss_cons (ps_for PassesOwn.never rfl (pi_range2 rfl T.n_range (pa_cons pe_int (pa_cons (pe_callB (lenQ K) (by rfl) T.n_len (by decide +kernel) (pa_cons (pv 0) pa_nil)) pa_nil))) (pg_name (i := 1) sc_first_wrong.nd rfl (.inl rfl)) (pss_one (ps_if (pt_not (pt_val (pe_meth (pe_ix (ixU K) (pv 0) (pe_op op_sub (pv 1) pe_int) (fun _ _ => rfl)) T.cl_Mark T.m_Mark_ahead (ok_Mark_ahead T) (hr.mono (by decide)) T.b_Mark_ahead .nil pass0 (pa_cons (pe_ix (ixU K) (pv 0) (pv 1) (fun _ _ => rfl)) pa_nil)))) (pss_one (ps_ret (pv 1))) pss_nil)))
      (pss_one (ps_ret pe_non))), ?_⟩
    kxt_pos
    kopn_word
    refine g_lenQ' s hx hw ?_
    rw [List.length_map]
    kopn_word
    refine g_forR (fun j σ' H' => ∃ v, σ' = [some (.ref a), v] ∧ S K Z.C_Mark H' Φ mt ∧ fwI (ms.drop j) (1 + j) = fw ms) ⟨none, rfl, s, rfl⟩ (fun j σ' H' hj g => ?_) (fun σ' H' g => ?_)
    · obtain ⟨v, rfl, s1, e1⟩ := g
      have h1 : j < ms.length := by omega
      have h2 : j + 1 < ms.length := by omega
      have e2 : ms[j]? = some ms[j] := List.getElem?_eq_getElem h1
      have e3 : ms[j + 1]? = some ms[j + 1] := List.getElem?_eq_getElem h2
      rw [List.drop_eq_getElem_cons h1, List.drop_eq_getElem_cons h2] at e1
      generalize ms[j] = m at e1 e2
      generalize ms[j + 1] = n at e1 e3
      kopn_word
      refine g_ixU s1 hx hw (j := j) (by omega) e2 fun q1 s2 => ?_
      kopn_word
      refine g_ixU s2 (List.mem_cons_of_mem _ hx) hw (j := j + 1) (by omega) e3 fun q2 s3 => ?_
      kopn_word
      refine use_ahe s3 (List.mem_cons_of_mem _ List.mem_cons_self) List.mem_cons_self fun H3 s4 => ⟨_, rfl, ?_⟩
      unfold fwI at e1
      cases hlt : PySem.W.dataLt m.kdata n.kdata with
      | true =>
        rw [hlt, if_pos rfl] at e1
        rw [if_neg (by decide)]
        kopn_word
        refine ⟨_, rfl, by kt_ors, ?_⟩
        rw [List.drop_eq_getElem_cons h2, Option.some.inj ((List.getElem?_eq_getElem h2).symm.trans e3), ← e1]
        congr 1
      | false =>
        rw [hlt, if_neg Bool.false_ne_true] at e1
        rw [if_pos (by decide)]
        kopn_word
        have := kk H3 (by kt_ors)
        rw [← e1] at this
        exact this
    · obtain ⟨v, rfl, s1, e1⟩ := g
      kopn_word
      have hn : fwI (ms.drop ((ms.length : Int) - 1).toNat) (1 + (((ms.length : Int) - 1).toNat : Int)) = none := by
        have hd : (ms.drop ((ms.length : Int) - 1).toNat).length ≤ 1 := by rw [List.length_drop]; omega
        generalize ms.drop ((ms.length : Int) - 1).toNat = l at hd
        match l, hd with
        | [], _ => rfl
        | [_], _ => rfl
        | _ :: _ :: _, h => simp at h
      rw [e1] at hn
      have := kk _ s1
      rw [hn] at this
      exact this
end

/-! ### the law's own draws: cells and rows -/
def spCat (K : PySem.W.Frag) (C : Addr) : Sp := fun vs H Q _ => ∃ (a : Addr) (ns : List Int) (k : Int) (Φ : List (V × W)) (mt : List (Addr × (HO → Prop))), vs = [.ref a, .int k] ∧ (.ref a, .q ns) ∈ Φ ∧ 0 ≤ k ∧ S K C H Φ mt ∧ ∀ (r : Int) H', S K C H' Φ mt → Q (.int r) H'
def spLky (K : PySem.W.Frag) (C : Addr) : Sp := fun vs H Q _ => ∃ (p : Addr) (m : MK) (Φ : List (V × W)) (mt : List (Addr × (HO → Prop))), vs = [.ref p] ∧ (.ref p, m.row) ∈ Φ ∧ S K C H Φ mt ∧ ∀ q H', S K C H' ((.ref q, m.krow) :: Φ) mt → Q (.ref q) H'
def spCells (K : PySem.W.Frag) (C : Addr) : Sp := fun vs H Q _ => ∃ (a : Addr) (ns : List Int) (k : Int) (Φ : List (V × W)) (mt : List (Addr × (HO → Prop))), vs = [.ref a, .int k] ∧ (.ref a, .q ns) ∈ Φ ∧ ns.length ≤ 63 ∧ 0 ≤ k ∧ k ≤ 200 ∧ S K C H Φ mt ∧ ∀ p (xs : List Int) H', (xs.length : Int) = k → S K C H' ((.ref p, .l (xs.map W.i)) :: Φ) mt → Q (.ref p) H'
section
variable {K : PySem.W.Frag} {C : Addr} {H : Hp} {Φ : List (V × W)} {mt : List (Addr × (HO → Prop))} {Q : VK} {a p : Addr} {E : XK} {ns : List Int} {k : Int} {m : MK}
theorem snocI {xs : List Int} {x : Int} (s : S K C H Φ ((p, Eq (HO.lst (xs.map V.int ++ [V.int x]))) :: mt)) : S K C H Φ ((p, Eq (HO.lst ((xs ++ [x]).map V.int))) :: mt) := by
  rw [List.map_append]
  exact s
theorem use_cat (s : S K C H Φ mt) (h : (.ref a, .q ns) ∈ Φ) (h0 : 0 ≤ k) (q : ∀ (r : Int) H', S K C H' Φ mt → Q (.int r) H') : spCat K C [.ref a, .int k] H Q E := ⟨a, ns, k, Φ, mt, rfl, h, h0, s, q⟩
theorem use_lky (s : S K C H Φ mt) (h : (.ref p, m.row) ∈ Φ) (q : ∀ q H', S K C H' ((.ref q, m.krow) :: Φ) mt → Q (.ref q) H') : spLky K C [.ref p] H Q E := ⟨p, m, Φ, mt, rfl, h, s, q⟩
theorem use_cells (s : S K C H Φ mt) (h : (.ref a, .q ns) ∈ Φ) (hn : ns.length ≤ 63) (h0 : 0 ≤ k) (h1 : k ≤ 200) (q : ∀ p (xs : List Int) H', (xs.length : Int) = k → S K C H' ((.ref p, .l (xs.map W.i)) :: Φ) mt → Q (.ref p) H') : spCells K C [.ref a, .int k] H Q E := ⟨a, ns, k, Φ, mt, rfl, h, hn, h0, h1, s, q⟩
end
section
variable {P : Program} {w : World} {K : PySem.W.Frag} {mg : Str → Option Value} {base : Heap} {Z : Adr} {C : Addr}
theorem ok_l_cell_at (T : Txt K mg Z) : FnOk P w K mg base CX0 1 Z.a_l_cell_at Z.d_l_cell_at ["_law_script", "_law_k"] (spCat K Z.C_Mark) := by
  refine T.F_l_cell_at.ok sc_l_cell_at (fun vs H Q E h => ?_) (fun cdv A outer s H vs Q E hr h => ?_)
  · obtain ⟨_, _, _, _, _, rfl, _⟩ := h; rfl
  · obtain ⟨a, ns, k, Φ, mt, rfl, hx, h0, s, kk⟩ := h
    refine ⟨_, (pss_cons (ps_if (pt_cmpR op_lt (pv 1) (pe_callB (lenQ K) (by rfl) T.n_len (by decide +kernel) (pa_cons (pv 0) pa_nil)) (nomark _)) (pss_one (ps_ret (pe_ix (ixL K) (pv 0) (pv 1) (fun _ _ => rfl)))) pss_nil)
      (pss_one (ps_ret pe_int))), ?_⟩
    kxt_pos
    kopn_word
    all_goals exact kk _ _ (by kt_ors)
theorem ok_l_key (T : Txt K mg Z) : FnOk P w K mg base CX0 2 Z.a_l_key Z.d_l_key ["_law_parts_here"] (spLky K Z.C_Mark) := by
  refine T.F_l_key.ok sc_l_key (fun vs H Q E h => ?_) (fun cdv A outer s H vs Q E hr h => ?_)
  · obtain ⟨_, _, _, _, rfl, _⟩ := h; rfl
  · obtain ⟨p, m, Φ, mt, rfl, hp, s, kk⟩ := h
    refine ⟨_, (pss_cons (ps_set (i := 1) sc_l_key.nd rfl (.inl rfl) (pe_ifExp (pt_cmpR op_isNq (pe_ix (ixL K) (pv 0) pe_int (fun _ _ => rfl)) pe_non (nomark _)) pe_int (pe_ix (ixL K) (pv 0) pe_int (fun _ _ => rfl))))
      (pss_cons (ps_set (i := 2) sc_l_key.nd rfl (.inl rfl) (pe_ifExp (pt_cmpR op_isNq (pe_ix (ixL K) (pv 0) pe_int (fun _ _ => rfl)) pe_non (nomark _)) pe_int (pe_ix (ixL K) (pv 0) pe_int (fun _ _ => rfl))))
      (pss_one (ps_ret (pe_tup (pa_cons (pe_ix (ixL K) (pv 0) pe_int (fun _ _ => rfl)) (pa_cons (pe_ix (ixL K) (pv 0) pe_int (fun _ _ => rfl)) (pa_cons (pe_ix (ixL K) (pv 0) pe_int (fun _ _ => rfl)) (pa_cons (pe_callTy (tupK K) (by rfl) T.n_tuple (by decide +kernel) (pa_cons (pe_ix (ixL K) (pv 0) pe_int (fun _ _ => rfl)) pa_nil)) (pa_cons (pv 1) (pa_cons (pv 2) pa_nil))))))))))), ?_⟩
    obtain ⟨lt, num, pts, mks, yr, cp⟩ := m
    change (V.ref p, W.l [.s lt, .i num, .s pts, .l (mks.map W.s), W.o yr, W.o cp]) ∈ Φ at hp
    kxt_pos
    cases yr with
    | none =>
      cases cp with
      | none =>
        change ∀ q H', S K Z.C_Mark H' ((V.ref q, W.t [W.s lt, W.i num, W.s pts, W.t (mks.map W.s), W.i 0, W.i 0]) :: Φ) mt → Q (V.ref q) H' at kk
        kopn_word
        exact kk _ _ (by kt_ors)
      | some c =>
        change ∀ q H', S K Z.C_Mark H' ((V.ref q, W.t [W.s lt, W.i num, W.s pts, W.t (mks.map W.s), W.i 0, W.o (some c)]) :: Φ) mt → Q (V.ref q) H' at kk
        kopn_word
        exact kk _ _ (by kt_ors)
    | some y =>
      cases cp with
      | none =>
        change ∀ q H', S K Z.C_Mark H' ((V.ref q, W.t [W.s lt, W.i num, W.s pts, W.t (mks.map W.s), W.o (some y), W.i 0]) :: Φ) mt → Q (V.ref q) H' at kk
        kopn_word
        exact kk _ _ (by kt_ors)
      | some c =>
        change ∀ q H', S K Z.C_Mark H' ((V.ref q, W.t [W.s lt, W.i num, W.s pts, W.t (mks.map W.s), W.o (some y), W.o (some c)]) :: Φ) mt → Q (V.ref q) H' at kk
        kopn_word
        exact kk _ _ (by kt_ors)
end
local macro_rules | `(tactic| kt_len) => `(tactic| with_reducible first
  | (apply use_cat; (focus (assumption)); (focus (tb_rel)); (focus (first | omega | assumption | kcf_m)); intro _ _ _)
  | (apply use_lky; (focus (assumption)); (focus (tb_rel)); intro _ _ _))
section
variable {P : Program} {w : World} {K : PySem.W.Frag} {mg : Str → Option Value} {base : Heap} {Z : Adr} {C : Addr}
theorem ok_l_cells (T : Txt K mg Z) : FnOk P w K mg base CX0 2 Z.a_l_cells Z.d_l_cells ["_law_script", "_law_count"] (spCells K Z.C_Mark) := by
  refine T.F_l_cells.ok sc_l_cells (fun vs H Q E h => ?_) (fun cdv A outer s H vs Q E hr h => ?_)
  · obtain ⟨_, _, _, _, _, rfl, _⟩ := h; rfl
  · obtain ⟨a, ns, k, Φ, mt, rfl, hx, hn, h0, h1, s, kk⟩ := h
    refine ⟨_, (pss_cons (ps_set (i := 2) sc_l_cells.nd rfl (.inl rfl) (peM (pe_lst pa_nil)))
      (pss_cons (ps_for PassesOwn.never rfl (pi_range1 rfl T.n_range (pa_cons (pv 1) pa_nil)) (pg_name (i := 3) sc_l_cells.nd rfl (.inl rfl)) (pss_cons (ps_set (i := 4) sc_l_cells.nd rfl (.inl rfl) (pe_call (ok_l_cell_at T) (hr.mono (by decide)) rfl T.g_l_cell_at T.F_l_cell_at.kp T.b_l_cell_at .nil pass0 (pa_cons (pv 0) (pa_cons (pe_op op_modN (pv 3) (pe_callB (call_maxq rfl) (by rfl) T.n_max (by decide +kernel) (pa_cons pe_int (pa_cons (pe_callB (lenQ K) (by rfl) T.n_len (by decide +kernel) (pa_cons (pv 0) pa_nil)) pa_nil)))) pa_nil))))
      (pss_cons (ps_if (pt_cmpR op_ge (pv 3) (pe_callB (lenQ K) (by rfl) T.n_len (by decide +kernel) (pa_cons (pv 0) pa_nil)) (nomark _)) (pss_one (ps_set (i := 4) sc_l_cells.nd rfl (.inl rfl) (pe_op op_add (pe_op op_add (pe_op op_mul (pe_op op_mod (pv 4) pe_int) pe_int) (pe_op op_mul (pe_op op_mul (pv 3) (pv 3)) pe_int)) pe_int))) pss_nil)
      (pss_one (ps_expr (bmK K PySem.F.plainAttrs_list PySem.F.slot_list_append PySem.F.type_list_append mt_append (pv 2) (pa_cons (pv 4) pa_nil)))))))
      (pss_one (ps_ret (pv 2))))), ?_⟩
    kxt_pos
    kopn_word
    rename_i p H1 s1
    refine g_forR (fun j σ' H' => ∃ (v3 v4 : Option V) (xs : List Int), σ' = [some (.ref a), some (.int k), some (.ref p), v3, v4] ∧ xs.length = j ∧ S K Z.C_Mark H' Φ ((p, Eq (.lst (xs.map V.int))) :: mt)) ⟨_, _, [], rfl, rfl, s1⟩ (fun j σ' H' hj g => ?_) (fun σ' H' g => ?_)
    · obtain ⟨v3, v4, xs, rfl, hl, s2⟩ := g
      have hj2 : j < 200 := by omega
      have hm : 0 ≤ (0 + (j : Int)).fmod (if (ns.length : Int) > 1 then (ns.length : Int) else 1) := Int.fmod_nonneg_of_pos _ (by split <;> omega)
      kopn_word
      all_goals first
        | exact ⟨_, _, xs ++ [_], rfl, by rw [List.length_append, hl]; rfl, snocI (by assumption)⟩
        | skip
    · obtain ⟨v3, v4, xs, rfl, hl, s2⟩ := g
      kopn_word
      exact kk p xs _ (by omega) (s2.fixL .hd (.is _ V.int W.i fun x _ => .i x))
end

/-! ### rows that are drawn -/
def spRows (K : PySem.W.Frag) (C : Addr) : Sp := fun vs H Q _ => ∃ (a : Addr) (ns : List Int) (k : Int) (Φ : List (V × W)) (mt : List (Addr × (HO → Prop))), vs = [.ref a, .int k] ∧ (.ref a, .q ns) ∈ Φ ∧ ns.length ≤ 63 ∧ 0 ≤ k ∧ k ≤ 200 ∧ S K C H Φ mt ∧ ∀ p (ms : List MK) H', (ms.length : Int) = k → (∀ m ∈ ms, m.Ok) → S K C H' ((.ref p, .l (ms.map MK.row)) :: Φ) mt → Q (.ref p) H'
section
variable {K : PySem.W.Frag} {C : Addr} {H : Hp} {Φ Ψ : List (V × W)} {mt : List (Addr × (HO → Prop))} {Q : VK} {a p b : Addr} {E : XK} {ns : List Int} {k : Int} {m : MK} {ms : List MK} {us : List V} {v : V} {w : W}
theorem use_rows (s : S K C H Φ mt) (h : (.ref a, .q ns) ∈ Φ) (hn : ns.length ≤ 63) (h0 : 0 ≤ k) (h1 : k ≤ 200) (q : ∀ p (ms : List MK) H', (ms.length : Int) = k → (∀ m ∈ ms, m.Ok) → S K C H' ((.ref p, .l (ms.map MK.row)) :: Φ) mt → Q (.ref p) H') : spRows K C [.ref a, .int k] H Q E := ⟨a, ns, k, Φ, mt, rfl, h, hn, h0, h1, s, q⟩
theorem use_neK {r : Int} (s : S K C H Φ mt) (hp : (.ref p, m.row) ∈ Φ) (hb : (b, IsBox) ∈ mt) (h0 : 0 ≤ r) (h6 : r < 6) (ok : m.Ok) (sm : m.Small) (q : ∀ q (m' : MK) H', m'.Ok → m'.Small → S K C H' ((.ref q, m'.row) :: Φ) mt → Q (.ref q) H') : spNeP K C [.ref p, .int r, .ref b] H Q E := by
  obtain ⟨k, rfl⟩ : ∃ k : Nat, r = (k : Int) := ⟨r.toNat, by omega⟩
  exact use_ne s hp hb (by omega) ok sm q
theorem S.learn (s : S K C H Φ mt) (h : Kn Φ v w) : S K C H ((v, w) :: Φ) mt := by
  obtain ⟨⟨kb, h1, h2, h3⟩, d⟩ := s
  exact ⟨⟨kb, h1, fun q hq => by
    rcases List.mem_cons.mp hq with rfl | hq
    · exact h.rep h2
    · exact h2 q hq, h3⟩, d⟩
theorem KnL.len {us : List V} {ws : List W} (h : KnL Φ us ws) : us.length = ws.length := by
  induction h with
  | nil => rfl
  | cons h r ih => rw [List.length_cons, List.length_cons, ih]
  | is ns f g h => rw [List.length_map, List.length_map]
  | app h r i1 i2 => rw [List.length_append, List.length_append, i1, i2]
theorem KnL.get {us : List V} {ws : List W} (h : KnL Φ us ws) : ∀ (j : Nat) (w : W), ws[j]? = some w → ∃ v : V, us[j]? = some v ∧ Kn Φ v w := by
  induction h with
  | nil => intro j w h; simp at h
  | cons h r ih =>
    intro j w e
    cases j with
    | zero => simp at e; subst e; exact ⟨_, rfl, h⟩
    | succ j => simp at e; exact ih j w e
  | is ns f g h =>
    intro j w e
    rw [List.getElem?_map] at e
    obtain ⟨x, hx, rfl⟩ := Option.map_eq_some_iff.mp e
    exact ⟨f x, by rw [List.getElem?_map, hx]; rfl, h x (List.mem_of_getElem? hx)⟩
  | @app vs us ws xs h r i1 i2 =>
    intro j w e
    have hl := h.len
    by_cases hj : j < ws.length
    · rw [List.getElem?_append_left hj] at e
      obtain ⟨v, h1, h2⟩ := i1 j w e
      exact ⟨v, by rw [List.getElem?_append_left (by omega)]; exact h1, h2⟩
    · rw [List.getElem?_append_right (by omega)] at e
      obtain ⟨v, h1, h2⟩ := i2 _ w e
      exact ⟨v, by rw [List.getElem?_append_right (by omega), hl]; exact h1, h2⟩
theorem g_ixC {i : Int} (s : S K C H Ψ mt) (h : (p, Eq (HO.lst us)) ∈ mt) (kn : KnL Φ us (ms.map MK.row)) (ok : ∀ m ∈ ms, m.Ok ∧ m.Small) (sub : ∀ z ∈ Φ, z ∈ Ψ) (h0 : 0 ≤ i) (h1 : i < us.length) (k : ∀ (q : Addr) (m : MK), m.Ok → m.Small → S K C H ((.ref q, m.row) :: Ψ) mt → Q (.ref q) H) : rIxL K (.ref p) (.int i) H Q := by
  obtain ⟨j, rfl⟩ : ∃ j : Nat, i = (j : Int) := ⟨i.toNat, by omega⟩
  have hlen := kn.len
  rw [List.length_map] at hlen
  have hj : j < ms.length := by omega
  obtain ⟨v, hv, kv⟩ := kn.get j (ms[j]).row (by rw [List.getElem?_map, List.getElem?_eq_getElem hj]; rfl)
  have s2 := s.learn (kv.mono sub)
  obtain ⟨q, rfl⟩ := isRef_of isL (s2.rep (.f List.mem_cons_self))
  exact ⟨p, us, _, _, rfl, rfl, sq_of (s.at h), atI_nat hv, k q _ (ok _ (List.getElem_mem hj)).1 (ok _ (List.getElem_mem hj)).2 s2⟩
def RwI (K : PySem.W.Frag) (C : Addr) (Φ : List (V × W)) (rw cl : Addr) (ws : List W) (mt : List (Addr × (HO → Prop))) (j : Nat) (H' : Hp) : Prop :=
  ∃ (us : List V) (ms : List MK) (Ψ : List (V × W)), ms.length = j ∧ (∀ m ∈ ms, m.Ok ∧ m.Small) ∧ (∀ z ∈ Φ, z ∈ Ψ) ∧ (.ref cl, .l ws) ∈ Ψ ∧ KnL Ψ us (ms.map MK.row) ∧ S K C H' Ψ ((rw, Eq (HO.lst us)) :: mt)
theorem rw_snoc {rw cl q : Addr} {ws : List W} {j : Nat} {Θ : List (V × W)} {X : Addr × (HO → Prop)} (hl : ms.length = j) (ok : ∀ m ∈ ms, m.Ok ∧ m.Small) (hsub : ∀ z ∈ Φ, z ∈ Ψ) (hcl : (.ref cl, .l ws) ∈ Ψ) (kn : KnL Ψ us (ms.map MK.row))
    (s : S K C H Θ (X :: (rw, Eq (HO.lst (us ++ [.ref q]))) :: mt)) (hm : (.ref q, m.row) ∈ Θ) (ok1 : m.Ok) (ok2 : m.Small) (sub : ∀ z ∈ Ψ, z ∈ Θ) : RwI K C Φ rw cl ws mt (j + 1) H := by
  refine ⟨us ++ [.ref q], ms ++ [m], Θ, by rw [List.length_append, hl]; rfl, fun n hn => ?_, fun z hz => sub z (hsub z hz), sub _ hcl, ?_, s.to (fun z hz => hz) (List.sublist_cons_self ..)⟩
  · rcases List.mem_append.mp hn with h | h
    · exact ok n h
    · rw [List.mem_singleton.mp h]; exact ⟨ok1, ok2⟩
  · rw [List.map_append]
    exact .app (kn.mono sub) (.cons (.f hm) .nil)
/-! a list of rows, compared with the empty one -/
abbrev MK.rdata (m : MK) : PyData := m.row.data
theorem row_dp {v : V} (r : Rep K C H v m.row) : Dp K H v m.rdata := rep_dp r (by
  cases m with
  | mk lt num pts mks yr cp => cases yr <;> cases cp <;> simp [MK.row, W.plain, W.plains, plains_strs, W.o])
theorem rows_dp : ∀ {ms : List MK} {us : List V}, RepL K C H us (ms.map MK.row) → DpAll K H us (ms.map MK.rdata)
  | [], us, r => by cases r; exact .nil
  | m :: ms, us, r => by cases r with | cons h r => exact .cons (row_dp h) (rows_dp r)
theorem row_lay (ok : m.Ok) : m.rdata.canLay0 = true ∧ m.rdata.depth ≤ 10 := by
  have h1 := strOk_of (letters_in ok.l) abc_ok
  have h2 := points_str ok.p
  have h3 := lay_strs m.mks fun s hs => maker_str (ok.ks s hs).1
  cases m with
  | mk lt num pts mks yr cp =>
    dsimp only at h1 h2 h3
    cases yr <;> cases cp <;> simp [MK.rdata, MK.row, W.o, W.data, W.datas, datas_strs, PyData.canLay0, PyData.canLayAll0, h1, h2, h3, PyData.depth, PyData.depthAll, depth_strs]
theorem rows_lay : ∀ {ms : List MK}, (∀ m ∈ ms, m.Ok) → PyData.canLayAll0 (ms.map MK.rdata) = true ∧ PyData.depthAll (ms.map MK.rdata) ≤ 10
  | [], _ => ⟨by simp [PyData.canLayAll0], by simp [PyData.depthAll]⟩
  | m :: ms, h => by
    have h1 := row_lay (h m List.mem_cons_self)
    have h2 := rows_lay fun n hn => h n (List.mem_cons_of_mem _ hn)
    exact ⟨by rw [List.map_cons, PyData.canLayAll0, h1.1, h2.1]; rfl, by rw [List.map_cons, PyData.depthAll]; omega⟩
theorem rows_shaped (ok : ∀ m ∈ ms, m.Ok) : SeqAt.shaped (.list (ms.map MK.rdata)) = true := by
  obtain ⟨h1, h2⟩ := rows_lay ok
  unfold SeqAt.shaped
  rw [PyData.canLay0, h1, decide_eq_true (by rw [PyData.depth]; omega)]
  rfl
theorem nil_shaped : SeqAt.shaped (.list []) = true := by decide +kernel
theorem g_neNil {q : Addr} (s : S K C H Ψ mt) (h : (p, Eq (HO.lst us)) ∈ mt) (h2 : (.ref q, .l []) ∈ Ψ) (kn : KnL Φ us (ms.map MK.row)) (sub : ∀ z ∈ Φ, z ∈ Ψ) (ok : ∀ m ∈ ms, m.Ok) (k1 : ms = [] → Q (.bl false) H) (k2 : 0 < ms.length → Q (.bl true) H) : rNeD K (.ref p) (.ref q) H Q := by
  refine ⟨.list (ms.map MK.rdata), .list [], .lst (sq_of (s.at h)) (rows_dp (s.repL (kn.mono sub))), ?_, rows_shaped ok, nil_shaped, ?_⟩
  · obtain ⟨vs, g1, g2, _⟩ := s.open h2
    obtain rfl : vs = [] := List.eq_nil_of_length_eq_zero g2
    exact .lst g1 .nil
  · cases ms with
    | nil => rw [show PyData.eqv (.list (List.map MK.rdata [])) (.list []) = true by decide +kernel]; exact k1 rfl
    | cons m ms => rw [show PyData.eqv (.list (List.map MK.rdata (m :: ms))) (.list []) = false by simp [PyData.eqv, PyData.eqvAll]]; exact k2 (by simp)
theorem g_eqNil {q : Addr} (s : S K C H Ψ mt) (h : (p, Eq (HO.lst us)) ∈ mt) (h2 : (.ref q, .l []) ∈ Ψ) (kn : KnL Φ us (ms.map MK.row)) (sub : ∀ z ∈ Φ, z ∈ Ψ) (ok : ∀ m ∈ ms, m.Ok) (k1 : ms = [] → Q (.bl true) H) (k2 : 0 < ms.length → Q (.bl false) H) : rEqD K (.ref p) (.ref q) H Q := by
  refine ⟨.list (ms.map MK.rdata), .list [], .lst (sq_of (s.at h)) (rows_dp (s.repL (kn.mono sub))), ?_, rows_shaped ok, nil_shaped, ?_⟩
  · obtain ⟨vs, g1, g2, _⟩ := s.open h2
    obtain rfl : vs = [] := List.eq_nil_of_length_eq_zero g2
    exact .lst g1 .nil
  · cases ms with
    | nil => rw [show PyData.eqv (.list (List.map MK.rdata [])) (.list []) = true by decide +kernel]; exact k1 rfl
    | cons m ms => rw [show PyData.eqv (.list (List.map MK.rdata (m :: ms))) (.list []) = false by simp [PyData.eqv, PyData.eqvAll]]; exact k2 (by simp)
end
local macro_rules | `(tactic| kt_at_get) => `(tactic| with_reducible first
  | refine st_go ?_
  | ((show rNeD _ _ _ _ _); apply g_neNil; (focus (assumption)); (focus (tb_rel)); (focus (tb_rel)); (focus (assumption)); (focus (kt_at_notin)); (focus (assumption)); all_goals (intro _))
  | ((show rEqD _ _ _ _ _); apply g_eqNil; (focus (assumption)); (focus (tb_rel)); (focus (tb_rel)); (focus (assumption)); (focus (kt_at_notin)); (focus (assumption)); all_goals (intro _))
  | ((show rIxL _ _ _ _ _); apply g_ixC; (focus (assumption)); (focus (tb_rel)); (focus (assumption)); (focus (assumption)); (focus (kt_at_notin)); (focus (first | omega | (apply Int.fmod_nonneg_of_pos; omega))); (focus (first | omega | (apply Int.fmod_lt_of_pos; omega))); intro _ _ _ _ _))
local macro_rules | `(tactic| kt_len) => `(tactic| with_reducible first
  | (apply use_neK; (focus (assumption)); (focus (tb_rel)); (focus (tb_rel)); (focus (omega)); (focus (omega)); (focus (assumption)); (focus (assumption)); intro _ _ _ _ _ _)
  | (apply use_cells; (focus (assumption)); (focus (tb_rel)); (focus (assumption)); (focus (omega)); (focus (omega)); intro _ _ _ _ _)
  | (apply use_pool; (focus (assumption)); intro _ _ _)
  | (apply use_take; (focus (assumption)); (focus (tb_rel)); (focus (kcf_m)); (focus (kcf_m)); intro _ _ _ _ _)
  | (apply use_mrk; (focus (assumption)); (focus (tb_rel)); (focus (assumption)); intro _ _ _)
  | (apply use_par; (focus (assumption)); (focus (tb_rel)); intro _ _ _ _ _ _))
section
variable {P : Program} {w : World} {K : PySem.W.Frag} {mg : Str → Option Value} {base : Heap} {Z : Adr} {C : Addr}
theorem ok_l_rows (T : Txt K mg Z) : FnOk P w K mg base CX0 6 Z.a_l_rows Z.d_l_rows ["_law_script", "_law_count"] (spRows K Z.C_Mark) := by
  refine T.F_l_rows.ok sc_l_rows (fun vs H Q E h => ?_) (fun cdv A outer s H vs Q E hr h => ?_)
  · obtain ⟨_, _, _, _, _, rfl, _⟩ := h; rfl
  · obtain ⟨a, ns, k, Φ, mt, rfl, hx, hn, h0, h1, s, kk⟩ := h
    refine ⟨_, (pss_cons (ps_set (i := 2) sc_l_rows.nd rfl (.inl rfl) (peM (pe_lst pa_nil)))
      (pss_cons (ps_for PassesOwn.never rfl (pi_list (pe_call (ok_l_cells T) (hr.mono (by decide)) rfl T.g_l_cells T.F_l_cells.kp T.b_l_cells .nil pass0 (pa_cons (pv 0) (pa_cons (pv 1) pa_nil)))) (pg_name (i := 3) sc_l_rows.nd rfl (.inl rfl)) (pss_cons (ps_set (i := 4) sc_l_rows.nd rfl (.inl rfl) (pe_call (ok_l_pool T) (hr.mono (by decide)) rfl T.g_l_pool T.F_l_pool.kp T.b_l_pool .nil pass0 (pa_cons (pv 3) pa_nil)))
      (pss_cons (ps_set (i := 5) sc_l_rows.nd rfl (.inl rfl) (pe_call (ok_l_take T) (hr.mono (by decide)) rfl T.g_l_take T.F_l_take.kp T.b_l_take .nil pass0 (pa_cons (pv 4) (pa_cons pe_int pa_nil))))
      (pss_cons (ps_set (i := 6) sc_l_rows.nd rfl (.inl rfl) (pe_call (ok_l_take T) (hr.mono (by decide)) rfl T.g_l_take T.F_l_take.kp T.b_l_take .nil pass0 (pa_cons (pv 4) (pa_cons pe_int pa_nil))))
      (pss_cons (ps_set (i := 7) sc_l_rows.nd rfl (.inl rfl) (pe_call (ok_l_take T) (hr.mono (by decide)) rfl T.g_l_take T.F_l_take.kp T.b_l_take .nil pass0 (pa_cons (pv 4) (pa_cons pe_int pa_nil))))
      (pss_cons (ps_set (i := 8) sc_l_rows.nd rfl (.inl rfl) (pe_call (ok_l_parts T) (hr.mono (by decide)) rfl T.g_l_parts T.F_l_parts.kp T.b_l_parts .nil pass0 (pa_cons (pv 4) pa_nil)))
      (pss_cons (ps_if (PW.pt (pw_and (pt_cmpR (neDK K hr.units) (pv 2) (pe_lst pa_nil) (nomark _)) (pw_and1 (pt_cmpR op_eq (pv 5) pe_int (nomark _))))) (pss_one (ps_set (i := 8) sc_l_rows.nd rfl (.inl rfl) (pe_call (ok_l_near T) (hr.mono (by decide)) rfl T.g_l_near T.F_l_near.kp T.b_l_near .nil pass0 (pa_cons (pe_ix (ixL K) (pv 2) (pe_op op_modN (pv 6) (pe_callB (lenQ K) (by rfl) T.n_len (by decide +kernel) (pa_cons (pv 2) pa_nil))) (fun _ _ => rfl)) (pa_cons (pv 7) (pa_cons (pv 4) pa_nil)))))) pss_nil)
      (pss_cons (ps_if (PW.pt (pw_and (pt_cmpR (neDK K hr.units) (pv 2) (pe_lst pa_nil) (nomark _)) (pw_and1 (pt_cmpR op_eq (pv 5) pe_int (nomark _))))) (pss_one (ps_set (i := 8) sc_l_rows.nd rfl (.inl rfl) (pe_callTy (listK K) (by rfl) T.n_list (by decide +kernel) (pa_cons (pe_ix (ixL K) (pv 2) (pe_op op_modN (pv 6) (pe_callB (lenQ K) (by rfl) T.n_len (by decide +kernel) (pa_cons (pv 2) pa_nil))) (fun _ _ => rfl)) pa_nil)))) pss_nil)
      (pss_one (ps_expr (bmK K PySem.F.plainAttrs_list PySem.F.slot_list_append PySem.F.type_list_append mt_append (pv 2) (pa_cons (pv 8) pa_nil))))))))))))
      (pss_one (ps_ret (pv 2))))), ?_⟩
    kxt_pos
    kopn_word
    rename_i rw H1 s1 cl xs H2 hxl s2
    refine g_forL (K := K) (C := Z.C_Mark) (ws := xs.map W.i) (fun j σ' H' => ∃ (v3 v4 v5 v6 v7 v8 : Option V), σ' = [some (.ref a), some (.int k), some (.ref rw), v3, v4, v5, v6, v7, v8] ∧ RwI K Z.C_Mark Φ rw cl (xs.map W.i) mt j H') ⟨_, _, _, _, _, _, rfl, [], [], _, rfl, (fun _ h => nomatch h), fun z hz => List.mem_cons_of_mem _ hz, List.mem_cons_self, .nil, s2⟩ (fun j σ' H' g => ?_) (fun j w v σ' H' hj g gr => ?_) (fun σ' H' g => ?_)
    · obtain ⟨_, _, _, _, _, _, _, us, ms, Ψ, _, _, _, h5, _, s3⟩ := g
      exact ⟨Ψ, _, s3, h5⟩
    · obtain ⟨v3, v4, v5, v6, v7, v8, rfl, us, ms, Ψ, hl, hok, hsub, hcl, kn, s3⟩ := g
      have s5 := gr _ _ s3 hcl
      have hjl : j < 200 := by
        have := (List.getElem?_eq_some_iff.mp hj).1
        rw [List.length_map] at this
        omega
      obtain ⟨n, rfl⟩ : ∃ n, v = .int n := by
        rw [List.getElem?_map] at hj
        obtain ⟨x, hx, rfl⟩ := Option.map_eq_some_iff.mp hj
        cases s5.rep (.f List.mem_cons_self) with | i => exact ⟨_, rfl⟩
      clear s5 gr hj
      have hok1 : ∀ m ∈ ms, m.Ok := fun m hm => (hok m hm).1
      have hul : us.length = ms.length := by have := kn.len; rwa [List.length_map] at this
      kopn_word
      all_goals first
        | exact ⟨_, _, _, _, _, _, rfl, rw_snoc hl hok hsub hcl kn (by assumption) (by tb_rel) (by assumption) (by assumption) (by kt_at_notin)⟩
        | skip
    · obtain ⟨v3, v4, v5, v6, v7, v8, rfl, us, ms, Ψ, hl, hok, hsub, hcl, kn, s3⟩ := g
      kopn_word
      rw [List.length_map] at hl
      exact kk rw ms _ (by omega) (fun m hm => (hok m hm).1) ((s3.fixL .hd kn).to (fun z hz => by
        rcases List.mem_cons.mp hz with rfl | hz
        · exact List.mem_cons_self
        · exact List.mem_cons_of_mem _ (hsub z hz)) (List.Sublist.refl _))
end

/-! ### once each; the same marks -/
section
variable {X : Cx}
def rGeD (K : PySem.W.Frag) : R2 := fun x y H Q => ∃ d e, Dp K H x d ∧ Dp K H y e ∧ PySem.W.alike d e = true ∧ d ≠ .none ∧ d.depth ≤ 60 ∧ Q (.bl (!PySem.W.dataLt d e)) H
theorem op_geD (K : PySem.W.Frag) (hu : X.A.units + 64 < cLine) (hK : X.K = K := by rfl) : OpR X (compareOp .GtE) (rGeD K) := by
  subst hK
  intro pins s σ H x y v u Q I rx ry h
  obtain ⟨d, e, hd, he, ha, hn, hdp, q⟩ := h
  obtain ⟨as, r1⟩ := Dp.reads I d x v hd rx
  obtain ⟨bs, r2⟩ := Dp.reads I e y u he ry
  show wpAny _ _ (richCompare .GtE v u) _ _ _
  exact PySem.W.rcGe_alike d e X.A s v u as bs r1 r2 ha hn (by omega) _ _ _ _ ⟨.bl _, H, I, rfl, q⟩
end
def spOnc (K : PySem.W.Frag) (C : Addr) : Sp := fun vs H Q _ => ∃ (a : Addr) (ms : List MK) (Φ : List (V × W)) (mt : List (Addr × (HO → Prop))), vs = [.ref a] ∧ (.ref a, .l (ms.map MK.row)) ∈ Φ ∧ (∀ m ∈ ms, m.Ok) ∧ ms.length ≤ 10000 ∧ S K C H Φ mt ∧ ∀ p (ns : List MK) H', (∀ m ∈ ns, m.Ok) → ns.length ≤ ms.length → S K C H' ((.ref p, .l (ns.map MK.row)) :: Φ) mt → Q (.ref p) H'
def LL (K : PySem.W.Frag) (C : Addr) (Φ : List (V × W)) (mt : List (Addr × (HO → Prop))) (a : Addr) (ws : List W) : Prop := ∀ H Ψ, (∀ z ∈ Φ, z ∈ Ψ) → S K C H Ψ mt → ∃ vs, H a = some (.lst vs) ∧ vs.length = ws.length ∧ S K C H (vs.zip ws ++ Ψ) mt
def spSam (K : PySem.W.Frag) (C : Addr) : Sp := fun vs H Q _ => ∃ (a d : Addr) (ms : List MK) (Φ : List (V × W)) (mt : List (Addr × (HO → Prop))), vs = [.ref a, .ref d] ∧ LL K C Φ mt a (ms.map W.m) ∧ (.ref d, .l (ms.map MK.row)) ∈ Φ ∧ (∀ m ∈ ms, m.Ok) ∧ S K C H Φ mt ∧ ∀ H', S K C H' Φ mt → Q (.bl true) H'
section
variable {K : PySem.W.Frag} {C : Addr} {H : Hp} {Φ Ψ : List (V × W)} {mt : List (Addr × (HO → Prop))} {Q : VK} {a p b d : Addr} {E : XK} {m : MK} {ms ns : List MK} {us : List V} {v : V} {w : W} {ws : List W}
theorem use_onc (s : S K C H Φ mt) (h : (.ref a, .l (ms.map MK.row)) ∈ Φ) (ok : ∀ m ∈ ms, m.Ok) (hz : ms.length ≤ 10000) (q : ∀ p (ns : List MK) H', (∀ m ∈ ns, m.Ok) → ns.length ≤ ms.length → S K C H' ((.ref p, .l (ns.map MK.row)) :: Φ) mt → Q (.ref p) H') : spOnc K C [.ref a] H Q E := ⟨a, ms, Φ, mt, rfl, h, ok, hz, s, q⟩
theorem ll_f (h : (.ref a, .l ws) ∈ Φ) : LL K C Φ mt a ws := fun H Ψ hs s => s.openH (hs _ h)
theorem knl_mem {vs : List V} {ws : List W} (h : KnL Φ vs ws) : ∀ q ∈ vs.zip ws, Kn Φ q.1 q.2 := by
  intro q hq
  obtain ⟨j, hj⟩ := List.mem_iff_getElem?.mp hq
  rw [List.getElem?_zip_eq_some] at hj
  obtain ⟨v, h1, h2⟩ := h.get j q.2 hj.2
  rw [hj.1] at h1
  cases h1
  exact h2
theorem S.learnL {vs : List V} {ws : List W} (s : S K C H Φ mt) (h : ∀ q ∈ vs.zip ws, Kn Φ q.1 q.2) : S K C H (vs.zip ws ++ Φ) mt := by
  obtain ⟨⟨kb, h1, h2, h3⟩, d⟩ := s
  exact ⟨⟨kb, h1, fun q hq => (List.mem_append.mp hq).elim (fun hq => (h q hq).rep h2) (h2 q), h3⟩, d⟩
theorem ll_c (h : (a, Eq (HO.lst us)) ∈ mt) (kn : KnL Φ us ws) : LL K C Φ mt a ws := fun H Ψ hs s => ⟨us, s.at h, kn.len, s.learnL fun q hq => (knl_mem kn q hq).mono hs⟩
theorem use_sam (s : S K C H Φ mt) (h : LL K C Φ mt a (ms.map W.m)) (h2 : (.ref d, .l (ms.map MK.row)) ∈ Φ) (ok : ∀ m ∈ ms, m.Ok) (q : ∀ H', S K C H' Φ mt → Q (.bl true) H') : spSam K C [.ref a, .ref d] H Q E := ⟨a, d, ms, Φ, mt, rfl, h, h2, ok, s, q⟩
theorem g_ixC1 (s : S K C H Ψ mt) (h : (p, Eq (HO.lst us)) ∈ mt) (kn : KnL Φ us (ns.map MK.row)) (ok : ∀ m ∈ ns, m.Ok) (sub : ∀ z ∈ Φ, z ∈ Ψ) (h1 : 0 < us.length) (k : ∀ (q : Addr) (m : MK), m.Ok → S K C H ((.ref q, m.row) :: Ψ) mt → Q (.ref q) H) : rIxL K (.ref p) (.int (-1)) H Q := by
  have hlen := kn.len
  rw [List.length_map] at hlen
  have hj : ns.length - 1 < ns.length := by omega
  obtain ⟨v, hv, kv⟩ := kn.get (ns.length - 1) (ns[ns.length - 1]).row (by rw [List.getElem?_map, List.getElem?_eq_getElem hj]; rfl)
  have s2 := s.learn (kv.mono sub)
  obtain ⟨q, rfl⟩ := isRef_of isL (s2.rep (.f List.mem_cons_self))
  refine ⟨p, us, _, _, rfl, rfl, sq_of (s.at h), ?_, k q _ (ok _ (List.getElem_mem hj)) s2⟩
  have e : us.length - 1 = ns.length - 1 := by omega
  refine atI_mk (j := ns.length - 1) ?_ hv
  unfold ixN
  rw [if_neg (by decide), if_pos (by omega)]
  congr 1
  omega
theorem g_geK {x y : Addr} {m n : MK} (s : S K C H Φ mt) (h : (.ref x, m.krow) ∈ Φ) (h2 : (.ref y, n.krow) ∈ Φ) (k : Q (.bl (!PySem.W.dataLt m.kdata n.kdata)) H) : rGeD K (.ref x) (.ref y) H Q :=
  ⟨m.kdata, n.kdata, rep_krow m (s.rep (.f h)), rep_krow n (s.rep (.f h2)), kalike m n, (fun z => by unfold MK.kdata at z; cases z), kdepth m, k⟩
def OnI (K : PySem.W.Frag) (C : Addr) (Φ : List (V × W)) (rw : Addr) (mt : List (Addr × (HO → Prop))) (j : Nat) (H' : Hp) : Prop :=
  ∃ (us : List V) (ns : List MK) (Ψ : List (V × W)), ns.length ≤ j ∧ (∀ m ∈ ns, m.Ok) ∧ (∀ z ∈ Φ, z ∈ Ψ) ∧ KnL Ψ us (ns.map MK.row) ∧ S K C H' Ψ ((rw, Eq (HO.lst us)) :: mt)
theorem on_snoc {rw q : Addr} {j : Nat} {Θ : List (V × W)} (hl : ns.length ≤ j) (ok : ∀ m ∈ ns, m.Ok) (hsub : ∀ z ∈ Φ, z ∈ Ψ) (kn : KnL Ψ us (ns.map MK.row))
    (s : S K C H Θ ((rw, Eq (HO.lst (us ++ [.ref q]))) :: mt)) (hm : (.ref q, m.row) ∈ Θ) (ok1 : m.Ok) (sub : ∀ z ∈ Ψ, z ∈ Θ) : OnI K C Φ rw mt (j + 1) H := by
  refine ⟨us ++ [.ref q], ns ++ [m], Θ, by rw [List.length_append, List.length_singleton]; omega, fun n hn => ?_, fun z hz => sub z (hsub z hz), ?_, s⟩
  · rcases List.mem_append.mp hn with h | h
    · exact ok n h
    · rw [List.mem_singleton.mp h]; exact ok1
  · rw [List.map_append]
    exact .app (kn.mono sub) (.cons (.f hm) .nil)
theorem on_same {rw : Addr} {j : Nat} {Θ : List (V × W)} (hl : ns.length ≤ j) (ok : ∀ m ∈ ns, m.Ok) (hsub : ∀ z ∈ Φ, z ∈ Ψ) (kn : KnL Ψ us (ns.map MK.row))
    (s : S K C H Θ ((rw, Eq (HO.lst us)) :: mt)) (sub : ∀ z ∈ Ψ, z ∈ Θ) : OnI K C Φ rw mt (j + 1) H :=
  ⟨us, ns, Θ, by omega, ok, fun z hz => sub z (hsub z hz), kn.mono sub, s⟩
end
local macro_rules | `(tactic| kt_at_get) => `(tactic| with_reducible first
  | refine st_go ?_
  | ((show rGeD _ _ _ _ _); apply g_geK; (focus (assumption)); (focus (tb_rel)); (focus (tb_rel)))
  | ((show rIxL _ _ _ _ _); apply g_ixC1; (focus (assumption)); (focus (tb_rel)); (focus (assumption)); (focus (assumption)); (focus (kt_at_notin)); (focus (omega)); intro _ _ _ _))
section
variable {P : Program} {w : World} {K : PySem.W.Frag} {mg : Str → Option Value} {base : Heap} {Z : Adr} {C : Addr}
theorem ok_l_once (T : Txt K mg Z) : FnOk P w K mg base CX0 4 Z.a_l_once Z.d_l_once ["_law_rows_here"] (spOnc K Z.C_Mark) := by
  refine T.F_l_once.ok sc_l_once (fun vs H Q E h => ?_) (fun cdv A outer s H vs Q E hr h => ?_)
  · obtain ⟨_, _, _, _, rfl, _⟩ := h; rfl
  · obtain ⟨a, ms, Φ, mt, rfl, hx, hok, hz, s, kk⟩ := h
    refine ⟨_, (pss_cons (ps_set (i := 1) sc_l_once.nd rfl (.inl rfl) (peM (pe_lst pa_nil)))
      (pss_cons (ps_for PassesOwn.never rfl (pi_list (pv 0)) (pg_name (i := 2) sc_l_once.nd rfl (.inl rfl)) (pss_one (ps_if (PW.pt (pw_or (pt_cmpR (eqDK K hr.units) (pv 1) (pe_lst pa_nil) (nomark _)) (pw_or1 (pt_cmpR (neDK K hr.units) (pe_call (ok_l_key T) (hr.mono (by decide)) rfl T.g_l_key T.F_l_key.kp T.b_l_key .nil pass0 (pa_cons (pe_ix (ixL K) (pv 1) (pe_un un_neg pe_int) (fun _ _ => rfl)) pa_nil)) (pe_call (ok_l_key T) (hr.mono (by decide)) rfl T.g_l_key T.F_l_key.kp T.b_l_key .nil pass0 (pa_cons (pv 2) pa_nil)) (nomark _))))) (pss_one (ps_expr (bmK K PySem.F.plainAttrs_list PySem.F.slot_list_append PySem.F.type_list_append mt_append (pv 1) (pa_cons (pv 2) pa_nil)))) pss_nil)))
      (pss_one (ps_ret (pv 1))))), ?_⟩
    kxt_pos
    kopn_word
    rename_i rw H1 s1
    refine g_forL (K := K) (C := Z.C_Mark) (ws := ms.map MK.row) (fun j σ' H' => ∃ (v2 : Option V), σ' = [some (.ref a), some (.ref rw), v2] ∧ OnI K Z.C_Mark Φ rw mt j H') ⟨_, rfl, [], [], _, Nat.le_refl _, (fun _ h => nomatch h), fun z hz => hz, .nil, s1⟩ (fun j σ' H' g => ?_) (fun j w v σ' H' hj g gr => ?_) (fun σ' H' g => ?_)
    · obtain ⟨_, _, us, ns, Ψ, _, _, h5, _, s3⟩ := g
      exact ⟨Ψ, _, s3, h5 _ hx⟩
    · obtain ⟨v2, rfl, us, ns, Ψ, hl, hon, hsub, kn, s3⟩ := g
      have s5 := gr _ _ s3 (hsub _ hx)
      have hjl : j < 10000 := by
        have := (List.getElem?_eq_some_iff.mp hj).1
        rw [List.length_map] at this
        omega
      rw [List.getElem?_map] at hj
      obtain ⟨m, hm, rfl⟩ := Option.map_eq_some_iff.mp hj
      have okm : m.Ok := hok m (List.mem_of_getElem? hm)
      obtain ⟨q, rfl⟩ := isRef_of isL (s5.rep (.f List.mem_cons_self))
      clear s3 gr hj hm
      have hul : us.length = ns.length := by have := kn.len; rwa [List.length_map] at this
      kopn_word
      all_goals first
        | exact ⟨_, rfl, on_snoc hl hon hsub kn (by assumption) (by tb_rel) okm (by kt_at_notin)⟩
        | exact ⟨_, rfl, on_same hl hon hsub kn (by assumption) (by kt_at_notin)⟩
        | skip
    · obtain ⟨v2, rfl, us, ns, Ψ, hl, hon, hsub, kn, s3⟩ := g
      kopn_word
      rw [List.length_map] at hl
      exact kk rw ns _ hon hl ((s3.fixL .hd kn).to (fun z hz => by
        rcases List.mem_cons.mp hz with rfl | hz
        · exact List.mem_cons_self
        · exact List.mem_cons_of_mem _ (hsub z hz)) (List.Sublist.refl _))
end

/-! ### the same marks; the first wrong one -/
section
variable {K : PySem.W.Frag} {C : Addr} {σ : L2.St} {H : Hp} {Φ Ψ : List (V × W)} {mt : List (Addr × (HO → Prop))} {Q : VK} {D : Ends} {tb : TS} {te : TE} {a p b d : Addr} {E : XK} {m : MK} {ms ns : List MK} {us : List V} {v : V} {w : W} {ws : List W} {i1 i2 : Nat}
theorem g_isiLL {r : Bool} (s : S K C H Φ mt) (h : LL K C Φ mt a ws) (e : PySem.W.kitOne K (.type "list") (.type "list") = some r) (k : Q (.bl r) H) : rIsi K [.ref a, .ty "list"] H Q := by
  obtain ⟨vs, h1, _⟩ := h H Φ (fun _ h => h) s
  exact ⟨_, _, _, _, r, rfl, .ty _, .base (.lst h1), e, k⟩
theorem g_lenLL (s : S K C H Φ mt) (h : LL K C Φ mt a ws) (k : Q (.int (ws.length : Int)) H) : rLenS K [.ref a] H Q := by
  obtain ⟨vs, h1, h2, _⟩ := h H Φ (fun _ h => h) s
  exact ⟨a, _, rfl, .inl (sq_of h1), by rw [h2]; exact k⟩
theorem g_neSelf {x y : Addr} (s : S K C H Φ mt) (hx : (.ref x, .m m) ∈ Φ) (hy : (.ref y, .m m) ∈ Φ) (k : ∀ H', S K C H' Φ mt → Q (.bl false) H') : rNeW C (spEqS K C) E (.ref x) (.ref y) H Q :=
  g_neW s hx (.k (.f hy)) rfl fun H' s' => by
    rw [show eqMW m (.m m) = kE m m from rfl, kE_self]
    exact k H' s'
/-- another word for the same -/
def IsiM (K : PySem.W.Frag) (C : Addr) : Prop := ∀ (H : Hp) (x dx : Addr) (fs : List (Str × V)), H x = some (.ins C dx fs) → TyX K H (.ref x) (.ref C)
theorem g_isiM {x : Addr} (s : S K C H Φ mt) (hI : IsiM K C) (h : (.ref x, .m m) ∈ Φ) (k : Q (.bl true) H) : rIsi K [.ref x, .ref C] H Q := by
  obtain ⟨⟨dx, pa, ma, h1, _, _⟩, _⟩ := s.mark h
  exact ⟨_, _, _, _, true, rfl, .own C, hI H x dx _ h1, kit_self, k⟩
def ZipW (K : PySem.W.Frag) (vs : List V) (H1 : Hp) (R : It → Hp → Prop) : Prop := ∃ a b xs ys, vs = [.ref a, .ref b] ∧ SqL K H1 a xs ∧ SqL K H1 b ys ∧ R (Itz K a b) H1
instance {ta : TA} {R : It → Hp → Prop} : St1 (iZip K ta σ H R) (ta σ H fun vs H1 => ZipW K vs H1 R) := ⟨fun h => h⟩
theorem g_zipLL {R : It → Hp → Prop} (s : S K C H Φ mt) (h : LL K C Φ mt a ws) {ws2 : List W} (h2 : (.ref d, .l ws2) ∈ Φ) (k : R (Itz K a d) H) : ZipW K [.ref a, .ref d] H R := by
  obtain ⟨vs, h1, _⟩ := h H Φ (fun _ h => h) s
  obtain ⟨us, g1, _⟩ := s.open h2
  exact ⟨a, d, _, _, rfl, sq_of h1, g1, k⟩
theorem g_forZM (hL : LL K C Φ mt a (ms.map W.m)) (hd : (.ref d, .l (ms.map MK.row)) ∈ Φ) (Pv : Nat → L2.St → Hp → Prop) (h0 : Pv 0 σ H) (hl : ∀ j σ' H', Pv j σ' H' → S K C H' Φ mt)
    (hs : ∀ (j : Nat) (m : MK) (x y : Addr) σ' H' H2, ms[j]? = some m → Pv j σ' H' → S K C H2 ((.ref y, m.row) :: (.ref x, .m m) :: Φ) mt → tb { D with nx := Pv (j + 1), ct := Pv (j + 1), bk := D.nx } ((σ'.set i1 (some (.ref x))).set i2 (some (.ref y))) H2)
    (hE : ∀ σ' H', Pv ms.length σ' H' → D.nx σ' H') : ForW (Itz K a d) (gTup K 2 (gCons (gName i1) (gCons (gName i2) gNil))) tb D σ H := by
  refine ⟨fun j m σ H => m = ms.length - j ∧ j ≤ ms.length ∧ Pv j σ H, ⟨ms.length, by simp, Nat.zero_le _, h0⟩, ?_⟩
  rintro j n σ' H' ⟨rfl, hi, p⟩
  have s := hl j σ' H' p
  obtain ⟨vs, h1, h2, s1⟩ := hL H' Φ (fun _ h => h) s
  obtain ⟨us, g1, g2, s2⟩ := s1.openH (List.mem_append_right _ hd)
  rw [List.length_map] at h2 g2
  by_cases hlt : j < ms.length
  · have e1 : vs[j]? = some vs[j] := List.getElem?_eq_getElem (by omega)
    have e2 : us[j]? = some us[j] := List.getElem?_eq_getElem (by omega)
    have e3 : ms[j]? = some ms[j] := List.getElem?_eq_getElem hlt
    refine .inr ⟨⟨vs, us, _, _, sq_of h1, sq_of g1, e1, e2⟩, Pv (j + 1), fun σ2 H2 p' => ⟨ms.length - (j + 1), by omega, rfl, hlt, p'⟩, fun x H2 y => ?_⟩
    obtain ⟨T, x1, y1, rfl, hT, rfl, f1, f2⟩ := y
    have := f1 _ (sq_of h1)
    rw [e1] at this
    obtain rfl : vs[j] = x1 := Option.some.inj this
    have := f2 _ (sq_of g1)
    rw [e2] at this
    obtain rfl : us[j] = y1 := Option.some.inj this
    have m1 : (vs[j], W.m ms[j]) ∈ vs.zip (ms.map W.m) := zip_at e1 e3
    have m2 : (us[j], (ms[j]).row) ∈ us.zip (ms.map MK.row) := zip_at e2 e3
    obtain ⟨q1, hq1⟩ := isRef_of isM (s2.rep (.f (List.mem_append_right _ (List.mem_append_left _ m1))))
    obtain ⟨q2, hq2⟩ := isRef_of isL (s2.rep (.f (List.mem_append_left _ m2)))
    rw [hq1] at m1
    rw [hq2] at m2
    rw [hq1, hq2]
    refine ⟨_, _, rfl, st_of upd_same, rfl, _, _, rfl, _, _, rfl, rfl, ?_⟩
    refine hs j _ q1 q2 σ' H' _ e3 p ((s2.ext (Ex.new hT)).to (fun z hz => ?_) (List.Sublist.refl _))
    rcases List.mem_cons.mp hz with rfl | hz
    · exact List.mem_append_left _ m2
    · rcases List.mem_cons.mp hz with rfl | hz
      · exact List.mem_append_right _ (List.mem_append_left _ m1)
      · exact List.mem_append_right _ (List.mem_append_right _ hz)
  · have e : j = ms.length := by omega
    subst e
    exact .inl ⟨⟨vs, us, sq_of h1, sq_of g1, .inl (by omega)⟩, hE _ _ p⟩
end
local macro_rules | `(tactic| kt_at_get) => `(tactic| with_reducible first
  | refine st_go ?_
  | (apply g_isiM; (focus (assumption)); (focus (assumption)); (focus (tb_rel)))
  | ((show rNeW _ _ _ _ _ _ _); apply g_neSelf; (focus (assumption)); (focus (tb_rel)); (focus (tb_rel)); intro _ _))
section
variable {P : Program} {w : World} {K : PySem.W.Frag} {mg : Str → Option Value} {base : Heap} {Z : Adr} {C : Addr}
theorem ok_l_same (T : Txt K mg Z) : FnOk P w K mg base CX0 9 Z.a_l_same Z.d_l_same ["_law_told", "_law_due"] (spSam K Z.C_Mark) := by
  refine T.F_l_same.ok sc_l_same (fun vs H Q E h => ?_) (fun cdv A outer s H vs Q E hr h => ?_)
  · obtain ⟨_, _, _, _, _, rfl, _⟩ := h; rfl
  · obtain ⟨a, d, ms, Φ, mt, rfl, hL, hd, hok, s, kk⟩ := h
    refine ⟨_, (pss_cons (ps_if (PW.pt (pw_or (pt_not (pt_val (pe_callB (isiK K) (by rfl) T.n_isinstance (by decide +kernel) (pa_cons (pv 0) (pa_cons (pe_bltn (v := .ty "list") (by rfl) T.n_list (by decide +kernel) rfl) pa_nil))))) (pw_or1 (pt_cmpR op_ne (pe_callB (lenQ K) (by rfl) T.n_len (by decide +kernel) (pa_cons (pv 0) pa_nil)) (pe_callB (lenQ K) (by rfl) T.n_len (by decide +kernel) (pa_cons (pv 1) pa_nil)) (nomark _))))) (pss_one (ps_ret pe_bl)) pss_nil)
      (pss_cons (ps_for PassesOwn.never rfl (pi_zip (by rfl) T.n_zip (pa_cons (pv 0) (pa_cons (pv 1) pa_nil))) (pg_tup rfl (pgs_cons (pg_name (i := 2) sc_l_same.nd rfl (.inl rfl)) (pgs_cons (pg_name (i := 3) sc_l_same.nd rfl (.inl rfl)) pgs_nil))) (pss_one (ps_if (PW.pt (pw_or (pt_not (pt_val (pe_callB (isiK K) (by rfl) T.n_isinstance (by decide +kernel) (pa_cons (pv 2) (pa_cons (pe_glob (v := .ref Z.C_Mark) rfl T.g_Mark rfl) pa_nil))))) (pw_or1 (pt_cmpR (op_neW (ok_Mark_eq T) (hr.mono (by decide)) T.m_Mark_eq T.t4_Mark T.ne_Mark T.b_Mark_eq pass0) (pv 2) (pe_call (ok_l_mark T) (hr.mono (by decide)) rfl T.g_l_mark T.F_l_mark.kp T.b_l_mark .nil pass0 (pa_cons (pv 3) pa_nil)) (nomark _))))) (pss_one (ps_ret pe_bl)) pss_nil)))
      (pss_one (ps_ret pe_bl)))), ?_⟩
    have hI : IsiM K Z.C_Mark := fun _ _ _ _ e => .base (.ins e T.cl_Mark T.t1_Mark T.t2_Mark T.t3_Mark T.t4_Mark)
    kxt_pos
    kopn_word
    refine g_isiLL s hL (kit_ty (r := true) (by decide +kernel)) ?_
    kopn_word
    refine g_lenLL s hL ?_
    kopn_word
    rotate_left
    · rename_i hne
      exact (hne (by rw [List.length_map, List.length_map])).elim
    refine g_zipLL s hL hd ?_
    refine g_forZM (i1 := 2) (i2 := 3) hL hd (fun j σ' H' => ∃ v2 v3 : Option V, σ' = [some (.ref a), some (.ref d), v2, v3] ∧ S K Z.C_Mark H' Φ mt) ⟨_, _, rfl, s⟩ (fun j σ' H' g => by obtain ⟨_, _, _, g⟩ := g; exact g) (fun j m x y σ' H' H2 hm g s2 => ?_) (fun σ' H' g => ?_)
    · obtain ⟨v2, v3, rfl, _⟩ := g
      have okm : m.Ok := hok m (List.mem_of_getElem? hm)
      dsimp only [List.set]
      kopn_word
      exact ⟨_, _, rfl, by kt_ors⟩
    · obtain ⟨v2, v3, rfl, s3⟩ := g
      kopn_word
      exact kk _ s3
end

/-! ### a list of marks made of rows; the first wrong one -/
def spWho (K : PySem.W.Frag) (C : Addr) : Sp := fun vs H Q _ => ∃ (i : Int) (Φ : List (V × W)) (mt : List (Addr × (HO → Prop))), vs = [.int i] ∧ S K C H Φ mt ∧ ∀ H', S K C H' Φ mt → Q (.bl true) H'
def spWrg (K : PySem.W.Frag) (C : Addr) : Sp := fun vs H Q _ => ∃ (a : Addr) (ms : List MK) (Φ : List (V × W)) (mt : List (Addr × (HO → Prop))), vs = [.ref a] ∧ (.ref a, .l (ms.map MK.row)) ∈ Φ ∧ (∀ m ∈ ms, m.Ok) ∧ ms.length ≤ 10000 ∧ S K C H Φ mt ∧ ∀ H', S K C H' Φ mt → Q (.bl true) H'
section
variable {K : PySem.W.Frag} {C : Addr} {σ σ0 : L2.St} {H : Hp} {Φ Ψ : List (V × W)} {mt : List (Addr × (HO → Prop))} {Q : VK} {te : TE} {a p b d : Addr} {E : XK} {m n : MK} {ms ns : List MK} {vs : List Nat} {i : Nat} {f : MK → W}
theorem use_who {i : Int} (s : S K C H Φ mt) (q : ∀ H', S K C H' Φ mt → Q (.bl true) H') : spWho K C [.int i] H Q E := ⟨i, Φ, mt, rfl, s, q⟩
theorem use_wrg (s : S K C H Φ mt) (h : (.ref a, .l (ms.map MK.row)) ∈ Φ) (ok : ∀ m ∈ ms, m.Ok) (hz : ms.length ≤ 10000) (q : ∀ H', S K C H' Φ mt → Q (.bl true) H') : spWrg K C [.ref a] H Q E := ⟨a, ms, Φ, mt, rfl, h, ok, hz, s, q⟩
theorem g_isiII {i : Int} (k : Q (.bl true) H) : rIsi K [.int i, .ty "int"] H Q := ⟨_, _, _, _, true, rfl, .ty _, .base (.int i), kit_ty (r := true) (by decide +kernel), k⟩
theorem g_isiIB {i : Int} (k : Q (.bl false) H) : rIsi K [.int i, .ty "bool"] H Q := ⟨_, _, _, _, false, rfl, .ty _, .base (.int i), kit_ty (r := false) (by decide +kernel), k⟩
theorem g_ixRw {i : Int} {j : Nat} (s : S K C H Φ mt) (h : (.ref a, .l (ms.map MK.row)) ∈ Φ) (hi : i = (j : Int)) (e : ms[j]? = some m) (k : ∀ q, S K C H ((.ref q, m.row) :: Φ) mt → Q (.ref q) H) : rIxL K (.ref a) (.int i) H Q := by
  subst hi
  exact g_ixLr s h (atI_nat (by rw [List.getElem?_map, e]; rfl)) isL k
/-- [mark(row) for row in rows] -/
theorem g_lcMk {σ1 : V → L2.St} (s : S K C H Φ mt) (ha : (.ref a, .l (ms.map MK.row)) ∈ Φ) (hn : ms.length ≤ 10000) (hw : Wp σ vs σ0) (hs : ∀ x, SetAt σ0 i (some x) (σ1 x)) (hw2 : ∀ x, Wp (σ1 x) vs σ0)
    (body : ∀ (m : MK) (q : Addr) X H' Ψ, m ∈ ms → S K C H' ((.ref q, m.row) :: Ψ) (X :: mt) → ∀ N : VK, (∀ x H'', S K C H'' ((.ref x, .m m) :: (.ref q, m.row) :: Ψ) (X :: mt) → N (.ref x) H'') → te (σ1 (.ref q)) H' N)
    (k : ∀ D H', S K C H' ((.ref D, .l (ms.map W.m)) :: Φ) mt → Q (.ref D) H') : LcW (Itl K a) (gName i) tYes te vs σ H Q := by
  have hw := hw.h
  subst hw
  intro D hD
  have h0 : S K C (upd H D (.lst [])) Φ ((D, Eq (HO.lst [])) :: mt) := s.addM hD (Ex.new hD) upd_same rfl
  refine ⟨fun j n H => n = ms.length - j ∧ j ≤ ms.length ∧ ∃ us Ψ, us.length = j ∧ (∀ z ∈ Φ, z ∈ Ψ) ∧ KnL Ψ us ((ms.take j).map W.m) ∧ S K C H Ψ ((D, Eq (HO.lst us)) :: mt), ⟨ms.length, by simp, Nat.zero_le _, [], Φ, rfl, fun z h => h, .nil, h0⟩, ?_⟩
  rintro j n H' ⟨rfl, hi, us, Ψ, hul, hsub, kn, s1⟩
  by_cases hlt : j < ms.length
  · have e3 : ms[j]? = some ms[j] := List.getElem?_eq_getElem hlt
    obtain ⟨vs1, v, h1, h2, h3⟩ := s1.grow (hsub _ ha) j (by rw [List.getElem?_map, e3]; rfl)
    refine .inr ⟨⟨vs1, v, h1, h2⟩, fun H2 => ∃ us Ψ, us.length = j + 1 ∧ (∀ z ∈ Φ, z ∈ Ψ) ∧ KnL Ψ us ((ms.take (j + 1)).map W.m) ∧ S K C H2 Ψ ((D, Eq (HO.lst us)) :: mt), fun H2 p' => ⟨ms.length - (j + 1), by omega, rfl, hlt, p'⟩, fun x H2 y => ?_⟩
    obtain ⟨e, y⟩ := y
    subst e
    have := y vs1 h1
    rw [h2] at this
    cases this
    obtain ⟨q, rfl⟩ := isRef_of isL (h3.rep (.f List.mem_cons_self))
    unfold gName
    rw [(hs (V.ref q)).h]
    refine ⟨(hw2 _).h, ?_⟩
    dsimp only [tYes]
    rw [if_pos rfl]
    refine body ms[j] q _ _ Ψ (List.getElem_mem hlt) h3 _ fun x H3 s3 => ⟨us, s3.at List.mem_cons_self, sz_lt (by omega), us ++ [.ref x], _, by rw [List.length_append, hul]; rfl, ?_, ?_, s3.set .hd rfl⟩
    · exact fun z hz => List.mem_cons_of_mem _ (List.mem_cons_of_mem _ (hsub z hz))
    · rw [List.take_succ, e3, List.map_append]
      exact .app (kn.mono fun z hz => List.mem_cons_of_mem _ (List.mem_cons_of_mem _ hz)) (.cons (.f List.mem_cons_self) .nil)
  · have e : j = ms.length := by omega
    obtain ⟨vs1, hv, hlen, _⟩ := s1.open (hsub _ ha)
    rw [List.length_map] at hlen
    refine .inl ⟨⟨vs1, hv, by omega⟩, ?_⟩
    subst e
    rw [List.take_length] at kn
    exact k D _ ((s1.fixL .hd kn).to (fun z hz => by
      rcases List.mem_cons.mp hz with rfl | hz
      · exact List.mem_cons_self
      · exact List.mem_cons_of_mem _ (hsub z hz)) (List.Sublist.refl _))
end
local macro_rules | `(tactic| kt_at_get) => `(tactic| with_reducible first
  | refine st_go ?_
  | (apply g_isiII)
  | (apply g_isiIB))
local macro_rules | `(tactic| kt_len) => `(tactic| with_reducible first
  | (apply use_who; (focus (assumption)); intro _ _))
section
variable {P : Program} {w : World} {K : PySem.W.Frag} {mg : Str → Option Value} {base : Heap} {Z : Adr} {C : Addr}
theorem ok_l_whole (T : Txt K mg Z) : FnOk P w K mg base CX0 1 Z.a_l_whole Z.d_l_whole ["_law_found"] (spWho K Z.C_Mark) := by
  refine T.F_l_whole.ok sc_l_whole (fun vs H Q E h => ?_) (fun cdv A outer s H vs Q E hr h => ?_)
  · obtain ⟨_, _, _, rfl, _⟩ := h; rfl
  · obtain ⟨i, Φ, mt, rfl, s, kk⟩ := h
    refine ⟨_, (pss_one (ps_ret (pe_and (pe_callB (isiK K) (by rfl) T.n_isinstance (by decide +kernel) (pa_cons (pv 0) (pa_cons (pe_bltn (v := .ty "int") (by rfl) T.n_int (by decide +kernel) rfl) pa_nil))) (pe_one (pe_not (pe_callB (isiK K) (by rfl) T.n_isinstance (by decide +kernel) (pa_cons (pv 0) (pa_cons (pe_bltn (v := .ty "bool") (by rfl) T.n_bool (by decide +kernel) rfl) pa_nil)))))))), ?_⟩
    kxt_pos
    kopn_word
    exact kk _ s
theorem ok_l_wrong (T : Txt K mg Z) : FnOk P w K mg base CX0 10 Z.a_l_wrong Z.d_l_wrong ["_law_rows_here"] (spWrg K Z.C_Mark) := by
  refine T.F_l_wrong.ok sc_l_wrong (fun vs H Q E h => ?_) (fun cdv A outer s H vs Q E hr h => ?_)
  · obtain ⟨_, _, _, _, rfl, _⟩ := h; rfl
  · obtain ⟨a, ms, Φ, mt, rfl, hx, hok, hz, s, kk⟩ := h
    refine ⟨_, (pss_cons (ps_set (i := 1) sc_l_wrong.nd rfl (.inl rfl) pe_non)
      (pss_cons (ps_for PassesOwn.never rfl (pi_range2 rfl T.n_range (pa_cons pe_int (pa_cons (pe_callB (lenQ K) (by rfl) T.n_len (by decide +kernel) (pa_cons (pv 0) pa_nil)) pa_nil))) (pg_name (i := 2) sc_l_wrong.nd rfl (.inl rfl)) (pss_one (ps_if (PW.pt (pw_and (pt_cmpR op_isNq (pv 1) pe_non (nomark _)) (pw_and1 (pt_cmpR (op_geD K hr.units) (pe_call (ok_l_key T) (hr.mono (by decide)) rfl T.g_l_key T.F_l_key.kp T.b_l_key .nil pass0 (pa_cons (pe_ix (ixL K) (pv 0) (pe_op op_sub (pv 2) pe_int) (fun _ _ => rfl)) pa_nil)) (pe_call (ok_l_key T) (hr.mono (by decide)) rfl T.g_l_key T.F_l_key.kp T.b_l_key .nil pass0 (pa_cons (pe_ix (ixL K) (pv 0) (pv 2) (fun _ _ => rfl)) pa_nil)) (nomark _))))) (pss_one (ps_set (i := 1) sc_l_wrong.nd rfl (.inl rfl) (pv 2))) pss_nil)))
      (pss_cons (ps_set (i := 3) sc_l_wrong.nd rfl (.inl rfl) (pe_call (ok_first_wrong T) (hr.mono (by decide)) rfl T.g_first_wrong T.F_first_wrong.kp T.b_first_wrong .nil pass0 (pa_cons (pe_lc (own := [("_law_parts_here", 4)]) (g := gName 4) (tt := tYes) rfl sc_l_wrong.nd (pi_list (pv 0)) (blkOk_by (own := [("_law_parts_here", 4)]) (N := ["_law_rows_here", "_law_due", "_law_k", "_law_told", "_law_parts_here"]) (sc := defScope s_l_wrong) (by decide +kernel)) (fun _ _ _ _ _ => (pg_name (i := 4) sc_l_wrong.nd rfl (.inl rfl))) (fun _ _ _ _ _ => pts_nil) (fun _ _ _ _ _ => (pe_call (ok_l_mark T) (hr.mono (by decide)) rfl T.g_l_mark T.F_l_mark.kp T.b_l_mark .nil pass0 (pa_cons (pv 4) pa_nil)))) pa_nil)))
      (pss_cons (ps_if (pt_cmpR op_ne (pe_call (ok_first_wrong T) (hr.mono (by decide)) rfl T.g_first_wrong T.F_first_wrong.kp T.b_first_wrong .nil pass0 (pa_cons (pe_callTy (tupK K) (by rfl) T.n_tuple (by decide +kernel) (pa_cons (pe_lc (own := [("_law_parts_here", 4)]) (g := gName 4) (tt := tYes) rfl sc_l_wrong.nd (pi_list (pv 0)) (blkOk_by (own := [("_law_parts_here", 4)]) (N := ["_law_rows_here", "_law_due", "_law_k", "_law_told", "_law_parts_here"]) (sc := defScope s_l_wrong) (by decide +kernel)) (fun _ _ _ _ _ => (pg_name (i := 4) sc_l_wrong.nd rfl (.inl rfl))) (fun _ _ _ _ _ => pts_nil) (fun _ _ _ _ _ => (pe_call (ok_l_mark T) (hr.mono (by decide)) rfl T.g_l_mark T.F_l_mark.kp T.b_l_mark .nil pass0 (pa_cons (pv 4) pa_nil)))) pa_nil)) pa_nil)) (pv 3) (nomark _)) (pss_one (ps_ret pe_bl)) pss_nil)
      (pss_cons (ps_if (pt_cmpR op_isNq (pv 1) pe_non (nomark _)) (pss_one (ps_ret (pe_cmpR op_isNq (pv 3) pe_non (nomark _)))) pss_nil)
      (pss_one (ps_ret (pe_and (pe_call (ok_l_whole T) (hr.mono (by decide)) rfl T.g_l_whole T.F_l_whole.kp T.b_l_whole .nil pass0 (pa_cons (pv 3) pa_nil)) (pe_one (pe_cmpR op_eq (pv 3) (pv 1) (nomark _))))))))))), ?_⟩
    have hlm : (ms.map MK.row).length = ms.length := List.length_map ..
    kxt_pos
    kopn_word
    refine g_forR (fun j σ' H' => ∃ (d : Option Int) (v2 v3 v4 : Option V) (Ψ : List (V × W)), σ' = [some (.ref a), some (oi d), v2, v3, v4] ∧ (d = none → fwI (ms.drop j) (1 + j) = fw ms) ∧ (∀ i, d = some i → fw ms = some i) ∧ (∀ z ∈ Φ, z ∈ Ψ) ∧ S K Z.C_Mark H' Ψ mt) ⟨none, _, _, _, Φ, rfl, fun _ => rfl, (fun _ h => nomatch h), fun z h => h, s⟩ (fun j σ' H' hj g => ?_) (fun σ' H' g => ?_)
    · obtain ⟨d, v2, v3, v4, Ψ, rfl, f1, f2, hsub, s1⟩ := g
      have h1 : j < ms.length := by omega
      have h2 : j + 1 < ms.length := by omega
      cases d with
      | some i =>
        kopn_word
        exact ⟨some i, _, _, _, Ψ, rfl, (fun h => nomatch h), f2, hsub, s1⟩
      | none =>
        have e1 := f1 rfl
        have e2 : ms[j]? = some ms[j] := List.getElem?_eq_getElem h1
        have e3 : ms[j + 1]? = some ms[j + 1] := List.getElem?_eq_getElem h2
        have hd : ms.drop (j + 1) = ms[j + 1] :: ms.drop (j + 1 + 1) := List.drop_eq_getElem_cons h2
        rw [List.drop_eq_getElem_cons h1, hd] at e1
        generalize ms[j] = m at e1 e2
        generalize ms[j + 1] = n at e1 e3 hd
        kopn_word
        refine g_ixRw s1 (hsub _ hx) (j := j) (by omega) e2 fun q1 s2 => ?_
        kopn_word
        rename_i k1 H3 s3
        refine g_ixRw s3 (by have := hsub _ hx; simp only [List.mem_cons, this, or_true]) (j := j + 1) (by omega) e3 fun q2 s4 => ?_
        kopn_word
        · rename_i s5 hlt
          unfold fwI at e1
          rw [if_pos hlt] at e1
          refine ⟨none, _, _, _, _, rfl, fun _ => ?_, (fun _ h => nomatch h), fun z hz => ?_, s5⟩
          · rw [hd, ← e1]
            congr 1
          · simp only [List.mem_cons, hsub z hz, or_true]
        · rename_i s5 hlt
          unfold fwI at e1
          rw [if_neg (by rw [hlt]; exact Bool.false_ne_true)] at e1
          refine ⟨some (1 + j), _, _, _, _, rfl, (fun h => nomatch h), (fun i h => by cases h; exact e1.symm), fun z hz => ?_, s5⟩
          simp only [List.mem_cons, hsub z hz, or_true]
    · obtain ⟨d, v2, v3, v4, Ψ, rfl, f1, f2, hsub, s1⟩ := g
      have hn : fwI (ms.drop ((ms.length : Int) - 1).toNat) (1 + (((ms.length : Int) - 1).toNat : Int)) = none := by
        have hd : (ms.drop ((ms.length : Int) - 1).toNat).length ≤ 1 := by rw [List.length_drop]; omega
        generalize ms.drop ((ms.length : Int) - 1).toNat = l at hd
        match l, hd with
        | [], _ => rfl
        | [_], _ => rfl
        | _ :: _ :: _, h => simp at h
      have hd : d = fw ms := by
        cases d with
        | none =>
          have := f1 rfl
          rw [hlm, hn] at this
          exact this
        | some i => exact (f2 i rfl).symm
      subst hd
      clear f1 f2 hn
      have hx2 := hsub _ hx
      kopn_word
      refine g_lcMk s1 hx2 hz (by infer_instance) (fun _ => by infer_instance) (fun _ => by infer_instance) (fun m q X H2 Ψ2 hm s2 N hN => ?_) fun D1 H2 s2 => ?_
      · have okm := hok m hm
        kopn_word
        exact hN _ _ ‹_›
      kopn_word
      refine use_fw s2 List.mem_cons_self (.inl rfl) hz fun H3 s3 => ?_
      kopn_word
      refine g_lcMk s3 (List.mem_cons_of_mem _ hx2) hz (by infer_instance) (fun _ => by infer_instance) (fun _ => by infer_instance) (fun m q X H2 Ψ2 hm s2 N hN => ?_) fun D2 H4 s4 => ?_
      · have okm := hok m hm
        kopn_word
        exact hN _ _ ‹_›
      kopn_word
      rename_i t1 H5 s5
      refine use_fw s5 List.mem_cons_self (.inr rfl) hz fun H6 s6 => ?_
      cases fw ms with
      | none =>
        kopn_word
        have e : decide (oi none = V.non) = true := decide_eq_true rfl
        rw [e]
        exact kk _ (s6.to (fun z hz => by simp only [List.mem_cons, hsub z hz, or_true]) (List.Sublist.refl _))
      | some i =>
        kopn_word
        refine use_who (i := i) s6 fun H7 s7 => ⟨true, rfl, ?_⟩
        rw [if_pos rfl]
        kopn_word
        have e : decide (oi (some i) = oi (some i)) = true := decide_eq_true rfl
        rw [e]
        exact kk _ (s7.to (fun z hz => by simp only [List.mem_cons, hsub z hz, or_true]) (List.Sublist.refl _))
end

/-! ### the law of lists in order -/
section
variable (K : PySem.W.Frag) {X : Cx}
theorem bm0K {o : Expr} {to : TE} {name : Str} {apos cpos : Pos} {T id : String} {r : V → List V → Hp → VK → Prop} (pa : PlainAttrs T) (slot : Slot T name id) (hty : typeOf (.builtin id) = pure (.type "method_descriptor")) (hm : MtR X id r) (ho : PE X o to)
    (hK : X.K = K := by rfl) (hbase : attributeBase o name X.env (eval o X.env) = eval o X.env := by rfl) (hline : (apos.endLine == cpos.line) = true := by rfl) : PE X (.Call (.Attribute o name apos) [] [] cpos) (tBM0 K T r to) := by subst hK; exact pe_bm0 pa slot hty hm ho hbase hline
end
def spLaw (K : PySem.W.Frag) : Sp := fun vs H Q _ => ∃ (a : Addr) (ns : List Int), vs = [.ref a] ∧ SqL K H a (ns.map V.int) ∧ ns.length ≤ 63 ∧ ∀ H', Q (.bl true) H'
section
variable {K : PySem.W.Frag} {C : Addr} {σ σ0 : L2.St} {H : Hp} {Φ Ψ : List (V × W)} {mt nt : List (Addr × (HO → Prop))} {Q : VK} {te : TE} {a p b d fa : Addr} {E : XK} {m n : MK} {ms ns : List MK} {us : List V} {w : W} {ws : List W}
instance {T : String} {r : V → List V → Hp → VK → Prop} {to : TE} : St1 (tBM0 K T r to σ H Q) (to σ H fun x H1 => TyW K T x H1 (r x [] H1 Q)) := ⟨fun h => h⟩
instance : Ix 99 99 := ⟨rfl⟩
instance {ks js : List MK} : AppW (ks.map MK.row) (js.map MK.row) ((ks ++ js).map MK.row) := ⟨by rw [List.map_append]⟩
def CallNW (n m : Nat) (sp : Sp) (gV : List V → List V → List V) (E : XK) (Q : VK) (vs zs : List V) (H2 : Hp) : Prop := vs.length = n ∧ zs.length = m ∧ sp (gV vs zs) H2 Q E
instance {n m : Nat} {sp : Sp} {gV : List V → List V → List V} {tl tk : TA} : St1 (tCallN n m sp gV E tl tk σ H Q) (tl σ H fun vs H1 => tk σ H1 fun zs H2 => CallNW n m sp gV E Q vs zs H2) := ⟨fun h => h⟩
theorem g_callNW {n m : Nat} {sp : Sp} {gV : List V → List V → List V} {vs zs us : List V} (h1 : vs.length = n) (h2 : zs.length = m) (e : gV vs zs = us) (h : sp us H Q E) : CallNW n m sp gV E Q vs zs H := ⟨h1, h2, by rw [e]; exact h⟩
def CallDW (sp : Sp) (dvs : List V) (E : XK) (Q : VK) (vs : List V) (H2 : Hp) : Prop := sp (vs ++ dvs) H2 Q E
instance {sp : Sp} {d : V} {dvs : List V} {tl : TA} : St1 (tCall sp (d :: dvs) E tl σ H Q) (tl σ H fun vs H1 => CallDW sp (d :: dvs) E Q vs H1) := ⟨fun h => h⟩
theorem g_callDW {sp : Sp} {dvs vs us : List V} (e : vs ++ dvs = us) (h : sp us H Q E) : CallDW sp dvs E Q vs H := by unfold CallDW; rw [e]; exact h
theorem g_ixHan {i : Int} (s : S K C H Φ mt) (h : (.ref p, .l [.l ws, .t ws]) ∈ Φ) (h0 : 0 ≤ i) (h1 : i < 2) (k : ∀ q w, Sq w ws → S K C H ((.ref q, w) :: Φ) mt → Q (.ref q) H) : rIxL K (.ref p) (.int i) H Q := by
  obtain ⟨j, rfl⟩ : ∃ j : Nat, i = (j : Int) := ⟨i.toNat, by omega⟩
  match j, h1 with
  | 0, _ => exact g_ixLr s h (atI_nat rfl) isL fun q s' => k q _ (.inl rfl) s'
  | 1, _ => exact g_ixLr s h (atI_nat rfl) isT fun q s' => k q _ (.inr rfl) s'
  | j + 2, h => omega
theorem g_clearC (s : S K C H Φ mt) (h : (p, Eq (HO.lst us)) ∈ mt) (hs : SetM p (Eq (HO.lst [])) mt nt) (k : ∀ H', S K C H' Φ nt → Q .non H') : rClear (.ref p) [] H Q := ⟨p, us, rfl, rfl, s.at h, k _ (s.set hs rfl)⟩
theorem g_listSq (s : S K C H Φ mt) (h : (.ref p, w) ∈ Φ) (hw : Sq w ws) (k : ∀ q H', S K C H' ((.ref q, .l ws) :: Φ) mt → Q (.ref q) H') : rListS K [.ref p] H Q := by
  rcases hw with rfl | rfl
  · exact g_listL s h k
  · exact g_listT s h k
theorem g_tupSq (s : S K C H Φ mt) (h : (.ref p, w) ∈ Φ) (hw : Sq w ws) (k : ∀ q H', S K C H' ((.ref q, .t ws) :: Φ) mt → Q (.ref q) H') : rTupOf K [.ref p] H Q := by
  rcases hw with rfl | rfl
  · exact g_tupOfS s h k
  · obtain ⟨vs, h1, _⟩ := s.openT h
    exact ⟨p, vs, rfl, .inr ⟨h1, k p H (s.learn (.f h))⟩⟩
def RevLW (K : PySem.W.Frag) (x : V) (H1 : Hp) (Q : VK) : Prop := ∃ a xs, x = .ref a ∧ SqL K H1 a xs ∧ ∀ p, H1 p = none → Q (.ref p) (upd H1 p (.lst xs.reverse))
instance : St1 (tRevL K te σ H Q) (te σ H fun x H1 => RevLW K x H1 Q) := ⟨fun h => h⟩
theorem knl_rev : ∀ {vs : List V} {ws : List W}, KnL Φ vs ws → KnL Φ vs.reverse ws.reverse := by
  intro vs ws h
  induction h with
  | nil => exact .nil
  | cons h r ih => rw [List.reverse_cons, List.reverse_cons]; exact .app ih (.cons h .nil)
  | is ns f g h =>
    rw [← List.map_reverse, ← List.map_reverse]
    exact .is _ f g fun x hx => h x (List.mem_reverse.mp hx)
  | app h r i1 i2 => rw [List.reverse_append, List.reverse_append]; exact .app i2 i1
theorem g_revG {xs ys : List MK} (s : S K C H Φ mt) (h : (.ref p, .l (xs.map MK.row)) ∈ Φ) (e : xs.reverse = ys) (k : ∀ q H', S K C H' ((.ref q, .l (ys.map MK.row)) :: Φ) mt → Q (.ref q) H') : RevLW K (.ref p) H Q := by
  obtain ⟨vs, g1, g2, s1⟩ := s.openH h
  refine ⟨p, vs, rfl, sq_of g1, fun r hr => k r _ ?_⟩
  subst e
  rw [List.map_reverse]
  exact (s1.addL hr (Ex.new hr) upd_same (knl_rev (knl_zip g2))).to (fun z hz => mem3 hz) (List.Sublist.refl _)
theorem cutV_mid {vs : List V} (n : Nat) : cutV vs (some (n : Int)) (some ((n : Int) + 1)) = (vs.drop n).take 1 := by
  rw [show (n : Int) + 1 = ((n + 1 : Nat) : Int) by omega]
  unfold cutV
  rw [HT.sIx_nat, HT.sIx_nat]
  by_cases h : n < vs.length
  · rw [Nat.min_eq_left (by omega), Nat.min_eq_left (by omega), show n + 1 - n = 1 by omega]
  · rw [Nat.min_eq_right (by omega), Nat.min_eq_right (by omega), List.drop_of_length_le (Nat.le_refl _), List.drop_of_length_le (by omega)]
    simp
theorem g_slMid {n : Nat} (s : S K C H Φ mt) (h : (.ref p, .l (ms.map MK.row)) ∈ Φ) (k : ∀ r H', S K C H' ((.ref r, .l (((ms.drop n).take 1).map MK.row)) :: Φ) mt → Q (.ref r) H') : rSlL K (.ref p) (some (n : Int)) (some ((n : Int) + 1)) H Q := by
  obtain ⟨vs, g1, g2, s1⟩ := s.open h
  refine ⟨p, vs, rfl, g1, fun r hr => k r _ ?_⟩
  rw [cutV_mid, List.map_take, List.map_drop]
  have kn : KnL (vs.zip (ms.map MK.row) ++ Φ) ((vs.drop n).take 1) (((ms.map MK.row).drop n).take 1) := by
    have h1 := KnL.drop (Φ := Φ) n g2
    cases e : vs.drop n with
    | nil =>
      rw [e] at h1
      have := h1.len
      rw [List.eq_nil_of_length_eq_zero this.symm]
      exact .nil
    | cons v r =>
      cases e2 : (ms.map MK.row).drop n with
      | nil => rw [e, e2] at h1; have := h1.len; cases this
      | cons y z =>
        rw [e, e2] at h1
        obtain ⟨v', q1, q2⟩ := h1.get 0 y rfl
        cases q1
        exact .cons q2 .nil
  exact (s1.addL hr (Ex.new hr) upd_same kn).to (fun z hz => mem3 hz) (List.Sublist.refl _)
theorem use_inoA {b : Bool} (s : S K C H Φ mt) (h : (.ref a, w) ∈ Φ) (hw : Sq w (ms.map W.m)) (q : ∀ p H', S K C H' ((.ref p, .l ((srt b ms).map W.m)) :: Φ) mt → Q (.ref p) H') : spIno K C ([.ref a] ++ [.bl b]) H Q E := use_ino s h hw q
theorem g_catR {xs ys : List MK} {q : Addr} (s : S K C H Φ mt) (h1 : (.ref p, .l (xs.map MK.row)) ∈ Φ) (h2 : (.ref q, .l (ys.map MK.row)) ∈ Φ) (hz : xs.length + ys.length ≤ 50000) (k : ∀ r H', S K C H' ((.ref r, .l ((xs ++ ys).map MK.row)) :: Φ) mt → Q (.ref r) H') : rCat (.ref p) (.ref q) H Q :=
  g_cat s h1 h2 (by rw [List.length_map, List.length_map]; omega) inferInstance k
theorem key_r {x : V} (s : S K C H Φ mt) (hx : (x, m.row) ∈ Φ) (q : ∀ p H2, S K C H2 ((.ref p, m.krow) :: Φ) mt → Q (.ref p) H2) : spLky K C [x] H Q E := by
  obtain ⟨p, rfl⟩ := isRef_of isL (s.rep (.f hx))
  exact use_lky s hx q
end
local macro_rules | `(tactic| kt_at_get) => `(tactic| with_reducible first
  | refine st_go ?_
  | (apply g_callDW; (focus (with_unfolding_all rfl)))
  | (apply g_callNW; (focus (with_unfolding_all rfl)); (focus (with_unfolding_all rfl)); (focus (simp only [List.drop_zero, List.drop_succ_cons, List.take_succ_cons, List.take_zero, List.take_nil, List.drop_nil, List.cons_append, List.nil_append, List.append_nil]; exact rfl)))
  | (apply g_slMid; (focus (assumption)); (focus (tb_rel)); intro _ _ _)
  | ((show rCat _ _ _ _); apply g_catR; (focus (assumption)); (focus (tb_rel)); (focus (tb_rel)); (focus (simp only [List.length_append, List.length_take, List.length_drop]; omega)); intro _ _ _)
  | (apply g_clearC; (focus (assumption)); (focus (tb_rel)); (focus (kt_at_item)); intro _ _)
  | (apply g_listSq; (focus (assumption)); (focus (tb_rel)); (focus (assumption)); intro _ _ _)
  | (apply g_tupSq; (focus (assumption)); (focus (tb_rel)); (focus (assumption)); intro _ _ _)
  | ((show RevLW _ _ _ _); apply g_revG; (focus (assumption)); (focus (tb_rel)); (focus (assumption)); intro _ _ _))
local macro_rules | `(tactic| kt_len) => `(tactic| with_reducible first
  | (apply use_rows; (focus (assumption)); (focus (tb_rel)); (focus (assumption)); (focus (omega)); (focus (omega)); intro _ _ _ _ _ _)
  | (apply use_inoA; (focus (assumption)); (focus (tb_rel)); (focus (assumption)); intro _ _ _)
  | (apply use_ino; (focus (assumption)); (focus (tb_rel)); (focus (assumption)); intro _ _ _)
  | (apply use_sam; (focus (assumption)); (focus (apply ll_f; (focus (tb_rel)))); (focus (tb_rel)); (focus (assumption)); intro _ _)
  | (apply use_onc; (focus (assumption)); (focus (tb_rel)); (focus (assumption)); (focus (assumption)); intro _ _ _ _ _ _)
  | (apply use_wrg; (focus (assumption)); (focus (tb_rel)); (focus (assumption)); (focus (assumption)); intro _ _))
section
variable {P : Program} {w : World} {K : PySem.W.Frag} {mg : Str → Option Value} {base : Heap} {Z : Adr} {C : Addr}
theorem ok_law (T : Txt K mg Z) : FnOk P w K mg base CX0 12 Z.a_law Z.d_law ["_law_script"] (spLaw K) := by
  refine T.F_law.ok sc_law (fun vs H Q E h => ?_) (fun cdv A outer' s H vs Q E hr h => ?_)
  · obtain ⟨a, ns, rfl, _⟩ := h; rfl
  · obtain ⟨a, ns, rfl, hS, hlen, kk⟩ := h
    refine ⟨_, (pss_cons (ps_set (i := 1) sc_law.nd rfl (.inl rfl) (pe_op op_mod (pe_call (ok_l_cell_at T) (hr.mono (by decide)) rfl T.g_l_cell_at T.F_l_cell_at.kp T.b_l_cell_at .nil pass0 (pa_cons (pv 0) (pa_cons pe_int pa_nil))) pe_int))
      (pss_cons (ps_set (i := 2) sc_law.nd rfl (.inl rfl) (pe_call (ok_l_rows T) (hr.mono (by decide)) rfl T.g_l_rows T.F_l_rows.kp T.b_l_rows .nil pass0 (pa_cons (pv 0) (pa_cons (pv 1) pa_nil))))
      (pss_cons (ps_set (i := 3) sc_law.nd rfl (.inl rfl) (pe_callBK (cr_sortK (E := E0) (ok_l_key T) (hr.mono (by decide)) T.b_l_key) (by rfl) T.n_sorted (by decide +kernel) (pa_cons (pv 2) pa_nil) (pk_cons (pe_glob (v := .ref Z.a_l_key) rfl T.g_l_key rfl) pk_nil)))
      (pss_cons (ps_setLc (i := 4) (own := [("_law_parts_here", 5)]) (g := gName 5) (tt := tYes) rfl sc_law.nd rfl rfl (sw_true rfl rfl rfl (by decide +kernel)) (pi_list (pv 2)) (blkOk_by (own := [("_law_parts_here", 5)]) (N := ["_law_script", "_law_count", "_law_rows_here", "_law_upward", "_law_spines", "_law_parts_here", "_law_handed", "_law_told", "_law_once_here", "_law_place", "_law_twice", "_law_early", "_law_row"]) (sc := defScope s_law) (by decide +kernel)) (fun _ _ _ _ _ => (pg_name (i := 5) sc_law.nd rfl (.inl rfl))) (fun _ _ _ _ _ => pts_nil) (fun _ _ _ _ _ => (pe_call (ok_l_mark T) (hr.mono (by decide)) rfl T.g_l_mark T.F_l_mark.kp T.b_l_mark .nil pass0 (pa_cons (pv 5) pa_nil))))
      (pss_cons (ps_set (i := 6) sc_law.nd rfl (.inl rfl) (pe_ix (ixL K) (pe_lst (pa_cons (pe_callTy (listK K) (by rfl) T.n_list (by decide +kernel) (pa_cons (pv 4) pa_nil)) (pa_cons (pe_callTy (tupK K) (by rfl) T.n_tuple (by decide +kernel) (pa_cons (pv 4) pa_nil)) pa_nil))) (pe_op op_mod (pe_call (ok_l_cell_at T) (hr.mono (by decide)) rfl T.g_l_cell_at T.F_l_cell_at.kp T.b_l_cell_at .nil pass0 (pa_cons (pv 0) (pa_cons pe_int pa_nil))) pe_int) (fun _ _ => rfl)))
      (pss_cons (ps_set (i := 7) sc_law.nd rfl (.inl rfl) (peM (pe_callD (ok_in_order T) (hr.mono (by decide)) rfl T.g_in_order T.F_in_order.kp T.b_in_order_1 pass0 (pa_cons (pv 6) pa_nil))))
      (pss_cons (ps_if (pt_not (pt_val (pe_call (ok_l_same T) (hr.mono (by decide)) rfl T.g_l_same T.F_l_same.kp T.b_l_same .nil pass0 (pa_cons (pv 7) (pa_cons (pv 3) pa_nil))))) (pss_one (ps_ret pe_bl)) pss_nil)
      (pss_cons (ps_expr (bm0K K PySem.F.plainAttrs_list PySem.F.slot_list_clear PySem.F.type_list_clear mt_clear (pv 7)))
      (pss_cons (ps_for PassesOwn.never rfl (pi_list (pe_lst (pa_cons (pe_callD (ok_in_order T) (hr.mono (by decide)) rfl T.g_in_order T.F_in_order.kp T.b_in_order_1 pass0 (pa_cons (pv 6) pa_nil)) (pa_cons (pe_call (ok_in_order T) (hr.mono (by decide)) rfl T.g_in_order T.F_in_order.kp T.b_in_order .nil pass0 (pa_cons (pv 6) (pa_cons pe_bl pa_nil))) (pa_cons (pe_callN (ok_in_order T) (hr.mono (by decide)) rfl T.g_in_order T.F_in_order.kp T.b_in_order_k1_falling.choose_spec pass0 (pa_cons (pv 6) pa_nil) (pk_cons pe_bl pk_nil)) pa_nil))))) (pg_name (i := 7) sc_law.nd rfl (.inl rfl)) (pss_one (ps_if (pt_not (pt_val (pe_call (ok_l_same T) (hr.mono (by decide)) rfl T.g_l_same T.F_l_same.kp T.b_l_same .nil pass0 (pa_cons (pv 7) (pa_cons (pv 3) pa_nil))))) (pss_one (ps_ret pe_bl)) pss_nil)))
      (pss_cons (ps_if (PW.pt (pw_or (pt_not (pt_val (pe_call (ok_l_same T) (hr.mono (by decide)) rfl T.g_l_same T.F_l_same.kp T.b_l_same .nil pass0 (pa_cons (pe_callN (ok_in_order T) (hr.mono (by decide)) rfl T.g_in_order T.F_in_order.kp T.b_in_order_k1_falling.choose_spec pass0 (pa_cons (pv 6) pa_nil) (pk_cons pe_bl pk_nil)) (pa_cons (pe_revL (pv 3)) pa_nil))))) (pw_or1 (pt_not (pt_val (pe_call (ok_l_same T) (hr.mono (by decide)) rfl T.g_l_same T.F_l_same.kp T.b_l_same .nil pass0 (pa_cons (pe_callTy (listK K) (by rfl) T.n_list (by decide +kernel) (pa_cons (pv 6) pa_nil)) (pa_cons (pv 2) pa_nil)))))))) (pss_one (ps_ret pe_bl)) pss_nil)
      (pss_cons (ps_set (i := 8) sc_law.nd rfl (.inl rfl) (pe_slice (slL K) (pe_call (ok_l_once T) (hr.mono (by decide)) rfl T.g_l_once T.F_l_once.kp T.b_l_once .nil pass0 (pa_cons (pv 3) pa_nil)) po_none (po_some pe_int)))
      (pss_cons (ps_set (i := 9) sc_law.nd rfl (.inl rfl) (pe_op op_modN (pe_call (ok_l_cell_at T) (hr.mono (by decide)) rfl T.g_l_cell_at T.F_l_cell_at.kp T.b_l_cell_at .nil pass0 (pa_cons (pv 0) (pa_cons pe_int pa_nil))) (pe_callB (call_maxq rfl) (by rfl) T.n_max (by decide +kernel) (pa_cons pe_int (pa_cons (pe_callB (lenQ K) (by rfl) T.n_len (by decide +kernel) (pa_cons (pv 8) pa_nil)) pa_nil)))))
      (pss_cons (ps_set (i := 10) sc_law.nd rfl (.inl rfl) (pe_op op_cat (pe_op op_cat (pe_slice (slL K) (pv 8) po_none (po_some (pv 9))) (pe_slice (slL K) (pv 8) (po_some (pv 9)) (po_some (pe_op op_add (pv 9) pe_int)))) (pe_slice (slL K) (pv 8) (po_some (pv 9)) po_none)))
      (pss_cons (ps_set (i := 11) sc_law.nd rfl (.inl rfl) (pe_op op_cat (pe_slice (slL K) (pv 8) (po_some (pv 9)) (po_some (pe_op op_add (pv 9) pe_int))) (pv 8)))
      (pss_cons (ps_for PassesOwn.never rfl (pi_list (pe_lst (pa_cons (pv 2) (pa_cons (pv 3) (pa_cons (pv 8) (pa_cons (pv 10) (pa_cons (pv 11) (pa_cons (pe_revL (pv 8)) pa_nil)))))))) (pg_name (i := 12) sc_law.nd rfl (.inl rfl)) (pss_one (ps_if (pt_not (pt_val (pe_call (ok_l_wrong T) (hr.mono (by decide)) rfl T.g_l_wrong T.F_l_wrong.kp T.b_l_wrong .nil pass0 (pa_cons (pv 12) pa_nil)))) (pss_one (ps_ret pe_bl)) pss_nil)))
      (pss_one (ps_ret (pe_and (pe_call (ok_l_same T) (hr.mono (by decide)) rfl T.g_l_same T.F_l_same.kp T.b_l_same .nil pass0 (pa_cons (pe_callD (ok_in_order T) (hr.mono (by decide)) rfl T.g_in_order T.F_in_order.kp T.b_in_order_1 pass0 (pa_cons (pe_lst pa_nil) pa_nil)) (pa_cons (pe_lst pa_nil) pa_nil))) (pe_one (pe_call (ok_l_same T) (hr.mono (by decide)) rfl T.g_l_same T.F_l_same.kp T.b_l_same .nil pass0 (pa_cons (pe_call (ok_in_order T) (hr.mono (by decide)) rfl T.g_in_order T.F_in_order.kp T.b_in_order .nil pass0 (pa_cons (pe_callTy (tupK K) (by rfl) T.n_tuple (by decide +kernel) (pa_cons (pv 6) pa_nil)) (pa_cons pe_bl pa_nil))) (pa_cons (pe_revL (pv 3)) pa_nil)))))))))))))))))))))), ?_⟩
    have s := S.start (C := Z.C_Mark) hS
    kxt_pos
    kopn_word
    rename_i r0 H0 s0 rw ms H1 hml hok s1
    have hml : ms.length ≤ 101 := by omega
    have hz : ms.length ≤ 10000 := by omega
    refine g_sortL s1 List.mem_cons_self (.inl rfl) (fun x m Ψ H1 _ hx s1 Q1 q1 => key_r s1 hx q1) fun up H2 s2 => ?_
    have hoks : ∀ m ∈ srt false ms, m.Ok := fun m hm => hok m (srt_mem.mp hm)
    have hokt : ∀ m ∈ srt true ms, m.Ok := fun m hm => hok m (srt_mem.mp hm)
    have hzs : (srt false ms).length ≤ 10000 := by rw [srt_len]; exact hz
    have hrv : (srt false ms).reverse = srt true ms := (srt_rev hok).symm
    kopn_word
    refine g_lcMk s2 (List.mem_cons_of_mem _ List.mem_cons_self) hz (by infer_instance) (fun _ => by infer_instance) (fun _ => by infer_instance) (fun m q X H2 Ψ2 hm s2 N hN => ?_) fun sp H3 s3 => ?_
    · have okm := hok m hm
      kopn_word
      exact hN _ _ ‹_›
    kopn_word
    rename_i lp H4 s4 r1 H5 s5
    refine g_ixHan s5 List.mem_cons_self (by omega) (by omega) fun hd w hw s6 => ?_
    repeat' kt_at_get
    refine ⟨hd, false, w, ms, _, _, rfl, List.mem_cons_self, hw, s6, fun p us Ψ H6 hsub kn s7 => ?_⟩
    have m1 : (V.ref a, W.q ns) ∈ Ψ := hsub _ (by tb_rel)
    have m2 : (V.ref rw, W.l (ms.map MK.row)) ∈ Ψ := hsub _ (by tb_rel)
    have m3 : (V.ref up, W.l ((srt false ms).map MK.row)) ∈ Ψ := hsub _ (by tb_rel)
    have m4 : (V.ref hd, w) ∈ Ψ := hsub _ (by tb_rel)
    clear hsub s1 s2 s3 s4 s5 s6
    kopn_word
    refine use_sam s7 (ll_c List.mem_cons_self kn) m3 hoks fun H7 s8 => ?_
    kopn_word
    rename_i po no Ho hno hnl so ro Hr sr rp H9 s9
    have s10 : S K Z.C_Mark H9 ((V.ref ro, W.l ((no.take 99).map MK.row)) :: Ψ) [(p, Eq (HO.lst []))] := by kt_ors
    clear so sr s9 s7 s8
    generalize hg : rp.fmod _ = z
    have hz0 : 0 ≤ z := by rw [← hg]; exact Int.fmod_nonneg_of_pos _ (by split <;> omega)
    obtain ⟨j, rfl⟩ : ∃ j : Nat, z = (j : Int) := ⟨z.toNat, by omega⟩
    clear hg hz0
    have ho : ∀ m ∈ no.take 99, m.Ok := fun m hm => hno m (List.mem_of_mem_take hm)
    have hol : (no.take 99).length ≤ 99 := List.length_take_le ..
    generalize no.take 99 = os at s10 ho hol
    clear hno hnl
    have hoz : os.length ≤ 10000 := by omega
    have ok1 : ∀ m ∈ (os.take j ++ (os.drop j).take 1) ++ os.drop j, m.Ok := fun m hm => ho m (by
      rcases List.mem_append.mp hm with h | h
      · rcases List.mem_append.mp h with h | h
        · exact List.mem_of_mem_take h
        · exact List.mem_of_mem_drop (List.mem_of_mem_take h)
      · exact List.mem_of_mem_drop h)
    have ok2 : ∀ m ∈ (os.drop j).take 1 ++ os, m.Ok := fun m hm => ho m (by
      rcases List.mem_append.mp hm with h | h
      · exact List.mem_of_mem_drop (List.mem_of_mem_take h)
      · exact h)
    have z1 : ((os.take j ++ (os.drop j).take 1) ++ os.drop j).length ≤ 10000 := by simp only [List.length_append, List.length_take, List.length_drop]; omega
    have z2 : ((os.drop j).take 1 ++ os).length ≤ 10000 := by simp only [List.length_append, List.length_take, List.length_drop]; omega
    have ok3 : ∀ m ∈ os.reverse, m.Ok := fun m hm => ho m (List.mem_reverse.mp hm)
    have z3 : os.reverse.length ≤ 10000 := by rw [List.length_reverse]; omega
    generalize hro : os.reverse = rs at ok3 z3
    have htup : Sq (W.t (ms.map W.m)) (ms.map W.m) := .inr rfl
    have hnil : Sq (W.l []) (([] : List MK).map W.m) := .inl rfl
    kopn_word
    rename_i pt Ht st pe He se
    have e : (srt false []).map W.m = [] := by unfold srt; simp
    rw [e] at se
    clear st
    refine use_sam (ms := []) se (ll_f (List.mem_cons_of_mem _ List.mem_cons_self)) List.mem_cons_self (fun _ h => nomatch h) fun H11 s11 => ?_
    clear se
    kopn_word
    all_goals exact kk _
end

/-! ### what the top has written, the head -/
theorem all_mk {l : PySem.W.OpenLaw} {w : World} {K : PySem.W.Frag} {h : Heap} {mg : Str → Option Value} {fa : Addr} (X : K.In h) (G : h.Ns mainGlobals mg) (hfa : mg "law" = some (.ref fa))
    {C_Mark : Addr}
    {f_in_order : Addr} {od_in_order an_in_order : Option Addr} {sl_in_order : Array (Option Value)} {oc_in_order kV_in_order dc_in_order pm_in_order cd_in_order ct_in_order : Value}
    {dT_in_order : Addr} {do_in_order : Obj} {dn_in_order : Nat} {dus_in_order : List Value}
    {f_first_wrong : Addr} {od_first_wrong an_first_wrong : Option Addr} {sl_first_wrong : Array (Option Value)} {oc_first_wrong kV_first_wrong dc_first_wrong pm_first_wrong cd_first_wrong ct_first_wrong : Value}
    {f_key : Addr} {od_key an_key : Option Addr} {sl_key : Array (Option Value)} {oc_key kV_key dc_key pm_key cd_key ct_key : Value}
    {f_is_number : Addr} {od_is_number an_is_number : Option Addr} {sl_is_number : Array (Option Value)} {oc_is_number kV_is_number dc_is_number pm_is_number cd_is_number ct_is_number : Value}
    {f_is_whole : Addr} {od_is_whole an_is_whole : Option Addr} {sl_is_whole : Array (Option Value)} {oc_is_whole kV_is_whole dc_is_whole pm_is_whole cd_is_whole ct_is_whole : Value}
    {dT_is_whole : Addr} {do_is_whole : Obj} {dn_is_whole : Nat} {dus_is_whole : List Value}
    {f_is_figures : Addr} {od_is_figures an_is_figures : Option Addr} {sl_is_figures : Array (Option Value)} {oc_is_figures kV_is_figures dc_is_figures pm_is_figures cd_is_figures ct_is_figures : Value}
    {f_is_letters : Addr} {od_is_letters an_is_letters : Option Addr} {sl_is_letters : Array (Option Value)} {oc_is_letters kV_is_letters dc_is_letters pm_is_letters cd_is_letters ct_is_letters : Value}
    {f_is_points : Addr} {od_is_points an_is_points : Option Addr} {sl_is_points : Array (Option Value)} {oc_is_points kV_is_points dc_is_points pm_is_points cd_is_points ct_is_points : Value}
    {f_is_maker : Addr} {od_is_maker an_is_maker : Option Addr} {sl_is_maker : Array (Option Value)} {oc_is_maker kV_is_maker dc_is_maker pm_is_maker cd_is_maker ct_is_maker : Value}
    {f_is_ended : Addr} {od_is_ended an_is_ended : Option Addr} {sl_is_ended : Array (Option Value)} {oc_is_ended kV_is_ended dc_is_ended pm_is_ended cd_is_ended ct_is_ended : Value}
    {f_Mark_init : Addr} {od_Mark_init an_Mark_init : Option Addr} {sl_Mark_init : Array (Option Value)} {oc_Mark_init kV_Mark_init dc_Mark_init pm_Mark_init cd_Mark_init ct_Mark_init : Value}
    {dT_Mark_init : Addr} {do_Mark_init : Obj} {dn_Mark_init : Nat} {dus_Mark_init : List Value}
    {f_Mark_eq : Addr} {od_Mark_eq an_Mark_eq : Option Addr} {sl_Mark_eq : Array (Option Value)} {oc_Mark_eq kV_Mark_eq dc_Mark_eq pm_Mark_eq cd_Mark_eq ct_Mark_eq : Value}
    {f_Mark_str : Addr} {od_Mark_str an_Mark_str : Option Addr} {sl_Mark_str : Array (Option Value)} {oc_Mark_str kV_Mark_str dc_Mark_str pm_Mark_str cd_Mark_str ct_Mark_str : Value}
    {f_Mark_repr : Addr} {od_Mark_repr an_Mark_repr : Option Addr} {sl_Mark_repr : Array (Option Value)} {oc_Mark_repr kV_Mark_repr dc_Mark_repr pm_Mark_repr cd_Mark_repr ct_Mark_repr : Value}
    {f_Mark_len : Addr} {od_Mark_len an_Mark_len : Option Addr} {sl_Mark_len : Array (Option Value)} {oc_Mark_len kV_Mark_len dc_Mark_len pm_Mark_len cd_Mark_len ct_Mark_len : Value}
    {f_Mark_letters : Addr} {od_Mark_letters an_Mark_letters : Option Addr} {sl_Mark_letters : Array (Option Value)} {oc_Mark_letters kV_Mark_letters dc_Mark_letters pm_Mark_letters cd_Mark_letters ct_Mark_letters : Value}
    {f_Mark_number : Addr} {od_Mark_number an_Mark_number : Option Addr} {sl_Mark_number : Array (Option Value)} {oc_Mark_number kV_Mark_number dc_Mark_number pm_Mark_number cd_Mark_number ct_Mark_number : Value}
    {f_Mark_points : Addr} {od_Mark_points an_Mark_points : Option Addr} {sl_Mark_points : Array (Option Value)} {oc_Mark_points kV_Mark_points dc_Mark_points pm_Mark_points cd_Mark_points ct_Mark_points : Value}
    {f_Mark_makers : Addr} {od_Mark_makers an_Mark_makers : Option Addr} {sl_Mark_makers : Array (Option Value)} {oc_Mark_makers kV_Mark_makers dc_Mark_makers pm_Mark_makers cd_Mark_makers ct_Mark_makers : Value}
    {f_Mark_year : Addr} {od_Mark_year an_Mark_year : Option Addr} {sl_Mark_year : Array (Option Value)} {oc_Mark_year kV_Mark_year dc_Mark_year pm_Mark_year cd_Mark_year ct_Mark_year : Value}
    {f_Mark_copy_number : Addr} {od_Mark_copy_number an_Mark_copy_number : Option Addr} {sl_Mark_copy_number : Array (Option Value)} {oc_Mark_copy_number kV_Mark_copy_number dc_Mark_copy_number pm_Mark_copy_number cd_Mark_copy_number ct_Mark_copy_number : Value}
    {f_Mark_parts : Addr} {od_Mark_parts an_Mark_parts : Option Addr} {sl_Mark_parts : Array (Option Value)} {oc_Mark_parts kV_Mark_parts dc_Mark_parts pm_Mark_parts cd_Mark_parts ct_Mark_parts : Value}
    {f_Mark_key : Addr} {od_Mark_key an_Mark_key : Option Addr} {sl_Mark_key : Array (Option Value)} {oc_Mark_key kV_Mark_key dc_Mark_key pm_Mark_key cd_Mark_key ct_Mark_key : Value}
    {f_Mark_ahead : Addr} {od_Mark_ahead an_Mark_ahead : Option Addr} {sl_Mark_ahead : Array (Option Value)} {oc_Mark_ahead kV_Mark_ahead dc_Mark_ahead pm_Mark_ahead cd_Mark_ahead ct_Mark_ahead : Value}
    {f_Mark_head : Addr} {od_Mark_head an_Mark_head : Option Addr} {sl_Mark_head : Array (Option Value)} {oc_Mark_head kV_Mark_head dc_Mark_head pm_Mark_head cd_Mark_head ct_Mark_head : Value}
    {f_Mark_book : Addr} {od_Mark_book an_Mark_book : Option Addr} {sl_Mark_book : Array (Option Value)} {oc_Mark_book kV_Mark_book dc_Mark_book pm_Mark_book cd_Mark_book ct_Mark_book : Value}
    {f_Mark_with_year : Addr} {od_Mark_with_year an_Mark_with_year : Option Addr} {sl_Mark_with_year : Array (Option Value)} {oc_Mark_with_year kV_Mark_with_year dc_Mark_with_year pm_Mark_with_year cd_Mark_with_year ct_Mark_with_year : Value}
    {dT_Mark_with_year : Addr} {do_Mark_with_year : Obj} {dn_Mark_with_year : Nat} {dus_Mark_with_year : List Value}
    {f_Mark_with_copy : Addr} {od_Mark_with_copy an_Mark_with_copy : Option Addr} {sl_Mark_with_copy : Array (Option Value)} {oc_Mark_with_copy kV_Mark_with_copy dc_Mark_with_copy pm_Mark_with_copy cd_Mark_with_copy ct_Mark_with_copy : Value}
    {dT_Mark_with_copy : Addr} {do_Mark_with_copy : Obj} {dn_Mark_with_copy : Nat} {dus_Mark_with_copy : List Value}
    {f_Mark_same_book : Addr} {od_Mark_same_book an_Mark_same_book : Option Addr} {sl_Mark_same_book : Array (Option Value)} {oc_Mark_same_book kV_Mark_same_book dc_Mark_same_book pm_Mark_same_book cd_Mark_same_book ct_Mark_same_book : Value}
    {f_kept_makers : Addr} {od_kept_makers an_kept_makers : Option Addr} {sl_kept_makers : Array (Option Value)} {oc_kept_makers kV_kept_makers dc_kept_makers pm_kept_makers cd_kept_makers ct_kept_makers : Value}
    {f_text_of : Addr} {od_text_of an_text_of : Option Addr} {sl_text_of : Array (Option Value)} {oc_text_of kV_text_of dc_text_of pm_text_of cd_text_of ct_text_of : Value}
    {f_l_cell_at : Addr} {od_l_cell_at an_l_cell_at : Option Addr} {sl_l_cell_at : Array (Option Value)} {oc_l_cell_at kV_l_cell_at dc_l_cell_at pm_l_cell_at cd_l_cell_at ct_l_cell_at : Value}
    {f_l_pool : Addr} {od_l_pool an_l_pool : Option Addr} {sl_l_pool : Array (Option Value)} {oc_l_pool kV_l_pool dc_l_pool pm_l_pool cd_l_pool ct_l_pool : Value}
    {f_l_take : Addr} {od_l_take an_l_take : Option Addr} {sl_l_take : Array (Option Value)} {oc_l_take kV_l_take dc_l_take pm_l_take cd_l_take ct_l_take : Value}
    {f_l_figures : Addr} {od_l_figures an_l_figures : Option Addr} {sl_l_figures : Array (Option Value)} {oc_l_figures kV_l_figures dc_l_figures pm_l_figures cd_l_figures ct_l_figures : Value}
    {f_l_maker : Addr} {od_l_maker an_l_maker : Option Addr} {sl_l_maker : Array (Option Value)} {oc_l_maker kV_l_maker dc_l_maker pm_l_maker cd_l_maker ct_l_maker : Value}
    {f_l_parts : Addr} {od_l_parts an_l_parts : Option Addr} {sl_l_parts : Array (Option Value)} {oc_l_parts kV_l_parts dc_l_parts pm_l_parts cd_l_parts ct_l_parts : Value}
    {f_l_near_word : Addr} {od_l_near_word an_l_near_word : Option Addr} {sl_l_near_word : Array (Option Value)} {oc_l_near_word kV_l_near_word dc_l_near_word pm_l_near_word cd_l_near_word ct_l_near_word : Value}
    {f_l_near_makers : Addr} {od_l_near_makers an_l_near_makers : Option Addr} {sl_l_near_makers : Array (Option Value)} {oc_l_near_makers kV_l_near_makers dc_l_near_makers pm_l_near_makers cd_l_near_makers ct_l_near_makers : Value}
    {f_l_near_year : Addr} {od_l_near_year an_l_near_year : Option Addr} {sl_l_near_year : Array (Option Value)} {oc_l_near_year kV_l_near_year dc_l_near_year pm_l_near_year cd_l_near_year ct_l_near_year : Value}
    {f_l_near_copy : Addr} {od_l_near_copy an_l_near_copy : Option Addr} {sl_l_near_copy : Array (Option Value)} {oc_l_near_copy kV_l_near_copy dc_l_near_copy pm_l_near_copy cd_l_near_copy ct_l_near_copy : Value}
    {f_l_near : Addr} {od_l_near an_l_near : Option Addr} {sl_l_near : Array (Option Value)} {oc_l_near kV_l_near dc_l_near pm_l_near cd_l_near ct_l_near : Value}
    {f_l_mark : Addr} {od_l_mark an_l_mark : Option Addr} {sl_l_mark : Array (Option Value)} {oc_l_mark kV_l_mark dc_l_mark pm_l_mark cd_l_mark ct_l_mark : Value}
    {f_l_key : Addr} {od_l_key an_l_key : Option Addr} {sl_l_key : Array (Option Value)} {oc_l_key kV_l_key dc_l_key pm_l_key cd_l_key ct_l_key : Value}
    {f_l_whole : Addr} {od_l_whole an_l_whole : Option Addr} {sl_l_whole : Array (Option Value)} {oc_l_whole kV_l_whole dc_l_whole pm_l_whole cd_l_whole ct_l_whole : Value}
    {f_l_cells : Addr} {od_l_cells an_l_cells : Option Addr} {sl_l_cells : Array (Option Value)} {oc_l_cells kV_l_cells dc_l_cells pm_l_cells cd_l_cells ct_l_cells : Value}
    {f_l_rows : Addr} {od_l_rows an_l_rows : Option Addr} {sl_l_rows : Array (Option Value)} {oc_l_rows kV_l_rows dc_l_rows pm_l_rows cd_l_rows ct_l_rows : Value}
    {f_l_once : Addr} {od_l_once an_l_once : Option Addr} {sl_l_once : Array (Option Value)} {oc_l_once kV_l_once dc_l_once pm_l_once cd_l_once ct_l_once : Value}
    {f_l_same : Addr} {od_l_same an_l_same : Option Addr} {sl_l_same : Array (Option Value)} {oc_l_same kV_l_same dc_l_same pm_l_same cd_l_same ct_l_same : Value}
    {f_l_wrong : Addr} {od_l_wrong an_l_wrong : Option Addr} {sl_l_wrong : Array (Option Value)} {oc_l_wrong kV_l_wrong dc_l_wrong pm_l_wrong cd_l_wrong ct_l_wrong : Value}
    {f_law : Addr} {od_law an_law : Option Addr} {sl_law : Array (Option Value)} {oc_law kV_law dc_law pm_law cd_law ct_law : Value}
    {tk_SMALL : Tok}
    (aC_Mark : PySem.W.nsIn K mainGlobals "Mark" = some (some (.ref C_Mark)))
    (pg_Mark : PySem.W.plainGet K C_Mark Str.empty = true)
    (hd_Mark : PySem.W.hasDictIn K C_Mark = true)
    (po_Mark : PySem.W.plainOver K C_Mark = true)
    (sa_Mark : PySem.W.findIn K (.ref C_Mark) "__setattr__" = some (some (.builtin "object.__setattr__")))
    (mk_Mark : PySem.W.makesIn K C_Mark = true)
    (kc_Mark : PySem.W.keepIn K (.ref C_Mark) = true)
    (t1_Mark : PySem.W.findIn K (.ref C_Mark) "__class__" = some (some (.builtin "object.__class__")))
    (t4_Mark : PySem.W.mroIn K C_Mark (.type "object") = some true)
    (t2_Mark : PySem.W.specialIn K (.builtin "object.__class__") "__get__" = some (some (.builtin "getset_descriptor.__get__")))
    (t3_Mark : PySem.W.takesIn K (.builtin "object.__class__") = some true)
    (ne_Mark : PySem.W.findIn K (.ref C_Mark) "__ne__" = some (some (.builtin "object.__ne__")))
    (ic_Mark : PySem.W.isClsIn K C_Mark = true)
    (ty_Mark : PySem.W.typeIn K (.ref C_Mark) = some (.type "type"))
    (na_Mark_parts : PySem.W.findIn K (.ref C_Mark) "_parts" = some none)
    (na_Mark_text : PySem.W.findIn K (.ref C_Mark) "_text" = some none)
    (a_in_order : PySem.W.nsIn K mainGlobals "in_order" = some (some (.ref f_in_order)))
    (l_in_order : K.lookup f_in_order = some ⟨oc_in_order, od_in_order, .func (PySem.W.fnOf "in_order" "in_order" (defArgs s_in_order) (defBody s_in_order) (defScope s_in_order) (.ref dT_in_order) kV_in_order dc_in_order pm_in_order an_in_order cd_in_order ct_in_order), sl_in_order⟩)
    (c_in_order : PySem.W.codeIn K cd_in_order "in_order" = true)
    (k_in_order : PySem.W.keepIn K (.ref f_in_order) = true)
    (e_in_order : K.lookup dT_in_order = some do_in_order)
    (x_in_order : do_in_order.data = .seq dus_in_order.toArray dn_in_order)
    (v_in_order : Vals [.bl false] dus_in_order)
    (a_first_wrong : PySem.W.nsIn K mainGlobals "first_wrong" = some (some (.ref f_first_wrong)))
    (l_first_wrong : K.lookup f_first_wrong = some ⟨oc_first_wrong, od_first_wrong, .func (PySem.W.fnOf "first_wrong" "first_wrong" (defArgs s_first_wrong) (defBody s_first_wrong) (defScope s_first_wrong) .none kV_first_wrong dc_first_wrong pm_first_wrong an_first_wrong cd_first_wrong ct_first_wrong), sl_first_wrong⟩)
    (c_first_wrong : PySem.W.codeIn K cd_first_wrong "first_wrong" = true)
    (k_first_wrong : PySem.W.keepIn K (.ref f_first_wrong) = true)
    (a_key : PySem.W.nsIn K mainGlobals "_key" = some (some (.ref f_key)))
    (l_key : K.lookup f_key = some ⟨oc_key, od_key, .func (PySem.W.fnOf "_key" "_key" (defArgs s_key) (defBody s_key) (defScope s_key) .none kV_key dc_key pm_key an_key cd_key ct_key), sl_key⟩)
    (c_key : PySem.W.codeIn K cd_key "_key" = true)
    (k_key : PySem.W.keepIn K (.ref f_key) = true)
    (a_is_number : PySem.W.nsIn K mainGlobals "is_number" = some (some (.ref f_is_number)))
    (l_is_number : K.lookup f_is_number = some ⟨oc_is_number, od_is_number, .func (PySem.W.fnOf "is_number" "is_number" (defArgs s_is_number) (defBody s_is_number) (defScope s_is_number) .none kV_is_number dc_is_number pm_is_number an_is_number cd_is_number ct_is_number), sl_is_number⟩)
    (c_is_number : PySem.W.codeIn K cd_is_number "is_number" = true)
    (k_is_number : PySem.W.keepIn K (.ref f_is_number) = true)
    (a_is_whole : PySem.W.nsIn K mainGlobals "is_whole" = some (some (.ref f_is_whole)))
    (l_is_whole : K.lookup f_is_whole = some ⟨oc_is_whole, od_is_whole, .func (PySem.W.fnOf "is_whole" "is_whole" (defArgs s_is_whole) (defBody s_is_whole) (defScope s_is_whole) (.ref dT_is_whole) kV_is_whole dc_is_whole pm_is_whole an_is_whole cd_is_whole ct_is_whole), sl_is_whole⟩)
    (c_is_whole : PySem.W.codeIn K cd_is_whole "is_whole" = true)
    (k_is_whole : PySem.W.keepIn K (.ref f_is_whole) = true)
    (e_is_whole : K.lookup dT_is_whole = some do_is_whole)
    (x_is_whole : do_is_whole.data = .seq dus_is_whole.toArray dn_is_whole)
    (v_is_whole : Vals [.non] dus_is_whole)
    (a_is_figures : PySem.W.nsIn K mainGlobals "is_figures" = some (some (.ref f_is_figures)))
    (l_is_figures : K.lookup f_is_figures = some ⟨oc_is_figures, od_is_figures, .func (PySem.W.fnOf "is_figures" "is_figures" (defArgs s_is_figures) (defBody s_is_figures) (defScope s_is_figures) .none kV_is_figures dc_is_figures pm_is_figures an_is_figures cd_is_figures ct_is_figures), sl_is_figures⟩)
    (c_is_figures : PySem.W.codeIn K cd_is_figures "is_figures" = true)
    (k_is_figures : PySem.W.keepIn K (.ref f_is_figures) = true)
    (a_is_letters : PySem.W.nsIn K mainGlobals "is_letters" = some (some (.ref f_is_letters)))
    (l_is_letters : K.lookup f_is_letters = some ⟨oc_is_letters, od_is_letters, .func (PySem.W.fnOf "is_letters" "is_letters" (defArgs s_is_letters) (defBody s_is_letters) (defScope s_is_letters) .none kV_is_letters dc_is_letters pm_is_letters an_is_letters cd_is_letters ct_is_letters), sl_is_letters⟩)
    (c_is_letters : PySem.W.codeIn K cd_is_letters "is_letters" = true)
    (k_is_letters : PySem.W.keepIn K (.ref f_is_letters) = true)
    (a_is_points : PySem.W.nsIn K mainGlobals "is_points" = some (some (.ref f_is_points)))
    (l_is_points : K.lookup f_is_points = some ⟨oc_is_points, od_is_points, .func (PySem.W.fnOf "is_points" "is_points" (defArgs s_is_points) (defBody s_is_points) (defScope s_is_points) .none kV_is_points dc_is_points pm_is_points an_is_points cd_is_points ct_is_points), sl_is_points⟩)
    (c_is_points : PySem.W.codeIn K cd_is_points "is_points" = true)
    (k_is_points : PySem.W.keepIn K (.ref f_is_points) = true)
    (a_is_maker : PySem.W.nsIn K mainGlobals "is_maker" = some (some (.ref f_is_maker)))
    (l_is_maker : K.lookup f_is_maker = some ⟨oc_is_maker, od_is_maker, .func (PySem.W.fnOf "is_maker" "is_maker" (defArgs s_is_maker) (defBody s_is_maker) (defScope s_is_maker) .none kV_is_maker dc_is_maker pm_is_maker an_is_maker cd_is_maker ct_is_maker), sl_is_maker⟩)
    (c_is_maker : PySem.W.codeIn K cd_is_maker "is_maker" = true)
    (k_is_maker : PySem.W.keepIn K (.ref f_is_maker) = true)
    (a_is_ended : PySem.W.nsIn K mainGlobals "_is_ended" = some (some (.ref f_is_ended)))
    (l_is_ended : K.lookup f_is_ended = some ⟨oc_is_ended, od_is_ended, .func (PySem.W.fnOf "_is_ended" "_is_ended" (defArgs s_is_ended) (defBody s_is_ended) (defScope s_is_ended) .none kV_is_ended dc_is_ended pm_is_ended an_is_ended cd_is_ended ct_is_ended), sl_is_ended⟩)
    (c_is_ended : PySem.W.codeIn K cd_is_ended "_is_ended" = true)
    (k_is_ended : PySem.W.keepIn K (.ref f_is_ended) = true)
    (a_Mark_init : PySem.W.findIn K (.ref C_Mark) "__init__" = some (some (.ref f_Mark_init)))
    (i_Mark_init : PySem.W.isFn K (.ref f_Mark_init) = true)
    (l_Mark_init : K.lookup f_Mark_init = some ⟨oc_Mark_init, od_Mark_init, .func (PySem.W.fnOf "__init__" "Mark.__init__" (defArgs s_Mark_init) (defBody s_Mark_init) (defScope s_Mark_init) (.ref dT_Mark_init) kV_Mark_init dc_Mark_init pm_Mark_init an_Mark_init cd_Mark_init ct_Mark_init), sl_Mark_init⟩)
    (c_Mark_init : PySem.W.codeIn K cd_Mark_init "Mark.__init__" = true)
    (k_Mark_init : PySem.W.keepIn K (.ref f_Mark_init) = true)
    (e_Mark_init : K.lookup dT_Mark_init = some do_Mark_init)
    (x_Mark_init : do_Mark_init.data = .seq dus_Mark_init.toArray dn_Mark_init)
    (v_Mark_init : Vals [.str Str.empty, .non, .non, .non] dus_Mark_init)
    (a_Mark_eq : PySem.W.findIn K (.ref C_Mark) "__eq__" = some (some (.ref f_Mark_eq)))
    (i_Mark_eq : PySem.W.isFn K (.ref f_Mark_eq) = true)
    (l_Mark_eq : K.lookup f_Mark_eq = some ⟨oc_Mark_eq, od_Mark_eq, .func (PySem.W.fnOf "__eq__" "Mark.__eq__" (defArgs s_Mark_eq) (defBody s_Mark_eq) (defScope s_Mark_eq) .none kV_Mark_eq dc_Mark_eq pm_Mark_eq an_Mark_eq cd_Mark_eq ct_Mark_eq), sl_Mark_eq⟩)
    (c_Mark_eq : PySem.W.codeIn K cd_Mark_eq "Mark.__eq__" = true)
    (k_Mark_eq : PySem.W.keepIn K (.ref f_Mark_eq) = true)
    (a_Mark_str : PySem.W.findIn K (.ref C_Mark) "__str__" = some (some (.ref f_Mark_str)))
    (i_Mark_str : PySem.W.isFn K (.ref f_Mark_str) = true)
    (l_Mark_str : K.lookup f_Mark_str = some ⟨oc_Mark_str, od_Mark_str, .func (PySem.W.fnOf "__str__" "Mark.__str__" (defArgs s_Mark_str) (defBody s_Mark_str) (defScope s_Mark_str) .none kV_Mark_str dc_Mark_str pm_Mark_str an_Mark_str cd_Mark_str ct_Mark_str), sl_Mark_str⟩)
    (c_Mark_str : PySem.W.codeIn K cd_Mark_str "Mark.__str__" = true)
    (k_Mark_str : PySem.W.keepIn K (.ref f_Mark_str) = true)
    (a_Mark_repr : PySem.W.findIn K (.ref C_Mark) "__repr__" = some (some (.ref f_Mark_repr)))
    (i_Mark_repr : PySem.W.isFn K (.ref f_Mark_repr) = true)
    (l_Mark_repr : K.lookup f_Mark_repr = some ⟨oc_Mark_repr, od_Mark_repr, .func (PySem.W.fnOf "__repr__" "Mark.__repr__" (defArgs s_Mark_repr) (defBody s_Mark_repr) (defScope s_Mark_repr) .none kV_Mark_repr dc_Mark_repr pm_Mark_repr an_Mark_repr cd_Mark_repr ct_Mark_repr), sl_Mark_repr⟩)
    (c_Mark_repr : PySem.W.codeIn K cd_Mark_repr "Mark.__repr__" = true)
    (k_Mark_repr : PySem.W.keepIn K (.ref f_Mark_repr) = true)
    (a_Mark_len : PySem.W.findIn K (.ref C_Mark) "__len__" = some (some (.ref f_Mark_len)))
    (i_Mark_len : PySem.W.isFn K (.ref f_Mark_len) = true)
    (l_Mark_len : K.lookup f_Mark_len = some ⟨oc_Mark_len, od_Mark_len, .func (PySem.W.fnOf "__len__" "Mark.__len__" (defArgs s_Mark_len) (defBody s_Mark_len) (defScope s_Mark_len) .none kV_Mark_len dc_Mark_len pm_Mark_len an_Mark_len cd_Mark_len ct_Mark_len), sl_Mark_len⟩)
    (c_Mark_len : PySem.W.codeIn K cd_Mark_len "Mark.__len__" = true)
    (k_Mark_len : PySem.W.keepIn K (.ref f_Mark_len) = true)
    (a_Mark_letters : PySem.W.findIn K (.ref C_Mark) "letters" = some (some (.ref f_Mark_letters)))
    (i_Mark_letters : PySem.W.isFn K (.ref f_Mark_letters) = true)
    (l_Mark_letters : K.lookup f_Mark_letters = some ⟨oc_Mark_letters, od_Mark_letters, .func (PySem.W.fnOf "letters" "Mark.letters" (defArgs s_Mark_letters) (defBody s_Mark_letters) (defScope s_Mark_letters) .none kV_Mark_letters dc_Mark_letters pm_Mark_letters an_Mark_letters cd_Mark_letters ct_Mark_letters), sl_Mark_letters⟩)
    (c_Mark_letters : PySem.W.codeIn K cd_Mark_letters "Mark.letters" = true)
    (k_Mark_letters : PySem.W.keepIn K (.ref f_Mark_letters) = true)
    (a_Mark_number : PySem.W.findIn K (.ref C_Mark) "number" = some (some (.ref f_Mark_number)))
    (i_Mark_number : PySem.W.isFn K (.ref f_Mark_number) = true)
    (l_Mark_number : K.lookup f_Mark_number = some ⟨oc_Mark_number, od_Mark_number, .func (PySem.W.fnOf "number" "Mark.number" (defArgs s_Mark_number) (defBody s_Mark_number) (defScope s_Mark_number) .none kV_Mark_number dc_Mark_number pm_Mark_number an_Mark_number cd_Mark_number ct_Mark_number), sl_Mark_number⟩)
    (c_Mark_number : PySem.W.codeIn K cd_Mark_number "Mark.number" = true)
    (k_Mark_number : PySem.W.keepIn K (.ref f_Mark_number) = true)
    (a_Mark_points : PySem.W.findIn K (.ref C_Mark) "points" = some (some (.ref f_Mark_points)))
    (i_Mark_points : PySem.W.isFn K (.ref f_Mark_points) = true)
    (l_Mark_points : K.lookup f_Mark_points = some ⟨oc_Mark_points, od_Mark_points, .func (PySem.W.fnOf "points" "Mark.points" (defArgs s_Mark_points) (defBody s_Mark_points) (defScope s_Mark_points) .none kV_Mark_points dc_Mark_points pm_Mark_points an_Mark_points cd_Mark_points ct_Mark_points), sl_Mark_points⟩)
    (c_Mark_points : PySem.W.codeIn K cd_Mark_points "Mark.points" = true)
    (k_Mark_points : PySem.W.keepIn K (.ref f_Mark_points) = true)
    (a_Mark_makers : PySem.W.findIn K (.ref C_Mark) "makers" = some (some (.ref f_Mark_makers)))
    (i_Mark_makers : PySem.W.isFn K (.ref f_Mark_makers) = true)
    (l_Mark_makers : K.lookup f_Mark_makers = some ⟨oc_Mark_makers, od_Mark_makers, .func (PySem.W.fnOf "makers" "Mark.makers" (defArgs s_Mark_makers) (defBody s_Mark_makers) (defScope s_Mark_makers) .none kV_Mark_makers dc_Mark_makers pm_Mark_makers an_Mark_makers cd_Mark_makers ct_Mark_makers), sl_Mark_makers⟩)
    (c_Mark_makers : PySem.W.codeIn K cd_Mark_makers "Mark.makers" = true)
    (k_Mark_makers : PySem.W.keepIn K (.ref f_Mark_makers) = true)
    (a_Mark_year : PySem.W.findIn K (.ref C_Mark) "year" = some (some (.ref f_Mark_year)))
    (i_Mark_year : PySem.W.isFn K (.ref f_Mark_year) = true)
    (l_Mark_year : K.lookup f_Mark_year = some ⟨oc_Mark_year, od_Mark_year, .func (PySem.W.fnOf "year" "Mark.year" (defArgs s_Mark_year) (defBody s_Mark_year) (defScope s_Mark_year) .none kV_Mark_year dc_Mark_year pm_Mark_year an_Mark_year cd_Mark_year ct_Mark_year), sl_Mark_year⟩)
    (c_Mark_year : PySem.W.codeIn K cd_Mark_year "Mark.year" = true)
    (k_Mark_year : PySem.W.keepIn K (.ref f_Mark_year) = true)
    (a_Mark_copy_number : PySem.W.findIn K (.ref C_Mark) "copy_number" = some (some (.ref f_Mark_copy_number)))
    (i_Mark_copy_number : PySem.W.isFn K (.ref f_Mark_copy_number) = true)
    (l_Mark_copy_number : K.lookup f_Mark_copy_number = some ⟨oc_Mark_copy_number, od_Mark_copy_number, .func (PySem.W.fnOf "copy_number" "Mark.copy_number" (defArgs s_Mark_copy_number) (defBody s_Mark_copy_number) (defScope s_Mark_copy_number) .none kV_Mark_copy_number dc_Mark_copy_number pm_Mark_copy_number an_Mark_copy_number cd_Mark_copy_number ct_Mark_copy_number), sl_Mark_copy_number⟩)
    (c_Mark_copy_number : PySem.W.codeIn K cd_Mark_copy_number "Mark.copy_number" = true)
    (k_Mark_copy_number : PySem.W.keepIn K (.ref f_Mark_copy_number) = true)
    (a_Mark_parts : PySem.W.findIn K (.ref C_Mark) "parts" = some (some (.ref f_Mark_parts)))
    (i_Mark_parts : PySem.W.isFn K (.ref f_Mark_parts) = true)
    (l_Mark_parts : K.lookup f_Mark_parts = some ⟨oc_Mark_parts, od_Mark_parts, .func (PySem.W.fnOf "parts" "Mark.parts" (defArgs s_Mark_parts) (defBody s_Mark_parts) (defScope s_Mark_parts) .none kV_Mark_parts dc_Mark_parts pm_Mark_parts an_Mark_parts cd_Mark_parts ct_Mark_parts), sl_Mark_parts⟩)
    (c_Mark_parts : PySem.W.codeIn K cd_Mark_parts "Mark.parts" = true)
    (k_Mark_parts : PySem.W.keepIn K (.ref f_Mark_parts) = true)
    (a_Mark_key : PySem.W.findIn K (.ref C_Mark) "key" = some (some (.ref f_Mark_key)))
    (i_Mark_key : PySem.W.isFn K (.ref f_Mark_key) = true)
    (l_Mark_key : K.lookup f_Mark_key = some ⟨oc_Mark_key, od_Mark_key, .func (PySem.W.fnOf "key" "Mark.key" (defArgs s_Mark_key) (defBody s_Mark_key) (defScope s_Mark_key) .none kV_Mark_key dc_Mark_key pm_Mark_key an_Mark_key cd_Mark_key ct_Mark_key), sl_Mark_key⟩)
    (c_Mark_key : PySem.W.codeIn K cd_Mark_key "Mark.key" = true)
    (k_Mark_key : PySem.W.keepIn K (.ref f_Mark_key) = true)
    (a_Mark_ahead : PySem.W.findIn K (.ref C_Mark) "ahead" = some (some (.ref f_Mark_ahead)))
    (i_Mark_ahead : PySem.W.isFn K (.ref f_Mark_ahead) = true)
    (l_Mark_ahead : K.lookup f_Mark_ahead = some ⟨oc_Mark_ahead, od_Mark_ahead, .func (PySem.W.fnOf "ahead" "Mark.ahead" (defArgs s_Mark_ahead) (defBody s_Mark_ahead) (defScope s_Mark_ahead) .none kV_Mark_ahead dc_Mark_ahead pm_Mark_ahead an_Mark_ahead cd_Mark_ahead ct_Mark_ahead), sl_Mark_ahead⟩)
    (c_Mark_ahead : PySem.W.codeIn K cd_Mark_ahead "Mark.ahead" = true)
    (k_Mark_ahead : PySem.W.keepIn K (.ref f_Mark_ahead) = true)
    (a_Mark_head : PySem.W.findIn K (.ref C_Mark) "head" = some (some (.ref f_Mark_head)))
    (i_Mark_head : PySem.W.isFn K (.ref f_Mark_head) = true)
    (l_Mark_head : K.lookup f_Mark_head = some ⟨oc_Mark_head, od_Mark_head, .func (PySem.W.fnOf "head" "Mark.head" (defArgs s_Mark_head) (defBody s_Mark_head) (defScope s_Mark_head) .none kV_Mark_head dc_Mark_head pm_Mark_head an_Mark_head cd_Mark_head ct_Mark_head), sl_Mark_head⟩)
    (c_Mark_head : PySem.W.codeIn K cd_Mark_head "Mark.head" = true)
    (k_Mark_head : PySem.W.keepIn K (.ref f_Mark_head) = true)
    (a_Mark_book : PySem.W.findIn K (.ref C_Mark) "book" = some (some (.ref f_Mark_book)))
    (i_Mark_book : PySem.W.isFn K (.ref f_Mark_book) = true)
    (l_Mark_book : K.lookup f_Mark_book = some ⟨oc_Mark_book, od_Mark_book, .func (PySem.W.fnOf "book" "Mark.book" (defArgs s_Mark_book) (defBody s_Mark_book) (defScope s_Mark_book) .none kV_Mark_book dc_Mark_book pm_Mark_book an_Mark_book cd_Mark_book ct_Mark_book), sl_Mark_book⟩)
    (c_Mark_book : PySem.W.codeIn K cd_Mark_book "Mark.book" = true)
    (k_Mark_book : PySem.W.keepIn K (.ref f_Mark_book) = true)
    (a_Mark_with_year : PySem.W.findIn K (.ref C_Mark) "with_year" = some (some (.ref f_Mark_with_year)))
    (i_Mark_with_year : PySem.W.isFn K (.ref f_Mark_with_year) = true)
    (l_Mark_with_year : K.lookup f_Mark_with_year = some ⟨oc_Mark_with_year, od_Mark_with_year, .func (PySem.W.fnOf "with_year" "Mark.with_year" (defArgs s_Mark_with_year) (defBody s_Mark_with_year) (defScope s_Mark_with_year) (.ref dT_Mark_with_year) kV_Mark_with_year dc_Mark_with_year pm_Mark_with_year an_Mark_with_year cd_Mark_with_year ct_Mark_with_year), sl_Mark_with_year⟩)
    (c_Mark_with_year : PySem.W.codeIn K cd_Mark_with_year "Mark.with_year" = true)
    (k_Mark_with_year : PySem.W.keepIn K (.ref f_Mark_with_year) = true)
    (e_Mark_with_year : K.lookup dT_Mark_with_year = some do_Mark_with_year)
    (x_Mark_with_year : do_Mark_with_year.data = .seq dus_Mark_with_year.toArray dn_Mark_with_year)
    (v_Mark_with_year : Vals [.non] dus_Mark_with_year)
    (a_Mark_with_copy : PySem.W.findIn K (.ref C_Mark) "with_copy" = some (some (.ref f_Mark_with_copy)))
    (i_Mark_with_copy : PySem.W.isFn K (.ref f_Mark_with_copy) = true)
    (l_Mark_with_copy : K.lookup f_Mark_with_copy = some ⟨oc_Mark_with_copy, od_Mark_with_copy, .func (PySem.W.fnOf "with_copy" "Mark.with_copy" (defArgs s_Mark_with_copy) (defBody s_Mark_with_copy) (defScope s_Mark_with_copy) (.ref dT_Mark_with_copy) kV_Mark_with_copy dc_Mark_with_copy pm_Mark_with_copy an_Mark_with_copy cd_Mark_with_copy ct_Mark_with_copy), sl_Mark_with_copy⟩)
    (c_Mark_with_copy : PySem.W.codeIn K cd_Mark_with_copy "Mark.with_copy" = true)
    (k_Mark_with_copy : PySem.W.keepIn K (.ref f_Mark_with_copy) = true)
    (e_Mark_with_copy : K.lookup dT_Mark_with_copy = some do_Mark_with_copy)
    (x_Mark_with_copy : do_Mark_with_copy.data = .seq dus_Mark_with_copy.toArray dn_Mark_with_copy)
    (v_Mark_with_copy : Vals [.non] dus_Mark_with_copy)
    (a_Mark_same_book : PySem.W.findIn K (.ref C_Mark) "same_book" = some (some (.ref f_Mark_same_book)))
    (i_Mark_same_book : PySem.W.isFn K (.ref f_Mark_same_book) = true)
    (l_Mark_same_book : K.lookup f_Mark_same_book = some ⟨oc_Mark_same_book, od_Mark_same_book, .func (PySem.W.fnOf "same_book" "Mark.same_book" (defArgs s_Mark_same_book) (defBody s_Mark_same_book) (defScope s_Mark_same_book) .none kV_Mark_same_book dc_Mark_same_book pm_Mark_same_book an_Mark_same_book cd_Mark_same_book ct_Mark_same_book), sl_Mark_same_book⟩)
    (c_Mark_same_book : PySem.W.codeIn K cd_Mark_same_book "Mark.same_book" = true)
    (k_Mark_same_book : PySem.W.keepIn K (.ref f_Mark_same_book) = true)
    (a_kept_makers : PySem.W.nsIn K mainGlobals "_kept_makers" = some (some (.ref f_kept_makers)))
    (l_kept_makers : K.lookup f_kept_makers = some ⟨oc_kept_makers, od_kept_makers, .func (PySem.W.fnOf "_kept_makers" "_kept_makers" (defArgs s_kept_makers) (defBody s_kept_makers) (defScope s_kept_makers) .none kV_kept_makers dc_kept_makers pm_kept_makers an_kept_makers cd_kept_makers ct_kept_makers), sl_kept_makers⟩)
    (c_kept_makers : PySem.W.codeIn K cd_kept_makers "_kept_makers" = true)
    (k_kept_makers : PySem.W.keepIn K (.ref f_kept_makers) = true)
    (a_text_of : PySem.W.nsIn K mainGlobals "_text_of" = some (some (.ref f_text_of)))
    (l_text_of : K.lookup f_text_of = some ⟨oc_text_of, od_text_of, .func (PySem.W.fnOf "_text_of" "_text_of" (defArgs s_text_of) (defBody s_text_of) (defScope s_text_of) .none kV_text_of dc_text_of pm_text_of an_text_of cd_text_of ct_text_of), sl_text_of⟩)
    (c_text_of : PySem.W.codeIn K cd_text_of "_text_of" = true)
    (k_text_of : PySem.W.keepIn K (.ref f_text_of) = true)
    (a_l_cell_at : PySem.W.nsIn K mainGlobals "_law_cell_at" = some (some (.ref f_l_cell_at)))
    (l_l_cell_at : K.lookup f_l_cell_at = some ⟨oc_l_cell_at, od_l_cell_at, .func (PySem.W.fnOf "_law_cell_at" "_law_cell_at" (defArgs s_l_cell_at) (defBody s_l_cell_at) (defScope s_l_cell_at) .none kV_l_cell_at dc_l_cell_at pm_l_cell_at an_l_cell_at cd_l_cell_at ct_l_cell_at), sl_l_cell_at⟩)
    (c_l_cell_at : PySem.W.codeIn K cd_l_cell_at "_law_cell_at" = true)
    (k_l_cell_at : PySem.W.keepIn K (.ref f_l_cell_at) = true)
    (a_l_pool : PySem.W.nsIn K mainGlobals "_law_pool" = some (some (.ref f_l_pool)))
    (l_l_pool : K.lookup f_l_pool = some ⟨oc_l_pool, od_l_pool, .func (PySem.W.fnOf "_law_pool" "_law_pool" (defArgs s_l_pool) (defBody s_l_pool) (defScope s_l_pool) .none kV_l_pool dc_l_pool pm_l_pool an_l_pool cd_l_pool ct_l_pool), sl_l_pool⟩)
    (c_l_pool : PySem.W.codeIn K cd_l_pool "_law_pool" = true)
    (k_l_pool : PySem.W.keepIn K (.ref f_l_pool) = true)
    (a_l_take : PySem.W.nsIn K mainGlobals "_law_take" = some (some (.ref f_l_take)))
    (l_l_take : K.lookup f_l_take = some ⟨oc_l_take, od_l_take, .func (PySem.W.fnOf "_law_take" "_law_take" (defArgs s_l_take) (defBody s_l_take) (defScope s_l_take) .none kV_l_take dc_l_take pm_l_take an_l_take cd_l_take ct_l_take), sl_l_take⟩)
    (c_l_take : PySem.W.codeIn K cd_l_take "_law_take" = true)
    (k_l_take : PySem.W.keepIn K (.ref f_l_take) = true)
    (a_l_figures : PySem.W.nsIn K mainGlobals "_law_figures" = some (some (.ref f_l_figures)))
    (l_l_figures : K.lookup f_l_figures = some ⟨oc_l_figures, od_l_figures, .func (PySem.W.fnOf "_law_figures" "_law_figures" (defArgs s_l_figures) (defBody s_l_figures) (defScope s_l_figures) .none kV_l_figures dc_l_figures pm_l_figures an_l_figures cd_l_figures ct_l_figures), sl_l_figures⟩)
    (c_l_figures : PySem.W.codeIn K cd_l_figures "_law_figures" = true)
    (k_l_figures : PySem.W.keepIn K (.ref f_l_figures) = true)
    (a_l_maker : PySem.W.nsIn K mainGlobals "_law_maker" = some (some (.ref f_l_maker)))
    (l_l_maker : K.lookup f_l_maker = some ⟨oc_l_maker, od_l_maker, .func (PySem.W.fnOf "_law_maker" "_law_maker" (defArgs s_l_maker) (defBody s_l_maker) (defScope s_l_maker) .none kV_l_maker dc_l_maker pm_l_maker an_l_maker cd_l_maker ct_l_maker), sl_l_maker⟩)
    (c_l_maker : PySem.W.codeIn K cd_l_maker "_law_maker" = true)
    (k_l_maker : PySem.W.keepIn K (.ref f_l_maker) = true)
    (a_l_parts : PySem.W.nsIn K mainGlobals "_law_parts" = some (some (.ref f_l_parts)))
    (l_l_parts : K.lookup f_l_parts = some ⟨oc_l_parts, od_l_parts, .func (PySem.W.fnOf "_law_parts" "_law_parts" (defArgs s_l_parts) (defBody s_l_parts) (defScope s_l_parts) .none kV_l_parts dc_l_parts pm_l_parts an_l_parts cd_l_parts ct_l_parts), sl_l_parts⟩)
    (c_l_parts : PySem.W.codeIn K cd_l_parts "_law_parts" = true)
    (k_l_parts : PySem.W.keepIn K (.ref f_l_parts) = true)
    (a_l_near_word : PySem.W.nsIn K mainGlobals "_law_near_word" = some (some (.ref f_l_near_word)))
    (l_l_near_word : K.lookup f_l_near_word = some ⟨oc_l_near_word, od_l_near_word, .func (PySem.W.fnOf "_law_near_word" "_law_near_word" (defArgs s_l_near_word) (defBody s_l_near_word) (defScope s_l_near_word) .none kV_l_near_word dc_l_near_word pm_l_near_word an_l_near_word cd_l_near_word ct_l_near_word), sl_l_near_word⟩)
    (c_l_near_word : PySem.W.codeIn K cd_l_near_word "_law_near_word" = true)
    (k_l_near_word : PySem.W.keepIn K (.ref f_l_near_word) = true)
    (a_l_near_makers : PySem.W.nsIn K mainGlobals "_law_near_makers" = some (some (.ref f_l_near_makers)))
    (l_l_near_makers : K.lookup f_l_near_makers = some ⟨oc_l_near_makers, od_l_near_makers, .func (PySem.W.fnOf "_law_near_makers" "_law_near_makers" (defArgs s_l_near_makers) (defBody s_l_near_makers) (defScope s_l_near_makers) .none kV_l_near_makers dc_l_near_makers pm_l_near_makers an_l_near_makers cd_l_near_makers ct_l_near_makers), sl_l_near_makers⟩)
    (c_l_near_makers : PySem.W.codeIn K cd_l_near_makers "_law_near_makers" = true)
    (k_l_near_makers : PySem.W.keepIn K (.ref f_l_near_makers) = true)
    (a_l_near_year : PySem.W.nsIn K mainGlobals "_law_near_year" = some (some (.ref f_l_near_year)))
    (l_l_near_year : K.lookup f_l_near_year = some ⟨oc_l_near_year, od_l_near_year, .func (PySem.W.fnOf "_law_near_year" "_law_near_year" (defArgs s_l_near_year) (defBody s_l_near_year) (defScope s_l_near_year) .none kV_l_near_year dc_l_near_year pm_l_near_year an_l_near_year cd_l_near_year ct_l_near_year), sl_l_near_year⟩)
    (c_l_near_year : PySem.W.codeIn K cd_l_near_year "_law_near_year" = true)
    (k_l_near_year : PySem.W.keepIn K (.ref f_l_near_year) = true)
    (a_l_near_copy : PySem.W.nsIn K mainGlobals "_law_near_copy" = some (some (.ref f_l_near_copy)))
    (l_l_near_copy : K.lookup f_l_near_copy = some ⟨oc_l_near_copy, od_l_near_copy, .func (PySem.W.fnOf "_law_near_copy" "_law_near_copy" (defArgs s_l_near_copy) (defBody s_l_near_copy) (defScope s_l_near_copy) .none kV_l_near_copy dc_l_near_copy pm_l_near_copy an_l_near_copy cd_l_near_copy ct_l_near_copy), sl_l_near_copy⟩)
    (c_l_near_copy : PySem.W.codeIn K cd_l_near_copy "_law_near_copy" = true)
    (k_l_near_copy : PySem.W.keepIn K (.ref f_l_near_copy) = true)
    (a_l_near : PySem.W.nsIn K mainGlobals "_law_near" = some (some (.ref f_l_near)))
    (l_l_near : K.lookup f_l_near = some ⟨oc_l_near, od_l_near, .func (PySem.W.fnOf "_law_near" "_law_near" (defArgs s_l_near) (defBody s_l_near) (defScope s_l_near) .none kV_l_near dc_l_near pm_l_near an_l_near cd_l_near ct_l_near), sl_l_near⟩)
    (c_l_near : PySem.W.codeIn K cd_l_near "_law_near" = true)
    (k_l_near : PySem.W.keepIn K (.ref f_l_near) = true)
    (a_l_mark : PySem.W.nsIn K mainGlobals "_law_mark" = some (some (.ref f_l_mark)))
    (l_l_mark : K.lookup f_l_mark = some ⟨oc_l_mark, od_l_mark, .func (PySem.W.fnOf "_law_mark" "_law_mark" (defArgs s_l_mark) (defBody s_l_mark) (defScope s_l_mark) .none kV_l_mark dc_l_mark pm_l_mark an_l_mark cd_l_mark ct_l_mark), sl_l_mark⟩)
    (c_l_mark : PySem.W.codeIn K cd_l_mark "_law_mark" = true)
    (k_l_mark : PySem.W.keepIn K (.ref f_l_mark) = true)
    (a_l_key : PySem.W.nsIn K mainGlobals "_law_key" = some (some (.ref f_l_key)))
    (l_l_key : K.lookup f_l_key = some ⟨oc_l_key, od_l_key, .func (PySem.W.fnOf "_law_key" "_law_key" (defArgs s_l_key) (defBody s_l_key) (defScope s_l_key) .none kV_l_key dc_l_key pm_l_key an_l_key cd_l_key ct_l_key), sl_l_key⟩)
    (c_l_key : PySem.W.codeIn K cd_l_key "_law_key" = true)
    (k_l_key : PySem.W.keepIn K (.ref f_l_key) = true)
    (a_l_whole : PySem.W.nsIn K mainGlobals "_law_whole" = some (some (.ref f_l_whole)))
    (l_l_whole : K.lookup f_l_whole = some ⟨oc_l_whole, od_l_whole, .func (PySem.W.fnOf "_law_whole" "_law_whole" (defArgs s_l_whole) (defBody s_l_whole) (defScope s_l_whole) .none kV_l_whole dc_l_whole pm_l_whole an_l_whole cd_l_whole ct_l_whole), sl_l_whole⟩)
    (c_l_whole : PySem.W.codeIn K cd_l_whole "_law_whole" = true)
    (k_l_whole : PySem.W.keepIn K (.ref f_l_whole) = true)
    (a_l_cells : PySem.W.nsIn K mainGlobals "_law_cells" = some (some (.ref f_l_cells)))
    (l_l_cells : K.lookup f_l_cells = some ⟨oc_l_cells, od_l_cells, .func (PySem.W.fnOf "_law_cells" "_law_cells" (defArgs s_l_cells) (defBody s_l_cells) (defScope s_l_cells) .none kV_l_cells dc_l_cells pm_l_cells an_l_cells cd_l_cells ct_l_cells), sl_l_cells⟩)
    (c_l_cells : PySem.W.codeIn K cd_l_cells "_law_cells" = true)
    (k_l_cells : PySem.W.keepIn K (.ref f_l_cells) = true)
    (a_l_rows : PySem.W.nsIn K mainGlobals "_law_rows" = some (some (.ref f_l_rows)))
    (l_l_rows : K.lookup f_l_rows = some ⟨oc_l_rows, od_l_rows, .func (PySem.W.fnOf "_law_rows" "_law_rows" (defArgs s_l_rows) (defBody s_l_rows) (defScope s_l_rows) .none kV_l_rows dc_l_rows pm_l_rows an_l_rows cd_l_rows ct_l_rows), sl_l_rows⟩)
    (c_l_rows : PySem.W.codeIn K cd_l_rows "_law_rows" = true)
    (k_l_rows : PySem.W.keepIn K (.ref f_l_rows) = true)
    (a_l_once : PySem.W.nsIn K mainGlobals "_law_once" = some (some (.ref f_l_once)))
    (l_l_once : K.lookup f_l_once = some ⟨oc_l_once, od_l_once, .func (PySem.W.fnOf "_law_once" "_law_once" (defArgs s_l_once) (defBody s_l_once) (defScope s_l_once) .none kV_l_once dc_l_once pm_l_once an_l_once cd_l_once ct_l_once), sl_l_once⟩)
    (c_l_once : PySem.W.codeIn K cd_l_once "_law_once" = true)
    (k_l_once : PySem.W.keepIn K (.ref f_l_once) = true)
    (a_l_same : PySem.W.nsIn K mainGlobals "_law_same" = some (some (.ref f_l_same)))
    (l_l_same : K.lookup f_l_same = some ⟨oc_l_same, od_l_same, .func (PySem.W.fnOf "_law_same" "_law_same" (defArgs s_l_same) (defBody s_l_same) (defScope s_l_same) .none kV_l_same dc_l_same pm_l_same an_l_same cd_l_same ct_l_same), sl_l_same⟩)
    (c_l_same : PySem.W.codeIn K cd_l_same "_law_same" = true)
    (k_l_same : PySem.W.keepIn K (.ref f_l_same) = true)
    (a_l_wrong : PySem.W.nsIn K mainGlobals "_law_wrong" = some (some (.ref f_l_wrong)))
    (l_l_wrong : K.lookup f_l_wrong = some ⟨oc_l_wrong, od_l_wrong, .func (PySem.W.fnOf "_law_wrong" "_law_wrong" (defArgs s_l_wrong) (defBody s_l_wrong) (defScope s_l_wrong) .none kV_l_wrong dc_l_wrong pm_l_wrong an_l_wrong cd_l_wrong ct_l_wrong), sl_l_wrong⟩)
    (c_l_wrong : PySem.W.codeIn K cd_l_wrong "_law_wrong" = true)
    (k_l_wrong : PySem.W.keepIn K (.ref f_l_wrong) = true)
    (a_law : PySem.W.nsIn K mainGlobals "law" = some (some (.ref f_law)))
    (l_law : K.lookup f_law = some ⟨oc_law, od_law, .func (PySem.W.fnOf "law" "law" (defArgs s_law) (defBody s_law) (defScope s_law) .none kV_law dc_law pm_law an_law cd_law ct_law), sl_law⟩)
    (c_law : PySem.W.codeIn K cd_law "law" = true)
    (k_law : PySem.W.keepIn K (.ref f_law) = true)
    (z_len : PySem.W.nsIn K mainGlobals "len" = some none)
    (z_isinstance : PySem.W.nsIn K mainGlobals "isinstance" = some none)
    (z_range : PySem.W.nsIn K mainGlobals "range" = some none)
    (z_max : PySem.W.nsIn K mainGlobals "max" = some none)
    (z_int : PySem.W.nsIn K mainGlobals "int" = some none)
    (z_bool : PySem.W.nsIn K mainGlobals "bool" = some none)
    (z_str : PySem.W.nsIn K mainGlobals "str" = some none)
    (z_list : PySem.W.nsIn K mainGlobals "list" = some none)
    (z_tuple : PySem.W.nsIn K mainGlobals "tuple" = some none)
    (z_zip : PySem.W.nsIn K mainGlobals "zip" = some none)
    (z_sorted : PySem.W.nsIn K mainGlobals "sorted" = some none)
    (q_SMALL : PySem.W.nsIn K mainGlobals "SMALL" = some (some (.str "abcdefghijklmnopqrstuvwxyz" tk_SMALL)))
    : ∃ fd : FuncData, (∀ (s : Shared) (v : Value), BindsTo s fd ⟨[v], []⟩ [("_law_script", v)]) ∧ ∀ base : Heap, K.In base → base.Ns mainGlobals mg → FnOk l.prog w K mg base CX0 12 fa fd ["_law_script"] (spLaw K) := by
  have e := hfa.symm.trans (PySem.W.mg_of X G a_law)
  cases e
  have F_in_order : FunD K "in_order" "in_order" (defArgs s_in_order) (defBody s_in_order) (defScope s_in_order) [.bl false] [] f_in_order (PySem.W.fnOf "in_order" "in_order" (defArgs s_in_order) (defBody s_in_order) (defScope s_in_order) (.ref dT_in_order) kV_in_order dc_in_order pm_in_order an_in_order cd_in_order ct_in_order) := ⟨⟨oc_in_order, od_in_order, _, kV_in_order, dc_in_order, pm_in_order, an_in_order, cd_in_order, ct_in_order, sl_in_order, rfl, l_in_order, c_in_order, .inr ⟨by simp, dT_in_order, do_in_order, dus_in_order, dn_in_order, rfl, e_in_order, x_in_order, v_in_order⟩, .inl rfl⟩, k_in_order⟩
  have b_in_ordere : ∃ ds, Vals [] ds ∧ Binds K (PySem.W.fnOf "in_order" "in_order" (defArgs s_in_order) (defBody s_in_order) (defScope s_in_order) (.ref dT_in_order) kV_in_order dc_in_order pm_in_order an_in_order cd_in_order ct_in_order) ["marks", "falling"] ds := F_in_order.binds1 2 1 (by simp) (by rfl) fun _ _ _ _ _ _ _ us its hu hi => match us, its, hu, hi with | [_, _], [_], _, _ => ⟨_, rfl, rfl⟩
  have b_in_order_k1_fallingf : ∃ its : List Value, KBn K (PySem.W.fnOf "in_order" "in_order" (defArgs s_in_order) (defBody s_in_order) (defScope s_in_order) (.ref dT_in_order) kV_in_order dc_in_order pm_in_order an_in_order cd_in_order ct_in_order) ["marks", "falling"] 1 ["falling"] (fun us ws => us ++ (ws.drop 0).take 1) (fun vs zs => vs ++ (zs.drop 0).take 1) := F_in_order.kbindsD 1 ["falling"] (fun us its ws => us ++ (ws.drop 0).take 1) (by simp) (fun r1 r2 r3 => (r1).append (vals_dt 0 r3)) fun _ _ _ _ _ _ _ us its ws hu hi hw => match us, its, ws, hu, hi, hw with | [_], [_], [_], _, _, _ => ⟨_, rfl, rfl⟩
  have b_in_order : Binds K (PySem.W.fnOf "in_order" "in_order" (defArgs s_in_order) (defBody s_in_order) (defScope s_in_order) (.ref dT_in_order) kV_in_order dc_in_order pm_in_order an_in_order cd_in_order ct_in_order) ["marks", "falling"] [] := by
    obtain ⟨ds, r, b⟩ := b_in_ordere
    cases r
    exact b
  have b_in_order_1e : ∃ ds, Vals [.bl false] ds ∧ Binds K (PySem.W.fnOf "in_order" "in_order" (defArgs s_in_order) (defBody s_in_order) (defScope s_in_order) (.ref dT_in_order) kV_in_order dc_in_order pm_in_order an_in_order cd_in_order ct_in_order) ["marks", "falling"] ds := F_in_order.binds1 1 0 (by simp) (by rfl) fun _ _ _ _ _ _ _ us its hu hi => match us, its, hu, hi with | [_], [_], _, _ => ⟨_, rfl, rfl⟩
  have F_first_wrong := fun_mk (st := s_first_wrong) l_first_wrong c_first_wrong k_first_wrong
  have b_first_wrong := F_first_wrong.binds (ps := ["marks"]) fun _ _ _ _ _ _ us hl => match us, hl with | [_], _ => rfl
  have F_key := fun_mk (st := s_key) l_key c_key k_key
  have b_key := F_key.binds (ps := ["mark"]) fun _ _ _ _ _ _ us hl => match us, hl with | [_], _ => rfl
  have F_is_number := fun_mk (st := s_is_number) l_is_number c_is_number k_is_number
  have b_is_number := F_is_number.binds (ps := ["thing"]) fun _ _ _ _ _ _ us hl => match us, hl with | [_], _ => rfl
  have F_is_whole : FunD K "is_whole" "is_whole" (defArgs s_is_whole) (defBody s_is_whole) (defScope s_is_whole) [.non] [] f_is_whole (PySem.W.fnOf "is_whole" "is_whole" (defArgs s_is_whole) (defBody s_is_whole) (defScope s_is_whole) (.ref dT_is_whole) kV_is_whole dc_is_whole pm_is_whole an_is_whole cd_is_whole ct_is_whole) := ⟨⟨oc_is_whole, od_is_whole, _, kV_is_whole, dc_is_whole, pm_is_whole, an_is_whole, cd_is_whole, ct_is_whole, sl_is_whole, rfl, l_is_whole, c_is_whole, .inr ⟨by simp, dT_is_whole, do_is_whole, dus_is_whole, dn_is_whole, rfl, e_is_whole, x_is_whole, v_is_whole⟩, .inl rfl⟩, k_is_whole⟩
  have b_is_wholee : ∃ ds, Vals [] ds ∧ Binds K (PySem.W.fnOf "is_whole" "is_whole" (defArgs s_is_whole) (defBody s_is_whole) (defScope s_is_whole) (.ref dT_is_whole) kV_is_whole dc_is_whole pm_is_whole an_is_whole cd_is_whole ct_is_whole) ["thing", "low", "high"] ds := F_is_whole.binds1 3 1 (by simp) (by rfl) fun _ _ _ _ _ _ _ us its hu hi => match us, its, hu, hi with | [_, _, _], [_], _, _ => ⟨_, rfl, rfl⟩
  have b_is_whole : Binds K (PySem.W.fnOf "is_whole" "is_whole" (defArgs s_is_whole) (defBody s_is_whole) (defScope s_is_whole) (.ref dT_is_whole) kV_is_whole dc_is_whole pm_is_whole an_is_whole cd_is_whole ct_is_whole) ["thing", "low", "high"] [] := by
    obtain ⟨ds, r, b⟩ := b_is_wholee
    cases r
    exact b
  have b_is_whole_2e : ∃ ds, Vals [.non] ds ∧ Binds K (PySem.W.fnOf "is_whole" "is_whole" (defArgs s_is_whole) (defBody s_is_whole) (defScope s_is_whole) (.ref dT_is_whole) kV_is_whole dc_is_whole pm_is_whole an_is_whole cd_is_whole ct_is_whole) ["thing", "low", "high"] ds := F_is_whole.binds1 2 0 (by simp) (by rfl) fun _ _ _ _ _ _ _ us its hu hi => match us, its, hu, hi with | [_, _], [_], _, _ => ⟨_, rfl, rfl⟩
  have F_is_figures := fun_mk (st := s_is_figures) l_is_figures c_is_figures k_is_figures
  have b_is_figures := F_is_figures.binds (ps := ["text"]) fun _ _ _ _ _ _ us hl => match us, hl with | [_], _ => rfl
  have F_is_letters := fun_mk (st := s_is_letters) l_is_letters c_is_letters k_is_letters
  have b_is_letters := F_is_letters.binds (ps := ["thing", "most"]) fun _ _ _ _ _ _ us hl => match us, hl with | [_, _], _ => rfl
  have F_is_points := fun_mk (st := s_is_points) l_is_points c_is_points k_is_points
  have b_is_points := F_is_points.binds (ps := ["thing"]) fun _ _ _ _ _ _ us hl => match us, hl with | [_], _ => rfl
  have F_is_maker := fun_mk (st := s_is_maker) l_is_maker c_is_maker k_is_maker
  have b_is_maker := F_is_maker.binds (ps := ["thing"]) fun _ _ _ _ _ _ us hl => match us, hl with | [_], _ => rfl
  have F_is_ended := fun_mk (st := s_is_ended) l_is_ended c_is_ended k_is_ended
  have b_is_ended := F_is_ended.binds (ps := ["text"]) fun _ _ _ _ _ _ us hl => match us, hl with | [_], _ => rfl
  have F_Mark_init : FunD K "__init__" "Mark.__init__" (defArgs s_Mark_init) (defBody s_Mark_init) (defScope s_Mark_init) [.str Str.empty, .non, .non, .non] [] f_Mark_init (PySem.W.fnOf "__init__" "Mark.__init__" (defArgs s_Mark_init) (defBody s_Mark_init) (defScope s_Mark_init) (.ref dT_Mark_init) kV_Mark_init dc_Mark_init pm_Mark_init an_Mark_init cd_Mark_init ct_Mark_init) := ⟨⟨oc_Mark_init, od_Mark_init, _, kV_Mark_init, dc_Mark_init, pm_Mark_init, an_Mark_init, cd_Mark_init, ct_Mark_init, sl_Mark_init, rfl, l_Mark_init, c_Mark_init, .inr ⟨by simp, dT_Mark_init, do_Mark_init, dus_Mark_init, dn_Mark_init, rfl, e_Mark_init, x_Mark_init, v_Mark_init⟩, .inl rfl⟩, k_Mark_init⟩
  have b_Mark_inite : ∃ ds, Vals [] ds ∧ Binds K (PySem.W.fnOf "__init__" "Mark.__init__" (defArgs s_Mark_init) (defBody s_Mark_init) (defScope s_Mark_init) (.ref dT_Mark_init) kV_Mark_init dc_Mark_init pm_Mark_init an_Mark_init cd_Mark_init ct_Mark_init) ["self", "letters", "number", "points", "makers", "year", "copy"] ds := F_Mark_init.binds1 7 4 (by simp) (by rfl) fun _ _ _ _ _ _ _ us its hu hi => match us, its, hu, hi with | [_, _, _, _, _, _, _], [_, _, _, _], _, _ => ⟨_, rfl, rfl⟩
  have b_Mark_init_k3_points_makers_year_copyf : ∃ its : List Value, KBn K (PySem.W.fnOf "__init__" "Mark.__init__" (defArgs s_Mark_init) (defBody s_Mark_init) (defScope s_Mark_init) (.ref dT_Mark_init) kV_Mark_init dc_Mark_init pm_Mark_init an_Mark_init cd_Mark_init ct_Mark_init) ["self", "letters", "number", "points", "makers", "year", "copy"] 3 ["points", "makers", "year", "copy"] (fun us ws => us ++ (ws.drop 0).take 1 ++ (ws.drop 1).take 1 ++ (ws.drop 2).take 1 ++ (ws.drop 3).take 1) (fun vs zs => vs ++ (zs.drop 0).take 1 ++ (zs.drop 1).take 1 ++ (zs.drop 2).take 1 ++ (zs.drop 3).take 1) := F_Mark_init.kbindsD 3 ["points", "makers", "year", "copy"] (fun us its ws => us ++ (ws.drop 0).take 1 ++ (ws.drop 1).take 1 ++ (ws.drop 2).take 1 ++ (ws.drop 3).take 1) (by simp) (fun r1 r2 r3 => ((((r1).append (vals_dt 0 r3)).append (vals_dt 1 r3)).append (vals_dt 2 r3)).append (vals_dt 3 r3)) fun _ _ _ _ _ _ _ us its ws hu hi hw => match us, its, ws, hu, hi, hw with | [_, _, _], [_, _, _, _], [_, _, _, _], _, _, _ => ⟨_, rfl, rfl⟩
  have b_Mark_init : Binds K (PySem.W.fnOf "__init__" "Mark.__init__" (defArgs s_Mark_init) (defBody s_Mark_init) (defScope s_Mark_init) (.ref dT_Mark_init) kV_Mark_init dc_Mark_init pm_Mark_init an_Mark_init cd_Mark_init ct_Mark_init) ["self", "letters", "number", "points", "makers", "year", "copy"] [] := by
    obtain ⟨ds, r, b⟩ := b_Mark_inite
    cases r
    exact b
  have b_Mark_init_4e : ∃ ds, Vals [.non, .non, .non] ds ∧ Binds K (PySem.W.fnOf "__init__" "Mark.__init__" (defArgs s_Mark_init) (defBody s_Mark_init) (defScope s_Mark_init) (.ref dT_Mark_init) kV_Mark_init dc_Mark_init pm_Mark_init an_Mark_init cd_Mark_init ct_Mark_init) ["self", "letters", "number", "points", "makers", "year", "copy"] ds := F_Mark_init.binds1 4 1 (by simp) (by rfl) fun _ _ _ _ _ _ _ us its hu hi => match us, its, hu, hi with | [_, _, _, _], [_, _, _, _], _, _ => ⟨_, rfl, rfl⟩
  have F_Mark_eq := fun_mk (st := s_Mark_eq) l_Mark_eq c_Mark_eq k_Mark_eq
  have b_Mark_eq := F_Mark_eq.binds (ps := ["self", "other"]) fun _ _ _ _ _ _ us hl => match us, hl with | [_, _], _ => rfl
  have F_Mark_str := fun_mk (st := s_Mark_str) l_Mark_str c_Mark_str k_Mark_str
  have b_Mark_str := F_Mark_str.binds (ps := ["self"]) fun _ _ _ _ _ _ us hl => match us, hl with | [_], _ => rfl
  have F_Mark_repr := fun_mk (st := s_Mark_repr) l_Mark_repr c_Mark_repr k_Mark_repr
  have b_Mark_repr := F_Mark_repr.binds (ps := ["self"]) fun _ _ _ _ _ _ us hl => match us, hl with | [_], _ => rfl
  have F_Mark_len := fun_mk (st := s_Mark_len) l_Mark_len c_Mark_len k_Mark_len
  have b_Mark_len := F_Mark_len.binds (ps := ["self"]) fun _ _ _ _ _ _ us hl => match us, hl with | [_], _ => rfl
  have F_Mark_letters := fun_mk (st := s_Mark_letters) l_Mark_letters c_Mark_letters k_Mark_letters
  have b_Mark_letters := F_Mark_letters.binds (ps := ["self"]) fun _ _ _ _ _ _ us hl => match us, hl with | [_], _ => rfl
  have F_Mark_number := fun_mk (st := s_Mark_number) l_Mark_number c_Mark_number k_Mark_number
  have b_Mark_number := F_Mark_number.binds (ps := ["self"]) fun _ _ _ _ _ _ us hl => match us, hl with | [_], _ => rfl
  have F_Mark_points := fun_mk (st := s_Mark_points) l_Mark_points c_Mark_points k_Mark_points
  have b_Mark_points := F_Mark_points.binds (ps := ["self"]) fun _ _ _ _ _ _ us hl => match us, hl with | [_], _ => rfl
  have F_Mark_makers := fun_mk (st := s_Mark_makers) l_Mark_makers c_Mark_makers k_Mark_makers
  have b_Mark_makers := F_Mark_makers.binds (ps := ["self"]) fun _ _ _ _ _ _ us hl => match us, hl with | [_], _ => rfl
  have F_Mark_year := fun_mk (st := s_Mark_year) l_Mark_year c_Mark_year k_Mark_year
  have b_Mark_year := F_Mark_year.binds (ps := ["self"]) fun _ _ _ _ _ _ us hl => match us, hl with | [_], _ => rfl
  have F_Mark_copy_number := fun_mk (st := s_Mark_copy_number) l_Mark_copy_number c_Mark_copy_number k_Mark_copy_number
  have b_Mark_copy_number := F_Mark_copy_number.binds (ps := ["self"]) fun _ _ _ _ _ _ us hl => match us, hl with | [_], _ => rfl
  have F_Mark_parts := fun_mk (st := s_Mark_parts) l_Mark_parts c_Mark_parts k_Mark_parts
  have b_Mark_parts := F_Mark_parts.binds (ps := ["self"]) fun _ _ _ _ _ _ us hl => match us, hl with | [_], _ => rfl
  have F_Mark_key := fun_mk (st := s_Mark_key) l_Mark_key c_Mark_key k_Mark_key
  have b_Mark_key := F_Mark_key.binds (ps := ["self"]) fun _ _ _ _ _ _ us hl => match us, hl with | [_], _ => rfl
  have F_Mark_ahead := fun_mk (st := s_Mark_ahead) l_Mark_ahead c_Mark_ahead k_Mark_ahead
  have b_Mark_ahead := F_Mark_ahead.binds (ps := ["self", "other"]) fun _ _ _ _ _ _ us hl => match us, hl with | [_, _], _ => rfl
  have F_Mark_head := fun_mk (st := s_Mark_head) l_Mark_head c_Mark_head k_Mark_head
  have b_Mark_head := F_Mark_head.binds (ps := ["self"]) fun _ _ _ _ _ _ us hl => match us, hl with | [_], _ => rfl
  have F_Mark_book := fun_mk (st := s_Mark_book) l_Mark_book c_Mark_book k_Mark_book
  have b_Mark_book := F_Mark_book.binds (ps := ["self"]) fun _ _ _ _ _ _ us hl => match us, hl with | [_], _ => rfl
  have F_Mark_with_year : FunD K "with_year" "Mark.with_year" (defArgs s_Mark_with_year) (defBody s_Mark_with_year) (defScope s_Mark_with_year) [.non] [] f_Mark_with_year (PySem.W.fnOf "with_year" "Mark.with_year" (defArgs s_Mark_with_year) (defBody s_Mark_with_year) (defScope s_Mark_with_year) (.ref dT_Mark_with_year) kV_Mark_with_year dc_Mark_with_year pm_Mark_with_year an_Mark_with_year cd_Mark_with_year ct_Mark_with_year) := ⟨⟨oc_Mark_with_year, od_Mark_with_year, _, kV_Mark_with_year, dc_Mark_with_year, pm_Mark_with_year, an_Mark_with_year, cd_Mark_with_year, ct_Mark_with_year, sl_Mark_with_year, rfl, l_Mark_with_year, c_Mark_with_year, .inr ⟨by simp, dT_Mark_with_year, do_Mark_with_year, dus_Mark_with_year, dn_Mark_with_year, rfl, e_Mark_with_year, x_Mark_with_year, v_Mark_with_year⟩, .inl rfl⟩, k_Mark_with_year⟩
  have b_Mark_with_yeare : ∃ ds, Vals [] ds ∧ Binds K (PySem.W.fnOf "with_year" "Mark.with_year" (defArgs s_Mark_with_year) (defBody s_Mark_with_year) (defScope s_Mark_with_year) (.ref dT_Mark_with_year) kV_Mark_with_year dc_Mark_with_year pm_Mark_with_year an_Mark_with_year cd_Mark_with_year ct_Mark_with_year) ["self", "year"] ds := F_Mark_with_year.binds1 2 1 (by simp) (by rfl) fun _ _ _ _ _ _ _ us its hu hi => match us, its, hu, hi with | [_, _], [_], _, _ => ⟨_, rfl, rfl⟩
  have b_Mark_with_year : Binds K (PySem.W.fnOf "with_year" "Mark.with_year" (defArgs s_Mark_with_year) (defBody s_Mark_with_year) (defScope s_Mark_with_year) (.ref dT_Mark_with_year) kV_Mark_with_year dc_Mark_with_year pm_Mark_with_year an_Mark_with_year cd_Mark_with_year ct_Mark_with_year) ["self", "year"] [] := by
    obtain ⟨ds, r, b⟩ := b_Mark_with_yeare
    cases r
    exact b
  have F_Mark_with_copy : FunD K "with_copy" "Mark.with_copy" (defArgs s_Mark_with_copy) (defBody s_Mark_with_copy) (defScope s_Mark_with_copy) [.non] [] f_Mark_with_copy (PySem.W.fnOf "with_copy" "Mark.with_copy" (defArgs s_Mark_with_copy) (defBody s_Mark_with_copy) (defScope s_Mark_with_copy) (.ref dT_Mark_with_copy) kV_Mark_with_copy dc_Mark_with_copy pm_Mark_with_copy an_Mark_with_copy cd_Mark_with_copy ct_Mark_with_copy) := ⟨⟨oc_Mark_with_copy, od_Mark_with_copy, _, kV_Mark_with_copy, dc_Mark_with_copy, pm_Mark_with_copy, an_Mark_with_copy, cd_Mark_with_copy, ct_Mark_with_copy, sl_Mark_with_copy, rfl, l_Mark_with_copy, c_Mark_with_copy, .inr ⟨by simp, dT_Mark_with_copy, do_Mark_with_copy, dus_Mark_with_copy, dn_Mark_with_copy, rfl, e_Mark_with_copy, x_Mark_with_copy, v_Mark_with_copy⟩, .inl rfl⟩, k_Mark_with_copy⟩
  have b_Mark_with_copye : ∃ ds, Vals [] ds ∧ Binds K (PySem.W.fnOf "with_copy" "Mark.with_copy" (defArgs s_Mark_with_copy) (defBody s_Mark_with_copy) (defScope s_Mark_with_copy) (.ref dT_Mark_with_copy) kV_Mark_with_copy dc_Mark_with_copy pm_Mark_with_copy an_Mark_with_copy cd_Mark_with_copy ct_Mark_with_copy) ["self", "copy"] ds := F_Mark_with_copy.binds1 2 1 (by simp) (by rfl) fun _ _ _ _ _ _ _ us its hu hi => match us, its, hu, hi with | [_, _], [_], _, _ => ⟨_, rfl, rfl⟩
  have b_Mark_with_copy : Binds K (PySem.W.fnOf "with_copy" "Mark.with_copy" (defArgs s_Mark_with_copy) (defBody s_Mark_with_copy) (defScope s_Mark_with_copy) (.ref dT_Mark_with_copy) kV_Mark_with_copy dc_Mark_with_copy pm_Mark_with_copy an_Mark_with_copy cd_Mark_with_copy ct_Mark_with_copy) ["self", "copy"] [] := by
    obtain ⟨ds, r, b⟩ := b_Mark_with_copye
    cases r
    exact b
  have F_Mark_same_book := fun_mk (st := s_Mark_same_book) l_Mark_same_book c_Mark_same_book k_Mark_same_book
  have b_Mark_same_book := F_Mark_same_book.binds (ps := ["self", "other"]) fun _ _ _ _ _ _ us hl => match us, hl with | [_, _], _ => rfl
  have F_kept_makers := fun_mk (st := s_kept_makers) l_kept_makers c_kept_makers k_kept_makers
  have b_kept_makers := F_kept_makers.binds (ps := ["makers"]) fun _ _ _ _ _ _ us hl => match us, hl with | [_], _ => rfl
  have F_text_of := fun_mk (st := s_text_of) l_text_of c_text_of k_text_of
  have b_text_of := F_text_of.binds (ps := ["parts"]) fun _ _ _ _ _ _ us hl => match us, hl with | [_], _ => rfl
  have F_l_cell_at := fun_mk (st := s_l_cell_at) l_l_cell_at c_l_cell_at k_l_cell_at
  have b_l_cell_at := F_l_cell_at.binds (ps := ["_law_script", "_law_k"]) fun _ _ _ _ _ _ us hl => match us, hl with | [_, _], _ => rfl
  have F_l_pool := fun_mk (st := s_l_pool) l_l_pool c_l_pool k_l_pool
  have b_l_pool := F_l_pool.binds (ps := ["_law_cell"]) fun _ _ _ _ _ _ us hl => match us, hl with | [_], _ => rfl
  have F_l_take := fun_mk (st := s_l_take) l_l_take c_l_take k_l_take
  have b_l_take := F_l_take.binds (ps := ["_law_pool_here", "_law_size"]) fun _ _ _ _ _ _ us hl => match us, hl with | [_, _], _ => rfl
  have F_l_figures := fun_mk (st := s_l_figures) l_l_figures c_l_figures k_l_figures
  have b_l_figures := F_l_figures.binds (ps := ["_law_pool_here", "_law_most"]) fun _ _ _ _ _ _ us hl => match us, hl with | [_, _], _ => rfl
  have F_l_maker := fun_mk (st := s_l_maker) l_l_maker c_l_maker k_l_maker
  have b_l_maker := F_l_maker.binds (ps := ["_law_pool_here", "_law_most"]) fun _ _ _ _ _ _ us hl => match us, hl with | [_, _], _ => rfl
  have F_l_parts := fun_mk (st := s_l_parts) l_l_parts c_l_parts k_l_parts
  have b_l_parts := F_l_parts.binds (ps := ["_law_pool_here"]) fun _ _ _ _ _ _ us hl => match us, hl with | [_], _ => rfl
  have F_l_near_word := fun_mk (st := s_l_near_word) l_l_near_word c_l_near_word k_l_near_word
  have b_l_near_word := F_l_near_word.binds (ps := ["_law_word", "_law_pool_here"]) fun _ _ _ _ _ _ us hl => match us, hl with | [_, _], _ => rfl
  have F_l_near_makers := fun_mk (st := s_l_near_makers) l_l_near_makers c_l_near_makers k_l_near_makers
  have b_l_near_makers := F_l_near_makers.binds (ps := ["_law_hands", "_law_pool_here"]) fun _ _ _ _ _ _ us hl => match us, hl with | [_, _], _ => rfl
  have F_l_near_year := fun_mk (st := s_l_near_year) l_l_near_year c_l_near_year k_l_near_year
  have b_l_near_year := F_l_near_year.binds (ps := ["_law_age", "_law_pool_here"]) fun _ _ _ _ _ _ us hl => match us, hl with | [_, _], _ => rfl
  have F_l_near_copy := fun_mk (st := s_l_near_copy) l_l_near_copy c_l_near_copy k_l_near_copy
  have b_l_near_copy := F_l_near_copy.binds (ps := ["_law_twin", "_law_pool_here"]) fun _ _ _ _ _ _ us hl => match us, hl with | [_, _], _ => rfl
  have F_l_near := fun_mk (st := s_l_near) l_l_near c_l_near k_l_near
  have b_l_near := F_l_near.binds (ps := ["_law_parts_here", "_law_at", "_law_pool_here"]) fun _ _ _ _ _ _ us hl => match us, hl with | [_, _, _], _ => rfl
  have F_l_mark := fun_mk (st := s_l_mark) l_l_mark c_l_mark k_l_mark
  have b_l_mark := F_l_mark.binds (ps := ["_law_parts_here"]) fun _ _ _ _ _ _ us hl => match us, hl with | [_], _ => rfl
  have F_l_key := fun_mk (st := s_l_key) l_l_key c_l_key k_l_key
  have b_l_key := F_l_key.binds (ps := ["_law_parts_here"]) fun _ _ _ _ _ _ us hl => match us, hl with | [_], _ => rfl
  have F_l_whole := fun_mk (st := s_l_whole) l_l_whole c_l_whole k_l_whole
  have b_l_whole := F_l_whole.binds (ps := ["_law_found"]) fun _ _ _ _ _ _ us hl => match us, hl with | [_], _ => rfl
  have F_l_cells := fun_mk (st := s_l_cells) l_l_cells c_l_cells k_l_cells
  have b_l_cells := F_l_cells.binds (ps := ["_law_script", "_law_count"]) fun _ _ _ _ _ _ us hl => match us, hl with | [_, _], _ => rfl
  have F_l_rows := fun_mk (st := s_l_rows) l_l_rows c_l_rows k_l_rows
  have b_l_rows := F_l_rows.binds (ps := ["_law_script", "_law_count"]) fun _ _ _ _ _ _ us hl => match us, hl with | [_, _], _ => rfl
  have F_l_once := fun_mk (st := s_l_once) l_l_once c_l_once k_l_once
  have b_l_once := F_l_once.binds (ps := ["_law_rows_here"]) fun _ _ _ _ _ _ us hl => match us, hl with | [_], _ => rfl
  have F_l_same := fun_mk (st := s_l_same) l_l_same c_l_same k_l_same
  have b_l_same := F_l_same.binds (ps := ["_law_told", "_law_due"]) fun _ _ _ _ _ _ us hl => match us, hl with | [_, _], _ => rfl
  have F_l_wrong := fun_mk (st := s_l_wrong) l_l_wrong c_l_wrong k_l_wrong
  have b_l_wrong := F_l_wrong.binds (ps := ["_law_rows_here"]) fun _ _ _ _ _ _ us hl => match us, hl with | [_], _ => rfl
  have F_law := fun_mk (st := s_law) l_law c_law k_law
  have b_law := F_law.binds (ps := ["_law_script"]) fun _ _ _ _ _ _ us hl => match us, hl with | [_], _ => rfl
  have T : Txt K mg { a_in_order := f_in_order, a_first_wrong := f_first_wrong, a_key := f_key, a_is_number := f_is_number, a_is_whole := f_is_whole, a_is_figures := f_is_figures, a_is_letters := f_is_letters, a_is_points := f_is_points, a_is_maker := f_is_maker, a_is_ended := f_is_ended, a_Mark_init := f_Mark_init, a_Mark_eq := f_Mark_eq, a_Mark_str := f_Mark_str, a_Mark_repr := f_Mark_repr, a_Mark_len := f_Mark_len, a_Mark_letters := f_Mark_letters, a_Mark_number := f_Mark_number, a_Mark_points := f_Mark_points, a_Mark_makers := f_Mark_makers, a_Mark_year := f_Mark_year, a_Mark_copy_number := f_Mark_copy_number, a_Mark_parts := f_Mark_parts, a_Mark_key := f_Mark_key, a_Mark_ahead := f_Mark_ahead, a_Mark_head := f_Mark_head, a_Mark_book := f_Mark_book, a_Mark_with_year := f_Mark_with_year, a_Mark_with_copy := f_Mark_with_copy, a_Mark_same_book := f_Mark_same_book, a_kept_makers := f_kept_makers, a_text_of := f_text_of, a_l_cell_at := f_l_cell_at, a_l_pool := f_l_pool, a_l_take := f_l_take, a_l_figures := f_l_figures, a_l_maker := f_l_maker, a_l_parts := f_l_parts, a_l_near_word := f_l_near_word, a_l_near_makers := f_l_near_makers, a_l_near_year := f_l_near_year, a_l_near_copy := f_l_near_copy, a_l_near := f_l_near, a_l_mark := f_l_mark, a_l_key := f_l_key, a_l_whole := f_l_whole, a_l_cells := f_l_cells, a_l_rows := f_l_rows, a_l_once := f_l_once, a_l_same := f_l_same, a_l_wrong := f_l_wrong, a_law := fa, d_in_order := _, d_first_wrong := _, d_key := _, d_is_number := _, d_is_whole := _, d_is_figures := _, d_is_letters := _, d_is_points := _, d_is_maker := _, d_is_ended := _, d_Mark_init := _, d_Mark_eq := _, d_Mark_str := _, d_Mark_repr := _, d_Mark_len := _, d_Mark_letters := _, d_Mark_number := _, d_Mark_points := _, d_Mark_makers := _, d_Mark_year := _, d_Mark_copy_number := _, d_Mark_parts := _, d_Mark_key := _, d_Mark_ahead := _, d_Mark_head := _, d_Mark_book := _, d_Mark_with_year := _, d_Mark_with_copy := _, d_Mark_same_book := _, d_kept_makers := _, d_text_of := _, d_l_cell_at := _, d_l_pool := _, d_l_take := _, d_l_figures := _, d_l_maker := _, d_l_parts := _, d_l_near_word := _, d_l_near_makers := _, d_l_near_year := _, d_l_near_copy := _, d_l_near := _, d_l_mark := _, d_l_key := _, d_l_whole := _, d_l_cells := _, d_l_rows := _, d_l_once := _, d_l_same := _, d_l_wrong := _, d_law := _, C_Mark := C_Mark } :=
    { F_in_order := F_in_order,
      g_in_order := PySem.W.mg_of X G a_in_order,
      b_in_order := b_in_order,
      b_in_order_k1_falling := b_in_order_k1_fallingf,
      b_in_order_1 := b_in_order_1e,
      F_first_wrong := F_first_wrong,
      g_first_wrong := PySem.W.mg_of X G a_first_wrong,
      b_first_wrong := b_first_wrong,
      F_key := F_key,
      g_key := PySem.W.mg_of X G a_key,
      b_key := b_key,
      F_is_number := F_is_number,
      g_is_number := PySem.W.mg_of X G a_is_number,
      b_is_number := b_is_number,
      F_is_whole := F_is_whole,
      g_is_whole := PySem.W.mg_of X G a_is_whole,
      b_is_whole := b_is_whole,
      b_is_whole_2 := b_is_whole_2e,
      F_is_figures := F_is_figures,
      g_is_figures := PySem.W.mg_of X G a_is_figures,
      b_is_figures := b_is_figures,
      F_is_letters := F_is_letters,
      g_is_letters := PySem.W.mg_of X G a_is_letters,
      b_is_letters := b_is_letters,
      F_is_points := F_is_points,
      g_is_points := PySem.W.mg_of X G a_is_points,
      b_is_points := b_is_points,
      F_is_maker := F_is_maker,
      g_is_maker := PySem.W.mg_of X G a_is_maker,
      b_is_maker := b_is_maker,
      F_is_ended := F_is_ended,
      g_is_ended := PySem.W.mg_of X G a_is_ended,
      b_is_ended := b_is_ended,
      F_Mark_init := F_Mark_init,
      b_Mark_init := b_Mark_init,
      b_Mark_init_k3_points_makers_year_copy := b_Mark_init_k3_points_makers_year_copyf,
      b_Mark_init_4 := b_Mark_init_4e,
      F_Mark_eq := F_Mark_eq,
      m_Mark_eq := ⟨a_Mark_eq, i_Mark_eq, k_Mark_eq⟩,
      b_Mark_eq := b_Mark_eq,
      F_Mark_str := F_Mark_str,
      m_Mark_str := ⟨a_Mark_str, i_Mark_str, k_Mark_str⟩,
      b_Mark_str := b_Mark_str,
      F_Mark_repr := F_Mark_repr,
      m_Mark_repr := ⟨a_Mark_repr, i_Mark_repr, k_Mark_repr⟩,
      b_Mark_repr := b_Mark_repr,
      F_Mark_len := F_Mark_len,
      m_Mark_len := ⟨a_Mark_len, i_Mark_len, k_Mark_len⟩,
      b_Mark_len := b_Mark_len,
      F_Mark_letters := F_Mark_letters,
      m_Mark_letters := ⟨a_Mark_letters, i_Mark_letters, k_Mark_letters⟩,
      b_Mark_letters := b_Mark_letters,
      F_Mark_number := F_Mark_number,
      m_Mark_number := ⟨a_Mark_number, i_Mark_number, k_Mark_number⟩,
      b_Mark_number := b_Mark_number,
      F_Mark_points := F_Mark_points,
      m_Mark_points := ⟨a_Mark_points, i_Mark_points, k_Mark_points⟩,
      b_Mark_points := b_Mark_points,
      F_Mark_makers := F_Mark_makers,
      m_Mark_makers := ⟨a_Mark_makers, i_Mark_makers, k_Mark_makers⟩,
      b_Mark_makers := b_Mark_makers,
      F_Mark_year := F_Mark_year,
      m_Mark_year := ⟨a_Mark_year, i_Mark_year, k_Mark_year⟩,
      b_Mark_year := b_Mark_year,
      F_Mark_copy_number := F_Mark_copy_number,
      m_Mark_copy_number := ⟨a_Mark_copy_number, i_Mark_copy_number, k_Mark_copy_number⟩,
      b_Mark_copy_number := b_Mark_copy_number,
      F_Mark_parts := F_Mark_parts,
      m_Mark_parts := ⟨a_Mark_parts, i_Mark_parts, k_Mark_parts⟩,
      b_Mark_parts := b_Mark_parts,
      F_Mark_key := F_Mark_key,
      m_Mark_key := ⟨a_Mark_key, i_Mark_key, k_Mark_key⟩,
      b_Mark_key := b_Mark_key,
      F_Mark_ahead := F_Mark_ahead,
      m_Mark_ahead := ⟨a_Mark_ahead, i_Mark_ahead, k_Mark_ahead⟩,
      b_Mark_ahead := b_Mark_ahead,
      F_Mark_head := F_Mark_head,
      m_Mark_head := ⟨a_Mark_head, i_Mark_head, k_Mark_head⟩,
      b_Mark_head := b_Mark_head,
      F_Mark_book := F_Mark_book,
      m_Mark_book := ⟨a_Mark_book, i_Mark_book, k_Mark_book⟩,
      b_Mark_book := b_Mark_book,
      F_Mark_with_year := F_Mark_with_year,
      m_Mark_with_year := ⟨a_Mark_with_year, i_Mark_with_year, k_Mark_with_year⟩,
      b_Mark_with_year := b_Mark_with_year,
      F_Mark_with_copy := F_Mark_with_copy,
      m_Mark_with_copy := ⟨a_Mark_with_copy, i_Mark_with_copy, k_Mark_with_copy⟩,
      b_Mark_with_copy := b_Mark_with_copy,
      F_Mark_same_book := F_Mark_same_book,
      m_Mark_same_book := ⟨a_Mark_same_book, i_Mark_same_book, k_Mark_same_book⟩,
      b_Mark_same_book := b_Mark_same_book,
      F_kept_makers := F_kept_makers,
      g_kept_makers := PySem.W.mg_of X G a_kept_makers,
      b_kept_makers := b_kept_makers,
      F_text_of := F_text_of,
      g_text_of := PySem.W.mg_of X G a_text_of,
      b_text_of := b_text_of,
      F_l_cell_at := F_l_cell_at,
      g_l_cell_at := PySem.W.mg_of X G a_l_cell_at,
      b_l_cell_at := b_l_cell_at,
      F_l_pool := F_l_pool,
      g_l_pool := PySem.W.mg_of X G a_l_pool,
      b_l_pool := b_l_pool,
      F_l_take := F_l_take,
      g_l_take := PySem.W.mg_of X G a_l_take,
      b_l_take := b_l_take,
      F_l_figures := F_l_figures,
      g_l_figures := PySem.W.mg_of X G a_l_figures,
      b_l_figures := b_l_figures,
      F_l_maker := F_l_maker,
      g_l_maker := PySem.W.mg_of X G a_l_maker,
      b_l_maker := b_l_maker,
      F_l_parts := F_l_parts,
      g_l_parts := PySem.W.mg_of X G a_l_parts,
      b_l_parts := b_l_parts,
      F_l_near_word := F_l_near_word,
      g_l_near_word := PySem.W.mg_of X G a_l_near_word,
      b_l_near_word := b_l_near_word,
      F_l_near_makers := F_l_near_makers,
      g_l_near_makers := PySem.W.mg_of X G a_l_near_makers,
      b_l_near_makers := b_l_near_makers,
      F_l_near_year := F_l_near_year,
      g_l_near_year := PySem.W.mg_of X G a_l_near_year,
      b_l_near_year := b_l_near_year,
      F_l_near_copy := F_l_near_copy,
      g_l_near_copy := PySem.W.mg_of X G a_l_near_copy,
      b_l_near_copy := b_l_near_copy,
      F_l_near := F_l_near,
      g_l_near := PySem.W.mg_of X G a_l_near,
      b_l_near := b_l_near,
      F_l_mark := F_l_mark,
      g_l_mark := PySem.W.mg_of X G a_l_mark,
      b_l_mark := b_l_mark,
      F_l_key := F_l_key,
      g_l_key := PySem.W.mg_of X G a_l_key,
      b_l_key := b_l_key,
      F_l_whole := F_l_whole,
      g_l_whole := PySem.W.mg_of X G a_l_whole,
      b_l_whole := b_l_whole,
      F_l_cells := F_l_cells,
      g_l_cells := PySem.W.mg_of X G a_l_cells,
      b_l_cells := b_l_cells,
      F_l_rows := F_l_rows,
      g_l_rows := PySem.W.mg_of X G a_l_rows,
      b_l_rows := b_l_rows,
      F_l_once := F_l_once,
      g_l_once := PySem.W.mg_of X G a_l_once,
      b_l_once := b_l_once,
      F_l_same := F_l_same,
      g_l_same := PySem.W.mg_of X G a_l_same,
      b_l_same := b_l_same,
      F_l_wrong := F_l_wrong,
      g_l_wrong := PySem.W.mg_of X G a_l_wrong,
      b_l_wrong := b_l_wrong,
      F_law := F_law,
      g_law := PySem.W.mg_of X G a_law,
      b_law := b_law,
      g_Mark := PySem.W.mg_of X G aC_Mark,
      cl_Mark := ⟨pg_Mark, hd_Mark, po_Mark, sa_Mark⟩,
      M_Mark := ⟨mk_Mark, a_Mark_init, i_Mark_init, kc_Mark⟩,
      t1_Mark := t1_Mark,
      t2_Mark := t2_Mark,
      t3_Mark := t3_Mark,
      t4_Mark := t4_Mark,
      ne_Mark := ne_Mark,
      ki_Mark := by rw [show (PySem.W.clsIn K C_Mark).isSome = true from ic_Mark, ty_Mark]; rfl,
      na_Mark_parts := na_Mark_parts,
      na_Mark_text := na_Mark_text,
      n_len := PySem.W.mg_none_of X G z_len,
      n_isinstance := PySem.W.mg_none_of X G z_isinstance,
      n_range := PySem.W.mg_none_of X G z_range,
      n_max := PySem.W.mg_none_of X G z_max,
      n_int := PySem.W.mg_none_of X G z_int,
      n_bool := PySem.W.mg_none_of X G z_bool,
      n_str := PySem.W.mg_none_of X G z_str,
      n_list := PySem.W.mg_none_of X G z_list,
      n_tuple := PySem.W.mg_none_of X G z_tuple,
      n_zip := PySem.W.mg_none_of X G z_zip,
      n_sorted := PySem.W.mg_none_of X G z_sorted,
      c_SMALL := ⟨_, PySem.W.mg_of X G q_SMALL⟩ }
  exact ⟨PySem.W.fnOf "law" "law" (defArgs s_law) (defBody s_law) (defScope s_law) .none kV_law dc_law pm_law an_law cd_law ct_law, fun s v => .of_eq rfl, fun base _ _ => ok_law T⟩
theorem walk {l : PySem.W.OpenLaw} {q : Program} {loose : List Str} {XP : (Str → Option Value) → Heap → Prop} {YP : World → Heap → Prop} {d : DefRec} {K : Params → PySem.W.Frag} (hn : l.most = some 63) (hdf : d.params.defaults = [])
    (hY : ∀ (w : World) (h : Heap), YP w h → (K w.params).In h)
    (F : ∀ (w : World) (mg : Str → Option Value) (fa : Addr) (h : Heap), (K w.params).In h → h.Ns mainGlobals mg → mg d.name = some (.ref fa) →
      ∃ fd : FuncData, (∀ (s : Shared) (u : Value), BindsTo s fd ⟨[u], []⟩ [("_law_script", u)]) ∧ ∀ base : Heap, (K w.params).In base → base.Ns mainGlobals mg → FnOk l.prog w (K w.params) mg base CX0 12 fa fd ["_law_script"] (spLaw (K w.params))) :
    PySem.W.WalkO q loose XP YP l.row.toRowW d [] (fun f vs => PySem.call f vs) :=
  L2.walk_of (n := 63) (k := 12) (x := "_law_script") (CX := fun _ => CX0) (sp := fun w => spLaw (K w.params)) hn (by decide) hdf ⟨rfl, by decide, by decide⟩ hY F (fun _ _ a ns hl _ hS => ⟨a, ns, rfl, hS, hl, fun _ => rfl⟩) fun _ _ _ _ _ z => z
end My
open PySem PySem.W PyProof.Rows in
set_option maxRecDepth 100000 in
set_option maxHeartbeats 0 in
set_option pp.maxSteps 40 in
theorem PySem.Challenge.cw_spinemarks_k14_lists_in_order_holds : PySem.Challenge.rw_spinemarks_k14_lists_in_order.Holds := by
  w_on; o_law; k_head; (case hw => w_witness2)
  k_fill
  refine My.walk (l := PySem.Challenge.rw_spinemarks_k14_lists_in_order) rfl rfl (fun w h Y => PySem.W.kIn_of Y) ?F
  case F =>
    intro w mg fa h KX G hmg
    refine' My.all_mk KX G hmg ?aC_Mark ?pg_Mark ?hd_Mark ?po_Mark ?sa_Mark ?mk_Mark ?kc_Mark ?t1_Mark ?t4_Mark ?t2_Mark ?t3_Mark ?ne_Mark ?ic_Mark ?ty_Mark ?na_Mark_parts ?na_Mark_text ?a_in_order ?l_in_order ?c_in_order ?k_in_order ?e_in_order ?x_in_order ?v_in_order ?a_first_wrong ?l_first_wrong ?c_first_wrong ?k_first_wrong ?a_key ?l_key ?c_key ?k_key ?a_is_number ?l_is_number ?c_is_number ?k_is_number ?a_is_whole ?l_is_whole ?c_is_whole ?k_is_whole ?e_is_whole ?x_is_whole ?v_is_whole ?a_is_figures ?l_is_figures ?c_is_figures ?k_is_figures ?a_is_letters ?l_is_letters ?c_is_letters ?k_is_letters ?a_is_points ?l_is_points ?c_is_points ?k_is_points ?a_is_maker ?l_is_maker ?c_is_maker ?k_is_maker ?a_is_ended ?l_is_ended ?c_is_ended ?k_is_ended ?a_Mark_init ?i_Mark_init ?l_Mark_init ?c_Mark_init ?k_Mark_init ?e_Mark_init ?x_Mark_init ?v_Mark_init ?a_Mark_eq ?i_Mark_eq ?l_Mark_eq ?c_Mark_eq ?k_Mark_eq ?a_Mark_str ?i_Mark_str ?l_Mark_str ?c_Mark_str ?k_Mark_str ?a_Mark_repr ?i_Mark_repr ?l_Mark_repr ?c_Mark_repr ?k_Mark_repr ?a_Mark_len ?i_Mark_len ?l_Mark_len ?c_Mark_len ?k_Mark_len ?a_Mark_letters ?i_Mark_letters ?l_Mark_letters ?c_Mark_letters ?k_Mark_letters ?a_Mark_number ?i_Mark_number ?l_Mark_number ?c_Mark_number ?k_Mark_number ?a_Mark_points ?i_Mark_points ?l_Mark_points ?c_Mark_points ?k_Mark_points ?a_Mark_makers ?i_Mark_makers ?l_Mark_makers ?c_Mark_makers ?k_Mark_makers ?a_Mark_year ?i_Mark_year ?l_Mark_year ?c_Mark_year ?k_Mark_year ?a_Mark_copy_number ?i_Mark_copy_number ?l_Mark_copy_number ?c_Mark_copy_number ?k_Mark_copy_number ?a_Mark_parts ?i_Mark_parts ?l_Mark_parts ?c_Mark_parts ?k_Mark_parts ?a_Mark_key ?i_Mark_key ?l_Mark_key ?c_Mark_key ?k_Mark_key ?a_Mark_ahead ?i_Mark_ahead ?l_Mark_ahead ?c_Mark_ahead ?k_Mark_ahead ?a_Mark_head ?i_Mark_head ?l_Mark_head ?c_Mark_head ?k_Mark_head ?a_Mark_book ?i_Mark_book ?l_Mark_book ?c_Mark_book ?k_Mark_book ?a_Mark_with_year ?i_Mark_with_year ?l_Mark_with_year ?c_Mark_with_year ?k_Mark_with_year ?e_Mark_with_year ?x_Mark_with_year ?v_Mark_with_year ?a_Mark_with_copy ?i_Mark_with_copy ?l_Mark_with_copy ?c_Mark_with_copy ?k_Mark_with_copy ?e_Mark_with_copy ?x_Mark_with_copy ?v_Mark_with_copy ?a_Mark_same_book ?i_Mark_same_book ?l_Mark_same_book ?c_Mark_same_book ?k_Mark_same_book ?a_kept_makers ?l_kept_makers ?c_kept_makers ?k_kept_makers ?a_text_of ?l_text_of ?c_text_of ?k_text_of ?a_l_cell_at ?l_l_cell_at ?c_l_cell_at ?k_l_cell_at ?a_l_pool ?l_l_pool ?c_l_pool ?k_l_pool ?a_l_take ?l_l_take ?c_l_take ?k_l_take ?a_l_figures ?l_l_figures ?c_l_figures ?k_l_figures ?a_l_maker ?l_l_maker ?c_l_maker ?k_l_maker ?a_l_parts ?l_l_parts ?c_l_parts ?k_l_parts ?a_l_near_word ?l_l_near_word ?c_l_near_word ?k_l_near_word ?a_l_near_makers ?l_l_near_makers ?c_l_near_makers ?k_l_near_makers ?a_l_near_year ?l_l_near_year ?c_l_near_year ?k_l_near_year ?a_l_near_copy ?l_l_near_copy ?c_l_near_copy ?k_l_near_copy ?a_l_near ?l_l_near ?c_l_near ?k_l_near ?a_l_mark ?l_l_mark ?c_l_mark ?k_l_mark ?a_l_key ?l_l_key ?c_l_key ?k_l_key ?a_l_whole ?l_l_whole ?c_l_whole ?k_l_whole ?a_l_cells ?l_l_cells ?c_l_cells ?k_l_cells ?a_l_rows ?l_l_rows ?c_l_rows ?k_l_rows ?a_l_once ?l_l_once ?c_l_once ?k_l_once ?a_l_same ?l_l_same ?c_l_same ?k_l_same ?a_l_wrong ?l_l_wrong ?c_l_wrong ?k_l_wrong ?a_law ?l_law ?c_law ?k_law ?z_len ?z_isinstance ?z_range ?z_max ?z_int ?z_bool ?z_str ?z_list ?z_tuple ?z_zip ?z_sorted ?q_SMALL
    (case aC_Mark => k_is)
    (case pg_Mark => k_is)
    (case hd_Mark => k_is)
    (case po_Mark => k_is)
    (case sa_Mark => k_is)
    (case mk_Mark => k_is)
    (case kc_Mark => k_is)
    (case t1_Mark => k_is)
    (case t4_Mark => k_is)
    (case t2_Mark => k_is)
    (case t3_Mark => k_is)
    (case ne_Mark => k_is)
    (case ic_Mark => k_is)
    (case ty_Mark => k_is)
    (case na_Mark_parts => k_is)
    (case na_Mark_text => k_is)
    (case a_in_order => k_is)
    (case l_in_order => k_is)
    (case c_in_order => k_is)
    (case k_in_order => k_is)
    (case e_in_order => k_is)
    (case x_in_order => first | rfl | k_is)
    (case v_in_order => first | (repeat (first | exact .nil | refine .cons ?_ ?_ | rfl | exact ⟨_, rfl⟩)))
    (case a_first_wrong => k_is)
    (case l_first_wrong => k_is)
    (case c_first_wrong => k_is)
    (case k_first_wrong => k_is)
    (case a_key => k_is)
    (case l_key => k_is)
    (case c_key => k_is)
    (case k_key => k_is)
    (case a_is_number => k_is)
    (case l_is_number => k_is)
    (case c_is_number => k_is)
    (case k_is_number => k_is)
    (case a_is_whole => k_is)
    (case l_is_whole => k_is)
    (case c_is_whole => k_is)
    (case k_is_whole => k_is)
    (case e_is_whole => k_is)
    (case x_is_whole => first | rfl | k_is)
    (case v_is_whole => first | (repeat (first | exact .nil | refine .cons ?_ ?_ | rfl | exact ⟨_, rfl⟩)))
    (case a_is_figures => k_is)
    (case l_is_figures => k_is)
    (case c_is_figures => k_is)
    (case k_is_figures => k_is)
    (case a_is_letters => k_is)
    (case l_is_letters => k_is)
    (case c_is_letters => k_is)
    (case k_is_letters => k_is)
    (case a_is_points => k_is)
    (case l_is_points => k_is)
    (case c_is_points => k_is)
    (case k_is_points => k_is)
    (case a_is_maker => k_is)
    (case l_is_maker => k_is)
    (case c_is_maker => k_is)
    (case k_is_maker => k_is)
    (case a_is_ended => k_is)
    (case l_is_ended => k_is)
    (case c_is_ended => k_is)
    (case k_is_ended => k_is)
    (case a_Mark_init => k_is)
    (case i_Mark_init => k_is)
    (case l_Mark_init => k_is)
    (case c_Mark_init => k_is)
    (case k_Mark_init => k_is)
    (case e_Mark_init => k_is)
    (case x_Mark_init => first | rfl | k_is)
    (case v_Mark_init => first | (repeat (first | exact .nil | refine .cons ?_ ?_ | rfl | exact ⟨_, rfl⟩)))
    (case a_Mark_eq => k_is)
    (case i_Mark_eq => k_is)
    (case l_Mark_eq => k_is)
    (case c_Mark_eq => k_is)
    (case k_Mark_eq => k_is)
    (case a_Mark_str => k_is)
    (case i_Mark_str => k_is)
    (case l_Mark_str => k_is)
    (case c_Mark_str => k_is)
    (case k_Mark_str => k_is)
    (case a_Mark_repr => k_is)
    (case i_Mark_repr => k_is)
    (case l_Mark_repr => k_is)
    (case c_Mark_repr => k_is)
    (case k_Mark_repr => k_is)
    (case a_Mark_len => k_is)
    (case i_Mark_len => k_is)
    (case l_Mark_len => k_is)
    (case c_Mark_len => k_is)
    (case k_Mark_len => k_is)
    (case a_Mark_letters => k_is)
    (case i_Mark_letters => k_is)
    (case l_Mark_letters => k_is)
    (case c_Mark_letters => k_is)
    (case k_Mark_letters => k_is)
    (case a_Mark_number => k_is)
    (case i_Mark_number => k_is)
    (case l_Mark_number => k_is)
    (case c_Mark_number => k_is)
    (case k_Mark_number => k_is)
    (case a_Mark_points => k_is)
    (case i_Mark_points => k_is)
    (case l_Mark_points => k_is)
    (case c_Mark_points => k_is)
    (case k_Mark_points => k_is)
    (case a_Mark_makers => k_is)
    (case i_Mark_makers => k_is)
    (case l_Mark_makers => k_is)
    (case c_Mark_makers => k_is)
    (case k_Mark_makers => k_is)
    (case a_Mark_year => k_is)
    (case i_Mark_year => k_is)
    (case l_Mark_year => k_is)
    (case c_Mark_year => k_is)
    (case k_Mark_year => k_is)
    (case a_Mark_copy_number => k_is)
    (case i_Mark_copy_number => k_is)
    (case l_Mark_copy_number => k_is)
    (case c_Mark_copy_number => k_is)
    (case k_Mark_copy_number => k_is)
    (case a_Mark_parts => k_is)
    (case i_Mark_parts => k_is)
    (case l_Mark_parts => k_is)
    (case c_Mark_parts => k_is)
    (case k_Mark_parts => k_is)
    (case a_Mark_key => k_is)
    (case i_Mark_key => k_is)
    (case l_Mark_key => k_is)
    (case c_Mark_key => k_is)
    (case k_Mark_key => k_is)
    (case a_Mark_ahead => k_is)
    (case i_Mark_ahead => k_is)
    (case l_Mark_ahead => k_is)
    (case c_Mark_ahead => k_is)
    (case k_Mark_ahead => k_is)
    (case a_Mark_head => k_is)
    (case i_Mark_head => k_is)
    (case l_Mark_head => k_is)
    (case c_Mark_head => k_is)
    (case k_Mark_head => k_is)
    (case a_Mark_book => k_is)
    (case i_Mark_book => k_is)
    (case l_Mark_book => k_is)
    (case c_Mark_book => k_is)
    (case k_Mark_book => k_is)
    (case a_Mark_with_year => k_is)
    (case i_Mark_with_year => k_is)
    (case l_Mark_with_year => k_is)
    (case c_Mark_with_year => k_is)
    (case k_Mark_with_year => k_is)
    (case e_Mark_with_year => k_is)
    (case x_Mark_with_year => first | rfl | k_is)
    (case v_Mark_with_year => first | (repeat (first | exact .nil | refine .cons ?_ ?_ | rfl | exact ⟨_, rfl⟩)))
    (case a_Mark_with_copy => k_is)
    (case i_Mark_with_copy => k_is)
    (case l_Mark_with_copy => k_is)
    (case c_Mark_with_copy => k_is)
    (case k_Mark_with_copy => k_is)
    (case e_Mark_with_copy => k_is)
    (case x_Mark_with_copy => first | rfl | k_is)
    (case v_Mark_with_copy => first | (repeat (first | exact .nil | refine .cons ?_ ?_ | rfl | exact ⟨_, rfl⟩)))
    (case a_Mark_same_book => k_is)
    (case i_Mark_same_book => k_is)
    (case l_Mark_same_book => k_is)
    (case c_Mark_same_book => k_is)
    (case k_Mark_same_book => k_is)
    (case a_kept_makers => k_is)
    (case l_kept_makers => k_is)
    (case c_kept_makers => k_is)
    (case k_kept_makers => k_is)
    (case a_text_of => k_is)
    (case l_text_of => k_is)
    (case c_text_of => k_is)
    (case k_text_of => k_is)
    (case a_l_cell_at => k_is)
    (case l_l_cell_at => k_is)
    (case c_l_cell_at => k_is)
    (case k_l_cell_at => k_is)
    (case a_l_pool => k_is)
    (case l_l_pool => k_is)
    (case c_l_pool => k_is)
    (case k_l_pool => k_is)
    (case a_l_take => k_is)
    (case l_l_take => k_is)
    (case c_l_take => k_is)
    (case k_l_take => k_is)
    (case a_l_figures => k_is)
    (case l_l_figures => k_is)
    (case c_l_figures => k_is)
    (case k_l_figures => k_is)
    (case a_l_maker => k_is)
    (case l_l_maker => k_is)
    (case c_l_maker => k_is)
    (case k_l_maker => k_is)
    (case a_l_parts => k_is)
    (case l_l_parts => k_is)
    (case c_l_parts => k_is)
    (case k_l_parts => k_is)
    (case a_l_near_word => k_is)
    (case l_l_near_word => k_is)
    (case c_l_near_word => k_is)
    (case k_l_near_word => k_is)
    (case a_l_near_makers => k_is)
    (case l_l_near_makers => k_is)
    (case c_l_near_makers => k_is)
    (case k_l_near_makers => k_is)
    (case a_l_near_year => k_is)
    (case l_l_near_year => k_is)
    (case c_l_near_year => k_is)
    (case k_l_near_year => k_is)
    (case a_l_near_copy => k_is)
    (case l_l_near_copy => k_is)
    (case c_l_near_copy => k_is)
    (case k_l_near_copy => k_is)
    (case a_l_near => k_is)
    (case l_l_near => k_is)
    (case c_l_near => k_is)
    (case k_l_near => k_is)
    (case a_l_mark => k_is)
    (case l_l_mark => k_is)
    (case c_l_mark => k_is)
    (case k_l_mark => k_is)
    (case a_l_key => k_is)
    (case l_l_key => k_is)
    (case c_l_key => k_is)
    (case k_l_key => k_is)
    (case a_l_whole => k_is)
    (case l_l_whole => k_is)
    (case c_l_whole => k_is)
    (case k_l_whole => k_is)
    (case a_l_cells => k_is)
    (case l_l_cells => k_is)
    (case c_l_cells => k_is)
    (case k_l_cells => k_is)
    (case a_l_rows => k_is)
    (case l_l_rows => k_is)
    (case c_l_rows => k_is)
    (case k_l_rows => k_is)
    (case a_l_once => k_is)
    (case l_l_once => k_is)
    (case c_l_once => k_is)
    (case k_l_once => k_is)
    (case a_l_same => k_is)
    (case l_l_same => k_is)
    (case c_l_same => k_is)
    (case k_l_same => k_is)
    (case a_l_wrong => k_is)
    (case l_l_wrong => k_is)
    (case c_l_wrong => k_is)
    (case k_l_wrong => k_is)
    (case a_law => k_is)
    (case l_law => k_is)
    (case c_law => k_is)
    (case k_law => k_is)
    (case z_len => k_is)
    (case z_isinstance => k_is)
    (case z_range => k_is)
    (case z_max => k_is)
    (case z_int => k_is)
    (case z_bool => k_is)
    (case z_str => k_is)
    (case z_list => k_is)
    (case z_tuple => k_is)
    (case z_zip => k_is)
    (case z_sorted => k_is)
    (case q_SMALL => k_is)
